import PyProof.Rows.All
import Wide.Line
import Wide.Once
import Wide.FinOn
import OpenK.KLine
import OpenK.KOwn
import Open.Pieces
import KE.RegKIsAll
import KE.KIntText
import KE.KFromBytes
import KE.KItem
import KE.KxBytes
import KE.KRevIter
import KE.KUnpack
import KE.KIsAll
import KE.BitLaws
import PyProof.EqAt
import PyProof.EqKinds
import PyProof.TupleCall
import PySem.Challenge.RW_keyrise_k41_read_whole
set_option Elab.async false
set_option linter.all false
section KRGG
namespace PySem.W.Fast
def tw4347030840688333856:=0
def tw13942922383076648767:=0
def tw12843903742671874703:=0
def tw16469157734679281861:=0
def tw15862007220055102708:=0
def tw4377796739810814904:=0
def tw7217249279796847936:=0
def tw15420957878489767483:=0
def tw14584246346803783393:=0
def tw15221356573953635632:=0
def tw7740457478382488547:=0
def tw11375397204414390104:=0
def tw9752715208664976440:=0
def tw9942807118359463060:=0
def tw5882839097804276002:=0
def tw17722493905744866683:=0
def tw12696503080295600230:=0
def tw2748281033721510175:=0
def tw15632092000759084696:=0
def tw11285678019297364773:=0
def tw12338731306399610732:=0
def tw12348226485782484063:=0
def tw14746202844245116054:=0
def tw7493996154002994169:=0
def tw11307542494220382355:=0
def tw11759327689984386947:=0
def tw7963153748652422120:=0
def tw8776824803471081383:=0
def tw15910941506268454745:=0
def tw17047405358015377411:=0
def tw18373042941175376860:=0
def tw5926326500719080359:=0
def tw4129223468700673910:=0
def tw17464368548865840442:=0
def tw3193033804058433642:=0
def tw3388261108618178489:=0
def tw7091010090385736588:=0
def tw16711357431634272400:=0
def tw2611257597888772518:=0
def tw59811380343621150:=0
def tw10785406115715134269:=0
def tw6554162301221471647:=0
def tw14295969598448792081:=0
def tw3410883945061593800:=0
def tw12819475122750050310:=0
def tw15902619164750196841:=0
def tw15733617910197740017:=0
def tw583529700378162008:=0
def tw11365895800290552305:=0
def tw2639974856218677684:=0
def tw7072450911883479903:=0
def tw4553827295722785329:=0
def tw16028206069690098778:=0
def tw1134655106439458485:=0
def tw8661103261456684015:=0
def tw14643422397578818263:=0
def tw67406586872617160:=0
def tw1583299925969838091:=0
def tw16952133794870281701:=0
def tw13769963041230472250:=0
def tw17727182371947804315:=0
def tw1802645042690113003:=0
def tw10433567710455171932:=0
def tw14001025553167179772:=0
def tw9648316306815926608:=0
def tw648222273322864865:=0
def tw7281419555951639843:=0
def tw4576315731270293460:=0
def tw13588645552305048559:=0
def tw8890686966309901619:=0
def tw213659481757357023:=0
def tw13783167765097331119:=0
def tw16484373235233323003:=0
def tw5563434280631898639:=0
def tw6286770148483206755:=0
def tw6657910795696698815:=0
def tw8832938844052329708:=0
def tw5487931154079388545:=0
def tw15472075141073827564:=0
def tw10309526130460222242:=0
def tw4641394605618007983:=0
def tw5520594609316517313:=0
def tw2329151683504993375:=0
def tw4143383846426395767:=0
def tw12324112443247812009:=0
def tw9538779685996785805:=0
def tw6857345925398412229:=0
def tw9394217582556762757:=0
def tw17945978012991258357:=0
def tw15713461617544865694:=0
def tw16431032929241196071:=0
def tw10588782336371210188:=0
def tw7226978691957134893:=0
def tw18021965825034534713:=0
def tw18200283393036968579:=0
def tw15098504102513207355:=0
def tw6723318066146181642:=0
def tw3301051832626021737:=0
def tw5428722359339429757:=0
def tw15164148665579101172:=0
def tw4606617000839895423:=0
def tw7852661146605823466:=0
def tw5964635586218475779:=0
def tw979095866598319235:=0
def tw9566490970318289016:=0
def tw17084728044919191291:=0
def tw8276171030340466950:=0
def tw7397793698438416445:=0
def tw16301991351855385982:=0
def tw5497800362559160020:=0
def tw4976572293424302378:=0
def tw15902820786432078956:=0
def tw11315769273325084300:=0
def tw9765147763995856214:=0
def tw18388189172343605309:=0
def tw3882034941659532078:=0
def tw3324379312574851677:=0
def tw7308547379783275242:=0
def tw4039151722516807592:=0
def tw3719888233041684198:=0
def tw12176634488416654693:=0
def tw5482354944553638106:=0
def tw8433581840912296287:=0
def tw15511805576426109468:=0
def tw8817192047158859978:=0
def tw8198348009711851909:=0
def tw9350186808880309483:=0
def tw7743186908624475474:=0
def tw11954994729660938501:=0
def tw9883805332369111915:=0
def tw16527489470595277796:=0
def tw11133438181240629187:=0
def tw2800585891069229834:=0
def tw10513268369172877236:=0
def tw1275257110926951038:=0
def tw1791597450069529495:=0
def tw4409281312679245962:=0
def tw4234601287735525715:=0
def tw14139846279560748415:=0
def tw4970587566243318818:=0
def tw10174590756279268134:=0
def tw5054544982724999145:=0
def tw15095628436726586926:=0
def tw10133396611602707605:=0
def tw12573193184498266745:=0
def tw8694219875700561298:=0
def tw17299388237897513563:=0
def tw12873611715896670451:=0
def tw1380846671116394420:=0
def tw6886812593756787288:=0
def tw13662227704465424337:=0
def tw4219902721350324374:=0
def tw261391271351757251:=0
def tw4930923093125057211:=0
def tw7105366617641684569:=0
def tw6035763669239987994:=0
def tw1810377461874654782:=0
def tw16756160407241000680:=0
def tw1975577276892351770:=0
def tw10927012228346408387:=0
def tw1893180900136571975:=0
def tw6071942007055993045:=0
def tw5475056159660899074:=0
def tw5925971950823716569:=0
def tw12472250882228931938:=0
def tw14132983388448412922:=0
def tw16259544666408414002:=0
def tw10778787267180771653:=0
def tw4190311713925731062:=0
def tw787527674274854660:=0
def tw18366721202695111488:=0
def tw13921122628923294719:=0
def tw5905286947574413289:=0
def tw6337713443890597172:=0
def tw8939485117305501957:=0
def tw14639237481336493967:=0
def tw2215496166454336605:=0
def tw17250912240178406716:=0
def tw4520213468680950720:=0
def tw14050698129869525258:=0
def tw10158336275623736203:=0
def tw12280679657130569303:=0
def tw8412283242119140128:=0
def tw688874846632351730:=0
def tw10112420771419729407:=0
def tw9582087359850456495:=0
def tw16756735629156957909:=0
def tw5374606955664723296:=0
def tw6183741488026450974:=0
def tw15588205095233233077:=0
def tw14078645116044926508:=0
def tw7681541826314050604:=0
def tw592467075874626222:=0
def tw13886555343375192851:=0
def tw17112542740825578585:=0
def tw15877951487091939105:=0
def tw4175258194786331229:=0
def tw1524005133238918559:=0
def tw13283503453711509244:=0
def tw10030045036231790362:=0
def tw9711470040948127819:=0
def tw8386617910859450585:=0
def tw18167427246844881695:=0
def tw3760283479024261750:=0
def tw9597278942339295915:=0
def tw8703407867313422419:=0
def tw16472916588937435213:=0
def tw15923608028967281112:=0
def tw12318685703403614474:=0
def tw307999330539363400:=0
def tw16923895863266855850:=0
def tw3400711782672554482:=0
def tw1003149137011667297:=0
def tw5174226388960520170:=0
def tw12486050373300252547:=0
def tw11402974833285460077:=0
def tw7141624208154999189:=0
def tw10753135177541634534:=0
def tw5010497432521878995:=0
def tw5726110170074747193:=0
def tw9803114728891638789:=0
def tw2718285584478994749:=0
def tw18059028215923703730:=0
def tw13125263547112173446:=0
def tw779942709315496868:=0
def tw2267757314702565020:=0
def tw13386955181772860724:=0
def tw15472867694328970971:=0
def tw13801227716348152048:=0
def tw6083877750079984151:=0
def tw11150490072903442251:=0
def tw1772737834773557021:=0
def tw9579416360768656751:=0
def tw9826546625141217055:=0
def tw14230275996196522006:=0
def tw5170958262818132753:=0
def tw5822436449353180372:=0
def tw10027675449354998160:=0
def tw100798088378390084:=0
def tw15907615452006418787:=0
def tw12543672211948628030:=0
def tw11862118076589711337:=0
def tw15692370232068918642:=0
def tw12266725156936384947:=0
def tw17871124736394266738:=0
def tw2659072476663833792:=0
def tw7999140596706137730:=0
def tw15063333248055694053:=0
def tw18228334858345538506:=0
def tw11946768462935014561:=0
def tw6397855274030963072:=0
def tw11040889805774676696:=0
def tw8221708295127157280:=0
def tw3574387170936441329:=0
def tw1984902579716283286:=0
def tw4224244677098093314:=0
def tw6213527012700526873:=0
def tw8389789286539519038:=0
def tw10933569153174611140:=0
def tw8046835009148069343:=0
def tw5997419971334671823:=0
def tw2767560431810904921:=0
def tw11842599192256329686:=0
def tw5966552685120622305:=0
def tw918859620620758905:=0
def tw6561266733053125175:=0
def tw2755113537372302902:=0
def tw17410833354666351251:=0
def tw7932079643575695470:=0
def tw5571704247451501893:=0
def tw13801390525527750239:=0
def tw8405495039745342860:=0
def tw15592975627571476468:=0
def tw1744729047450273221:=0
def tw9676900826163330547:=0
def tw12295976438304774567:=0
def tw12142406325865977342:=0
def tw7451852833576886472:=0
def tw18025103202204404123:=0
def tw4603138725126698966:=0
def tw15669449428810770344:=0
def tw3621199119798838764:=0
def tw9583891939944680207:=0
def tw1626862263513390308:=0
def tw16200512664781546447:=0
def tw8083762859954685763:=0
def tw6871786195331299338:=0
def tw16267289327600288432:=0
def tw865383717961641771:=0
def tw8156058656153023530:=0
def tw17054272909408094977:=0
def tw14320370996805796159:=0
def tw15038175829335665188:=0
def tw10459804482560722591:=0
def tw17794944637469181668:=0
def tw13814925961453674011:=0
def tw10250282241524925770:=0
def tw17086452943708960654:=0
def tw545694091170230544:=0
def tw12174880794736873308:=0
def tw6338767469802934988:=0
def tw8197304871997483423:=0
def tw15684369583256266333:=0
def tw17736870672931732487:=0
def tw14767093692687825724:=0
def tw12508157939111785315:=0
def tw5868471191974999324:=0
def tw18154886300135633729:=0
def tw5423630399285905547:=0
def tw9905309056465499203:=0
def tw2339302741944197588:=0
def tw17364153854445751430:=0
def tw3324397886060182399:=0
def tw4622184844143317426:=0
def tw4673674355661221612:=0
def tw663874864441383083:=0
def tw3999551692221560817:=0
def tw17347524983925029797:=0
def tw14358508515638068354:=0
def tw4790876236763424128:=0
def tw14748738399395179780:=0
def tw14262057899353484803:=0
def tw3253009079431714487:=0
def tw10556779322213122599:=0
def tw12556626980593034391:=0
def tw4996744375845929692:=0
def tw4854614600241232282:=0
def tw8384627691495929323:=0
def tw17811459885418963503:=0
def tw3004133718110596237:=0
def tw16571946902289060915:=0
def tw13341459520901514397:=0
def tw10372223938963170680:=0
def tw18198497722935045927:=0
def tw15640997312728440644:=0
def tw8538783234635623263:=0
def tw16484119908903571367:=0
def tw9548098706868647723:=0
def tw156149520175217139:=0
def tw2615724900306367522:=0
def tw15503649878732393277:=0
def tw1339800756775419369:=0
def tw6488823462650155774:=0
def tw9408438521046710718:=0
def tw8511000120112713901:=0
def tw17837685765009922398:=0
def tw3657432456943387068:=0
def tw2817057100412788862:=0
def tw5560505710024145231:=0
def tw2168364763308362422:=0
def tw3562690198266446215:=0
def tw3248518227374567338:=0
def tw6047365563440725995:=0
def tw1916459097956072484:=0
def tw11027099917682085862:=0
def tw11947710737887398020:=0
def tw17043298291359783371:=0
def tw11374688868214678212:=0
def tw5226184809074623592:=0
def tw6914595462004973149:=0
def tw16077111964291814735:=0
def tw580893211566620740:=0
def tw8388922687962770720:=0
def tw13129039268555917738:=0
def tw14340446740288317107:=0
def tw11182743537742748127:=0
def tw18294366780566654445:=0
def tw91669134438186925:=0
def tw8589798970158192905:=0
def tw11940383639096623599:=0
def tw16648134937706268778:=0
def tw12902971461651080511:=0
def tw15647223806808119926:=0
def tw12680321045046194154:=0
def tw18101809857932046422:=0
def tw15527354920134424983:=0
def tw15885142485732527479:=0
def tw3798184086160737800:=0
def tw7522298405516248640:=0
def tw4189817837058066142:=0
def tw12039447747258871975:=0
def tw6728589716699561297:=0
def tw7660669157457225853:=0
def tw14604035597513782624:=0
def tw18210239727384044819:=0
def tw6892704869417354911:=0
def tw5572739267495530028:=0
def tw3949414701339205955:=0
def tw10100761419291335208:=0
def tw13528607096364979331:=0
def tw9169423763728630290:=0
def tw4361216740525674223:=0
def tw12386321794889271764:=0
def tw3061525793939889061:=0
def tw5412731359938907310:=0
def tw75201182070074883:=0
def tw14912787431195292559:=0
def tw17260468763849885766:=0
def tw13544216107996279232:=0
def tw2548765905597629124:=0
def tw6155672485113672935:=0
def tw17002839979251464331:=0
def tw7078482656081952796:=0
def tw17579133096032489793:=0
def tw16509436510223861176:=0
def tw7591010384188692707:=0
def tw6797845994565971972:=0
def tw14012168891128000251:=0
def tw9800307579766259036:=0
def tw12043623347634212221:=0
def tw13588561820411570963:=0
def tw4999732139247144656:=0
def tw694642073802810570:=0
def tw13441299419454870634:=0
def tw10112532522902597213:=0
def tw4857428018390631631:=0
def tw4570569716603781997:=0
def tw8988689811685476287:=0
def tw7917629199457908180:=0
def tw9437761156204692261:=0
def tw2314970905242281209:=0
def tw904113871397063810:=0
def tw9054662325665689622:=0
def tw17530066289364983234:=0
def tw17806377201939316239:=0
def tw464401457136662524:=0
def tw1463621254008839983:=0
def tw2456828797039359063:=0
def tw14459743502021417964:=0
def tw277910453597672830:=0
def tw5096652759602350242:=0
def tw3526395632997387628:=0
def tw1483864528397657997:=0
def tw7318715738153841418:=0
def tw17078115314212131868:=0
def tw12231650839437833206:=0
def tw9452316223650021748:=0
def tw8912673900658571059:=0
def tw17716783065658325425:=0
def tw10278444759952635615:=0
def tw17995487649970216013:=0
def tw6560831341857405188:=0
def tw7654539787312603059:=0
def tw2906411361143026621:=0
def tw17634687179499029151:=0
def tw570536188666196964:=0
def tw6455047961046442739:=0
def tw4007702977611917601:=0
def tw2445328891018983107:=0
def tw9283659368360516404:=0
def tw11510448295517971925:=0
def tw18151841227162984767:=0
def tw4929986449012584819:=0
def tw8241414290369838734:=0
def tw2067323549077388404:=0
def tw1466316994865865727:=0
def tw12098942765511562078:=0
def tw6998213161938522900:=0
def tw4326610084274348958:=0
def tw7550994457270199423:=0
def tw5955726635297372163:=0
def tw5059717943422549806:=0
def tw2805262401423216358:=0
def tw13993301158048199439:=0
def tw15493487831443393472:=0
def tw4521313656935879900:=0
def tw7448958730700202012:=0
def tw7264271350526374916:=0
def tw1969032208239417933:=0
def tw9188348782090363411:=0
def tw3420983218328878144:=0
def tw3362710214939488542:=0
def tw18373710971657219128:=0
def tw10601010333593806495:=0
def tw15931482030086905401:=0
def tw8842269932181521606:=0
def tw7378553496403667557:=0
def tw459511253726657811:=0
def tw7069800380616614578:=0
def tw9538854906552997656:=0
def tw6098659767726216361:=0
def tw11897515941300561919:=0
def tw18198888816517795396:=0
def tw15950856522889171842:=0
def tw11585820088235539203:=0
def tw16838272940492964509:=0
def tw16124503543619060874:=0
def tw816734528976144541:=0
def tw16718718379526124970:=0
def tw14242560256056461168:=0
def tw10008306750005261004:=0
def tw10066683132498034009:=0
def tw11898332335971079515:=0
def tw6970778866998757877:=0
def tw4747768754058777414:=0
def tw7123498627849649531:=0
def tw5247053746619838622:=0
def tw6201339668011388419:=0
def tw2188275223756736854:=0
def tw16123982690064747684:=0
def tw8047446833730659992:=0
def tw5727316428074385721:=0
def tw12013260607624027416:=0
def tw15086960929366060980:=0
def tw17027689684337937673:=0
def tw1703405274936547888:=0
def tw12570672764974369437:=0
def tw3881348749417455218:=0
def tw13873384114991516754:=0
def tw15200566140566403525:=0
def tw17850173974805905482:=0
def tw6552876503142814833:=0
def tw1824554848002302309:=0
def tw4351482846669877855:=0
def tw15979864177956746166:=0
def tw10448524509423960937:=0
def tw167458290919640474:=0
def tw6509975396172466417:=0
def tw17715639390264956534:=0
def tw5701255106099306050:=0
def tw1091091303178163748:=0
def tw508075586028171355:=0
def tw5679581471857087449:=0
def tw2338737941685589406:=0
def tw3000177391843051813:=0
def tw4293394473162420937:=0
def tw15169478245819152308:=0
def tw15158552974777916586:=0
def tw13471410663960998231:=0
def tw11219020470312370625:=0
def tw10512294984984993137:=0
def tw14176907207384734371:=0
def tw921317336057122304:=0
def tw10802145475942141591:=0
def tw6028266773615531204:=0
def tw4479592329572115768:=0
def tw16659497228760137281:=0
def tw4681019145591326456:=0
def tw13618166362764249593:=0
def tw7878770984980282356:=0
def tw387827332641408909:=0
def tw2580812005349252490:=0
def tw8621317247060433837:=0
def tw4320472122146082050:=0
def tw8330085448033618806:=0
def tw14286331109891190077:=0
def tw12642400775155766327:=0
def tw13520827445979581888:=0
def tw4469125762781307192:=0
def tw891002838783202686:=0
def tw15162926072850965159:=0
def tw1015835421314840547:=0
def tw363084935823045115:=0
def tw4641582201713315045:=0
def tw5994684331937527369:=0
def tw12573346877448769170:=0
def tw4725929788801361432:=0
def tw17760976073967452093:=0
def tw5527007624980673823:=0
def tw3004425059709038798:=0
def tw10523096160501485240:=0
def tw16036781868990451057:=0
def tw2371096712172120119:=0
def tw12290359231426205268:=0
def tw4068944919111353596:=0
def tw12098585196044787596:=0
def tw16307601099808194058:=0
def tw5945974089522883900:=0
def tw9943447503058563146:=0
def tw17249633076457077688:=0
def tw14410754344454446675:=0
def tw5156755168053986824:=0
def tw13032363166590408091:=0
def tw9621318698641968021:=0
def tw5196571294324148231:=0
def tw3967614042749497994:=0
def tw6274999848731035244:=0
def tw9693927262274845679:=0
def tw7389648556133542603:=0
def tw10686885503460674277:=0
def tw847313969998217118:=0
def tw1617080565462713869:=0
def tw848239939558556783:=0
def tw6055888479169201355:=0
def tw4716010135325677215:=0
def tw4994165712736455737:=0
def tw7837726169097371360:=0
def tw11784968669742351399:=0
def tw8500148338790919411:=0
def tw5659045528833179970:=0
def tw3444120816966035124:=0
def tw12897999774961528697:=0
def tw11507553843131028154:=0
def tw12726062070055045554:=0
def tw6468347119788196296:=0
def tw3111434803037931979:=0
def tw7846696577272434524:=0
def tw8162471356493224114:=0
def tw5105101979040554145:=0
def tw13797597059912455681:=0
def tw7346845486541174555:=0
def tw2810738922951890913:=0
def tw17591334716521158057:=0
def tw6815142648354499339:=0
def tw12281327414900869528:=0
def tw10129147000763743623:=0
def tw17894273356272673395:=0
def tw9714933536607092876:=0
def tw2203222640345167141:=0
def tw320424620841066448:=0
def tw10004492297301628502:=0
def tw3245945380238426713:=0
def tw12594488240037905245:=0
def tw4756286275375306377:=0
def tw14726202185129308621:=0
def tw9231317475302567606:=0
def tw3713199337739589195:=0
def tw8357224964843339691:=0
def tw10953808662954112860:=0
def tw6771092188161812869:=0
def tw11702609862152744402:=0
def tw17892211389895572022:=0
def tw15041709281646791633:=0
def tw14591530160086093369:=0
def tw9954726010325826161:=0
def tw7446499572085334658:=0
def tw182808291194091155:=0
def tw3735632711852036394:=0
def tw8615362643284489445:=0
def tw14406599974565239766:=0
def tw14306685698001382889:=0
def tw399178502347227471:=0
def tw14748629417386118103:=0
def tw12233575507938454776:=0
def tw9833077695379936569:=0
def tw16055892861650129573:=0
def tw14333587435439405887:=0
def tw12615686369584142623:=0
def tw910581422850064623:=0
def tw12054435875594549233:=0
def tw13519223870425673645:=0
def tw3167699181428549264:=0
def tw12558306636185774339:=0
def tw9540936698529228801:=0
def tw576437894364537234:=0
def tw167227094588277130:=0
def tw16458165087540219119:=0
def tw8581601229135160683:=0
def tw7451914778677147680:=0
def tw2401516932082720151:=0
def tw1327415967910556768:=0
def tw4684317719430989086:=0
def tw500264313278707665:=0
def tw8158073586244320848:=0
def tw8107812869155963119:=0
def tw3544379311049912519:=0
def tw14078468628056549199:=0
def tw12132233692589687852:=0
def tw2337358290234106804:=0
def tw12375976595136397634:=0
def tw452480869414430431:=0
def tw13111808831187420105:=0
def tw8707733267729907353:=0
def tw6294919561818538912:=0
end PySem.W.Fast
theorem KR.absorb{G P:Prop}(_ _:G)(m:P):P:=m
open PySem PySem.W PyProof.Rows
set_option maxRecDepth 100000 in
set_option maxHeartbeats 0 in
noncomputable def KR.GG:{G:Prop // G→PySem.Challenge.rw_keyrise_k41_read_whole.Holds}:=⟨_,fun hG=>by
 refine KR.absorb hG ?hc ?main
 case main =>
  w_on;o_law;k_head
  case hw=>w_witness2
 case hc=>exact hG⟩
end KRGG
section
open Option renaming some → J,none → aw
open PySem renaming Addr → ae,Str → af,Value → ao,Shared → aI,Heap → aX,Stmt → bj,Obj → bo,wpAny_bind → bC,wpAny → bE,sizeLine → bT,Expr → b2,World → cu,Program → cX,Builtin → c1,Around → da,starEach → df,wpAny_pure → dv,mainGlobals → d5,FuncData → fu,compareOp → hP,wpAny_field → iM,PassesOwn → i9,wpAny_mono → ja,NameKind → jo,bootBuiltins → jJ,binaryOp → ka,codeAny → kA,codeAny_mono → lP,wpAny_call → pd,keywordEach → qs,wpAny_Call_Name_kw → qt,wpAny_seqItems → rY,wpAny_setField → rZ,wpAny_passesOwn → ui,wpAny_loadPart_at → wH,wpAny_setField_rec → wI,wpAny_truthy_bool → wJ,codeAny_call_builtin → y5,wpAny_getItem_str_slice → CP
open Bool renaming true → ag,false → ah
open PySem.W renaming findIn → dS,kitOne → eU,nsIn → fc,keepIn → j9,mroIn → kz,fnOf → lO,emptyDict → mu,instObj → mv,kia_one → pb,takerIn → rW,typeIn → rX,codeIn → ug,hasDictIn → uh,callWith_K → wG,makesIn → y3,methodCall_KW → y4,plainGet → CO,isClsIn → IZ,isFn → I0,lookIn → I1,specialIn → I2
theorem I{α:Sort _}{a:α}:a=a:=rfl
local macro_rules | `(tactic| omega) => `(tactic| first | with_reducible assumption | with_reducible exact Nat.le_of_succ_le_succ (by assumption) | with_reducible exact Nat.le_of_lt_succ (by assumption) | with_reducible exact Nat.le_of_lt (by assumption) | lia | omega (config := {}))
abbrev bO:=@PySem.W.Frag
abbrev gN:=@Option.some.inj
abbrev fS:=@PySem.W.mg_of
abbrev kh:=@PySem.W.mg_none_of
abbrev mC:=@List.mem_append_right
abbrev Uf:=@Option.map_eq_some_iff
abbrev mD:=@Bool.and_eq_true_iff
abbrev d2:=@Ne.symm
abbrev dm:=@List.getElem?_eq_getElem
abbrev cM:=@List.length_map
abbrev e9:=@List.getD_eq_getElem?_getD
abbrev fk:=@List.mem_cons_of_mem
abbrev dn:=@List.mem_cons
abbrev dI:=@List.length_append
abbrev cx:=@Nat.le_refl
abbrev ed:=@List.length_cons
abbrev fT:=@List.getElem?_map
abbrev d7:=@PySem.Heap.get?_push_of_some
abbrev ek:=@decide_eq_true
abbrev fY:=@List.size_toArray
abbrev jy:=@List.mem_of_getElem?
abbrev kE:=@List.getElem?_eq_some_iff
abbrev hz:=@List.mem_cons_self
abbrev fi:=@Nat.lt_of_lt_of_le
abbrev gM:=@decide_eq_false
abbrev ey:=@Nat.le_trans
abbrev fy:=@List.mem_singleton
abbrev fz:=@List.map_append
abbrev UF:=@Nat.zero_le
abbrev gU:=@PySem.Heap.get?_push_size
abbrev fA:=@List.append_assoc
abbrev g6:=@Bool.false_ne_true
abbrev lb:=@of_decide_eq_true
abbrev hy:=@Int.emod_lt_of_pos
abbrev dX:=@PySem.Heap.lt_size
abbrev hT:=@Array.length_toList
abbrev h7:=@Bool.and_eq_true
abbrev hl:=@Int.emod_nonneg
abbrev jw:=@List.map_cons
abbrev iC:=@List.length_singleton
abbrev fj:=@Nat.ne_of_lt
abbrev kg:=@List.length_take
abbrev sC:=@List.idxOf_lt_length_of_mem
abbrev ir:=@List.map_map
abbrev UV:=@List.take_of_length_le
abbrev jQ:=@decide_eq_true_eq
abbrev nE:=@List.take_add_one
abbrev zP:=@List.drop_eq_getElem_cons
abbrev jx:=@Nat.lt_or_ge
abbrev nF:=@List.length_drop
abbrev lW:=@List.length_range
abbrev jR:=@List.getElem_map
abbrev mE:=@List.cons_ne_nil
abbrev iD:=@List.all_eq_true
abbrev mF:=@List.flatten_cons
abbrev pE:=@List.map_congr_left
abbrev zQ:=@List.getElem?_eq_none
set_option Elab.async false
set_option linter.all false
set_option maxRecDepth 100000
namespace dg
open PySem PySem.Spec PyProof.Rows
noncomputable abbrev Key:=Sum Int af
noncomputable def NI:Key->ao->Bool
 | .inl k,v=>ao.isInt k v
 | .inr x,v=>ao.isStrOf x v
noncomputable def acK(w:cu):Key->Int
 | .inl k=>hashInt k
 | .inr x=>hashStr w x
theorem pH:∀ {k:Key} {v:ao},NI k v=ag->(∃ i t,k=Sum.inl i/\v=ao.int i t)\/(∃ x t,k=Sum.inr x/\v=ao.str x t)
 | .inl i,v,h=>by
  obtain⟨t,e⟩:=ao.isInt_shape (k:=i) (v:=v) h
  exact .inl ⟨i,t,I,e⟩
 | .inr x,v,h=>by
  obtain⟨t,e⟩:=ao.isStrOf_shape (x:=x) (v:=v) h
  exact .inr ⟨x,t,I,e⟩
theorem SW(a b:Int):decide ((Sum.inl a:Key)=Sum.inl b)=(a == b):=by
 by_cases e:a=b
 ·subst e;simp
 ·have h:¬(Sum.inl a:Key)=Sum.inl b:=fun q=>e (Sum.inl.inj q)
  rw[gM h]
  exact(beq_eq_false_iff_ne.mpr e).symm
theorem SS(a b:af):decide ((Sum.inr a:Key)=Sum.inr b)=decide (a=b):=by
 by_cases e:a=b
 ·subst e;simp
 ·have h:¬(Sum.inr a:Key)=Sum.inr b:=fun q=>e (Sum.inr.inj q)
  rw[gM h,gM e]
theorem SV(a:Int)(b:af):decide ((Sum.inl a:Key)=Sum.inr b)=ah:=gM (fun q=>nomatch q)
theorem SU(a:af)(b:Int):decide ((Sum.inr a:Key)=Sum.inl b)=ah:=gM (fun q=>nomatch q)
noncomputable def NR(prog:cX)(w:cu):PySem.KeyKind prog w Key where
 is:=NI
 hash:=acK w
 inj:=fun v a b ba aq=>by
  rcases pH ba with⟨i,t,rfl,rfl⟩ | ⟨x,t,rfl,rfl⟩
  ·rcases pH aq with⟨j,u,rfl,e⟩ | ⟨y,u,rfl,e⟩
   ·injection e with aG _;rw[aG]
   ·exact nomatch e
  ·rcases pH aq with⟨j,u,rfl,e⟩ | ⟨y,u,rfl,e⟩
   ·exact nomatch e
   ·injection e with aG _;rw[aG]
 byValue:=fun k v h=>by
  rcases pH h with⟨i,t,rfl,rfl⟩ | ⟨x,t,rfl,rfl⟩<;>rfl
 pyHash:=fun bl h=>by
  rcases pH bl with⟨i,t,rfl,rfl⟩ | ⟨x,t,rfl,rfl⟩
  ·exact wpAny_pyHash_int h
  ·exact wpAny_pyHash_str h
 eqBool:=fun dN bl h=>by
  rcases pH dN with⟨i,t,rfl,rfl⟩ | ⟨x,t,rfl,rfl⟩
  ·rcases pH bl with⟨j,u,rfl,rfl⟩ | ⟨y,u,rfl,rfl⟩
   ·rw[SW] at h;exact wpAny_eqBool_int h
   ·rw[SV] at h;exact SeqAt.EqAt.int_str i t y u _ _ _ _ h
  ·rcases pH bl with⟨j,u,rfl,rfl⟩ | ⟨y,u,rfl,rfl⟩
   ·rw[SU] at h;exact SeqAt.EqAt.str_int x t j u _ _ _ _ h
   ·rw[SS] at h;exact wpAny_eqBool_str h
 «strs» := fun k x t v h=>by
  rcases pH h with⟨i,u,rfl,e⟩ | ⟨y,u,rfl,e⟩
  ·exact nomatch e
  ·injection e with aG _
   subst aG
   cases v<;>rfl
inductive V where
 | bL | aH (b:Bool) | int (i:Int) | str (x:af) | kn (b:Array UInt8) | ta (b:UInt64) | ref (a:ae) | ty (n:String)
 deriving DecidableEq
noncomputable def RelV:V->ao->Prop
 | .bL,u=>u=ao.none
 | .aH b,u=>u=ao.bool b
 | .int i,u=>∃ t,u=ao.int i t
 | .str x,u=>∃ t,u=ao.str x t
 | .kn b,u=>∃ t,u=ao.bytes b t
 | .ta b,u=>∃ t,u=ao.float b t
 | .ref a,u=>u=ao.ref a
 | .ty n,u=>u=ao.type n
noncomputable abbrev Vals:List V->List ao->Prop:=Paired RelV
theorem Vals.length{xs:List V}{us:List ao}(r:Vals xs us):xs.length=us.length:=Paired.length r
theorem Vals.get:∀ {xs:List V} {us:List ao} {i:Nat} {x:V},Vals xs us->xs[i]?=J x->∃ u,us[i]?=J u/\RelV x u
 | _,_,_,_,.nil,e=>by simp at e
 | _,_,0,_,.cons r _,e=>by simp at e;subst e;exact⟨_,I,r⟩
 | _,_,i+1,x,.cons _ t,e=>by
  obtain⟨u,aj,ar⟩:=Vals.get (i:=i) (x:=x) t (by simpa using e)
  exact⟨u,by simpa using aj,ar⟩
theorem Vals.append:∀ {xs aY:List V} {us ws:List ao},Vals xs us->Vals aY ws->Vals (xs++aY) (us++ws)
 | _,_,_,_,.nil,s=>s
 | _,_,_,_,.cons r t,s => .cons r (Vals.append t s)
theorem Vals.take:∀ {xs:List V} {us:List ao} (n:Nat),Vals xs us->Vals (xs.take n) (us.take n)
 | _,_,0,_ => .nil
 | _,_,_+1,.nil => .nil
 | _,_,n+1,.cons r t => .cons r (Vals.take n t)
theorem Vals.drop:∀ {xs:List V} {us:List ao} (n:Nat),Vals xs us->Vals (xs.drop n) (us.drop n)
 | _,_,0,r=>r
 | _,_,_+1,.nil => .nil
 | _,_,n+1,.cons _ t=>Vals.drop n t
noncomputable def nz:Option V->Option ao->Prop
 | some v,J u=>RelV v u
 | none,aw=>True
 | _,_=>False
noncomputable def Dd{ue:Type}:List (ue×V)->List (ue×ao)->Prop:=Paired fun(p:ue×V) (q:ue×ao)=>p.1=q.1/\RelV p.2 q.2
noncomputable def gr:Key->V
 | .inl i => .int i
 | .inr x => .str x
inductive cv where
  | lst (xs:List V)
  | tup (xs:List V)
  | l2 (fH:List (Key×V)) | oI (fH:List (List Key×V))
  | set (S:Int->Bool) (n:Nat)
  | ins (C al:ae) (fs:List (af×V))
  | own (x:ae)
  | iL (fs:List (af×V))
  | met (f x:ae)
  | yF (lo aB:Int)
  | iG (o:bo) (u:cv)
  | qp (ps:Array ao)
  | ext (uf:aX->Prop)
noncomputable abbrev au:=ae->Option cv
noncomputable def upd(H:au)(a:ae)(o:cv):au:=fun b=>if b=a then J o else H b
theorem aM{H:au}{a:ae}{o:cv}:upd H a o a=J o:=by unfold upd;rw[if_pos rfl]
theorem bJ{H:au}{a b:ae}{o:cv}(h:b≠a):upd H a o b=H b:=by unfold upd;rw[if_neg h]
theorem eO{H:au}{a b:ae}{o:cv}(h:H a=J o)(h':H b=aw):a≠b:=by
 intro e;subst e;rw[h] at h';cases h'
section
variable (P:cX) (w:cu)
noncomputable def gg(H:au)(h:aX)(a:ae):cv->Prop
 | .lst xs=>xs.length<=bT/\∃ (bq:List ao) (n:Nat),Vals xs bq/\h.get? a=J {cls := .type "list",data := .seq bq.toArray n}
 | .tup xs=>xs.length<=bT/\∃ bq:List ao,Vals xs bq/\IsTup h a bq.toArray
 | .l2 fH=>fH.length<=bT/\(a == sysModules)=ah/\∃ vs,Dd fH vs/\h.DictOf (NR P w) a vs
 | .oI _=>False
 | .set S n=>h.SetOf (intKind P w) a S n
 | .ins C al fs=>H al=J (.own a)/\fs.length<=1000/\al≠a/\h.get? a=J (mv C al)/\
   ∃ eS,h.Ns1 al eS/\(∀ f,nz (fs.lookup f) (eS f))/\PySem.Within eS (fs.map (·.1))
 | .own _=>∃ o,h.get? a=J o
 | .iL fs=>∃ eS,h.Ns1 a eS/\∀ f,nz (fs.lookup f) (eS f)
 | .yF lo aB=>∃ t u v,h.get? a=J {cls := .type "range",data := .fields #[.int lo t,.int aB u,.int 1 v]}
 | .iG o u=>h.get? a=J o/\gg H h a u
 | .qp ps=>h.get? a=J {cls := .none,data := .fields ps}
 | .met f x=>h.get? a=J (PySem.W.methodObj (.ref f) (.ref x))
 | .ext uf=>uf h/\(∃ o,h.get? a=J o)/\∀ aj ar:aX,uf aj->(∀ o,aj.get? a=J o->ar.get? a=J o)->uf ar
def fh(H:au)(h:aX):Prop:=∀ a o,H a=J o->gg P w H h a o
end
section
variable {P:cX} {w:cu} {H H':au} {h h':aX} {a:ae} {o:cv}
theorem gg.lt(x:gg P w H h a o):a<h.objs.size:=by
 cases o with
 | lst xs=>obtain⟨_,_,_,_,e⟩:=x;exact dX e
 | tup xs=>obtain⟨_,_,_,p⟩:=x;exact p.lt
 | l2 fH=>obtain⟨_,_,_,_,o,_,_,e,_⟩:=x;exact dX e
 | oI fH=>exact(show False from x).elim
 | set S n=>obtain⟨o,_,_,_,e,_⟩:=x;exact dX e
 | ins C al fs=>obtain⟨_,_,_,e,_⟩:=x;exact dX e
 | own y=>obtain⟨_,e⟩:=x;exact dX e
 | iL fs=>obtain⟨_,⟨_,_,_,e,_⟩,_⟩:=x;exact dX e
 | yF lo aB=>obtain⟨_,_,_,e⟩:=x;exact dX e
 | iG dC u=>obtain⟨e,_⟩:=x;exact dX e
 | qp ps=>exact dX (show h.get? a=J _ from x)
 | met f y=>exact dX (show h.get? a=J _ from x)
 | ext uf=>obtain⟨_,⟨_,e⟩,_⟩:=x;exact dX e
theorem gg.mn(x:gg P w H h a o)(k:∀ b u,(b=a\/H b=J (.own a))->h.get? b=J u->h'.get? b=J u)
  (aJ:∀ b,H b=J (.own a)->H' b=J (.own a)) (aW:∀ b xs,H b=J (.tup xs)->H' b=J (.tup xs)):gg P w H' h' a o:=by
 induction o with
 | lst xs=>obtain⟨z,bq,n,r,e⟩:=x;exact⟨z,bq,n,r,k _ _ (.inl I) e⟩
 | tup xs=>obtain⟨z,bq,r,dC,e,c⟩:=x;exact⟨z,bq,r,dC,k _ _ (.inl I) e,c⟩
 | l2 fH=>obtain⟨z,y,vs,r,dC,aV,fV,e,c⟩:=x;exact⟨z,y,vs,r,dC,aV,fV,k _ _ (.inl I) e,c⟩
 | oI fH=>exact(show False from x).elim
 | set S n=>obtain⟨dC,aV,fV,t,e,c⟩:=x;exact⟨dC,aV,fV,t,k _ _ (.inl I) e,c⟩
 | ins C al fs =>
  obtain⟨d,z,ne,e,eS,⟨od,aV,fV,aL,c⟩,r⟩:=x
  exact⟨aJ _ d,z,ne,k _ _ (.inl I) e,eS,⟨od,aV,fV,k _ _ (.inr d) aL,c⟩,r⟩
 | own y=>obtain⟨dC,e⟩:=x;exact⟨dC,k _ _ (.inl I) e⟩
 | iL fs=>obtain⟨eS,⟨od,aV,fV,e,c⟩,r⟩:=x;exact⟨eS,⟨od,aV,fV,k _ _ (.inl I) e,c⟩,r⟩
 | yF lo aB=>obtain⟨t,u,v,e⟩:=x;exact⟨t,u,v,k _ _ (.inl I) e⟩
 | iG dC u cA=>obtain⟨e,q⟩:=x;exact⟨k _ _ (.inl I) e,cA q⟩
 | qp ps =>
  have e:h.get? a=J {cls := .none,data := .fields ps}:=x
  show h'.get? a=J {cls := .none,data := .fields ps}
  exact k a _ (.inl I) e
 | met f y =>
  have e:h.get? a=J (PySem.W.methodObj (.ref f) (.ref y)):=x
  show h'.get? a=J (PySem.W.methodObj (.ref f) (.ref y))
  exact k a _ (.inl I) e
 | ext uf=>obtain⟨p,⟨o,e⟩,st⟩:=x;exact⟨st _ _ p fun o q=>k _ _ (.inl I) q,⟨o,k _ _ (.inl I) e⟩,st⟩
theorem fh.lt(x:fh P w H h)(e:H a=J o):a<h.objs.size:=(x a o e).lt
theorem fh.fresh(x:fh P w H h)(e:h.objs.size<=a):H a=aw:=by
 cases q:H a with
 | none=>rfl
 | some u=>exact absurd (fi (x.lt q) e) (Nat.lt_irrefl _)
theorem fh.kept(x:fh P w H h)(k:∀ b u,h.get? b=J u->h'.get? b=J u):fh P w H h':=fun a o e =>
 (x a o e).mn (fun b u _ q=>k b u q) (fun _ q=>q) fun _ _ q=>q
theorem fh.laid(x:fh P w H h)(k:∀ b u,h.get? b=J u->h'.get? b=J u)(bh:h.objs.size<=a)(new:gg P w (upd H a o) h' a o):fh P w (upd H a o) h':=fun b u e=>by
 have bc:=x.fresh bh
 by_cases aq:b=a
 ·subst aq;rw[aM] at e;cases e;exact new
 ·rw[bJ aq] at e
  exact(x b u e).mn (fun c v _ q=>k c v q) (fun c q=>by rw[bJ (eO q bc)];exact q) fun c xs q=>by rw[bJ (eO q bc)];exact q
end
def zL(H:au)(a:ae)(u:cv):Prop:=H a=J u\/∃ o,H a=J (.iG o u)
theorem zL.ok{P:cX}{w:cu}{H:au}{h:aX}{a:ae}{u:cv}(r:zL H a u)(x:fh P w H h):gg P w H h a u:=by
 rcases r with r | ⟨o,r⟩
 ·exact x a u r
 ·obtain⟨_,q⟩:=x a _ r
  exact q
noncomputable def zw:Option cv->Prop
 | some (.lst _)=>True
 | some (.l2 _)=>True
 | some (.oI _)=>True
 | some (.set _ _)=>True
 | some (.ins _ _ _)=>True
 | some (.ext _)=>True
 | _=>False
section
variable {P:cX} {w:cu} {H:au} {h h':aX} {x e:ae} {d0:cv}
theorem fh.write(ok:fh P w H h)(mY:zw (H x))(he:e=x\/H e=J (.own x))(k:∀ b u,b≠e->h.get? b=J u->h'.get? b=J u)(vQ:∃ u,h'.get? e=J u)
  (new:gg P w (upd H x d0) h' x d0):fh P w (upd H x d0) h':=fun b u q=>by
 have NZ:∀ c y,H c=J (.own y)->c≠x:=fun c y r z=>by subst z;rw[r] at mY;exact mY
 have ad4:∀ c xs,H c=J (.tup xs)->c≠x:=fun c xs r z=>by subst z;rw[r] at mY;exact mY
 by_cases aq:b=x
 ·subst aq;rw[aM] at q;cases q;exact new
 ·rw[bJ aq] at q
  by_cases l7:b=e
  ·have iA:H b=J (.own x):=by
    rcases he with z | z
    ·exact absurd (l7.trans z) aq
    ·rw[l7];exact z
   rw[q] at iA;cases iA
   obtain⟨v,bl⟩:=vQ
   exact⟨v,by rw[l7];exact bl⟩
  ·refine(ok b u q).mn (fun c v hc r=>k c v ?_ r) (fun c r=>by rw[bJ (NZ c b r)];exact r) fun c xs r=>by rw[bJ (ad4 c xs r)];exact r
   rcases hc with rfl | hc
   ·exact l7
   ·rintro rfl
    rcases he with z | z
    ·exact NZ c b hc z
    ·rw[hc] at z;cases z;exact aq I
end
structure fB(fs ex:List ae)(H H':au)(h h':aX):Prop where
 keep:∀ b o,h.get? b=J o->H b=aw->b∉fs->b∉ex->h'.get? b=J o
 slot:∀ b o,h.get? b=J o->H b=aw->b∈fs->b∉ex->∃ c8,h'.get? b=J {o with slots:=c8}
 free:∀ b o,h.get? b=J o->H b=aw->b∉ex->H' b=aw
 there:∀ b o,h.get? b=J o->b∉ex->∃ d0,h'.get? b=J d0
 lL:∀ b xs,H b=J (.tup xs)->H' b=J (.tup xs)
 kM:∀ b o u,H b=J (.iG o u)->H' b=J (.iG o u)
 lK:∀ b ps,H b=J (.qp ps)->∃ more,H' b=J (.qp (ps++more))
section
variable {fs tc ex q0:List ae} {H H1 ax:au} {h aj ar h':aX} {a x e:ae} {o:cv}
theorem fB.any(u:fB fs ex H H1 h aj){b:ae}{dC:bo}(q:h.get? b=J dC)(n:H b=aw)(ay:b∉ex):∃ c8,aj.get? b=J {dC with slots:=c8}:=by
 by_cases aq:b∈fs
 ·exact u.slot b dC q n aq ay
 ·exact⟨dC.slots,u.keep b dC q n aq ay⟩
theorem fB.kept(k:∀ b u,h.get? b=J u->h'.get? b=J u):fB fs ex H H h h' :=
 ⟨fun b dC q _ _ _=>k b dC q,fun b dC q _ _ _=>⟨dC.slots,k b dC q⟩,fun _ _ _ n _=>n,fun b dC q _=>⟨dC,k b dC q⟩,fun _ _ q=>q,fun _ _ _ q=>q,fun _ ps q=>⟨#[],by rw[q];simp⟩⟩
theorem fB.refl:fB fs ex H H h h:=fB.kept fun _ _ q=>q
theorem fB.laid(k:∀ b u,h.get? b=J u->h'.get? b=J u)(bh:h.objs.size<=a)(bc:H a=aw):fB fs ex H (upd H a o) h h' where
 keep:=fun b u q _ _ _=>k b u q
 slot:=fun b u q _ _ _=>⟨u.slots,k b u q⟩
 free:=fun b u q n _=>by rw[bJ (fj (fi (dX q) bh))];exact n
 there:=fun b u q _=>⟨u,k b u q⟩
 lL:=fun b xs q=>by rw[bJ (eO q bc)];exact q
 kM:=fun b u xs q=>by rw[bJ (eO q bc)];exact q
 lK:=fun b ps q=>⟨#[],by rw[bJ (eO q bc),q];simp⟩
theorem fB.write(mY:zw (H x))(he:e=x\/H e=J (.own x))(k:∀ b u,b≠e->h.get? b=J u->h'.get? b=J u)(vQ:∃ u,h'.get? e=J u):fB fs ex H (upd H x o) h h':=by
 have ay:∀ b,H b=aw->b≠x:=fun b n z=>by subst z;rw[n] at mY;exact mY
 have aq:∀ b,H b=aw->b≠e:=fun b n z=>by
  subst z
  rcases he with r | r
  ·exact ay b n r
  ·rw[n] at r;cases r
 have hm:∀ b u,H b=J u->¬zw (J u)->b≠x:=fun b u q nm z=>by subst z;rw[q] at mY;exact nm mY
 refine⟨fun b u q n _ _=>k b u (aq b n) q,fun b u q n _ _=>⟨u.slots,k b u (aq b n) q⟩,fun b u q n _=>by rw[bJ (ay b n)];exact n,fun b u q _=>?_,
  fun b xs q=>by rw[bJ (hm b _ q fun z=>z)];exact q,fun b u xs q=>by rw[bJ (hm b _ q fun z=>z)];exact q,fun b ps q=>⟨#[],by rw[bJ (hm b _ q fun z=>z),q];simp⟩⟩
 by_cases l7:b=e
 ·subst l7;exact vQ
 ·exact⟨u,k b u l7 q⟩
end
noncomputable def Cx(h:aX)(H:au):List ae:=(List.range h.objs.size).filter fun a=>(H a).isSome
noncomputable def p8(h:aX)(H:au):aX:=PySem.W.hideAll h (Cx h H)
theorem W3(h:aX)(H:au):(p8 h H).objs.size=h.objs.size:=PySem.W.hideAll_size _ _
theorem X4{h:aX}{H:au}{b:ae}{o:bo}(e:h.get? b=J o)(n:H b=aw):(p8 h H).get? b=J o :=
 PySem.W.hideAll_get _ e fun hm=>by
  have q:(H b).isSome=ag:=(List.mem_filter.mp hm).2
  rw[n] at q;simp at q
theorem R2{h:aX}{H:au}{b:ae}{o:bo}(e:(p8 h H).get? b=J o):h.get? b=J o/\H b=aw:=by
 have e':h.get? b=J o:=PySem.W.of_hideAll (Cx h H) e
 refine⟨e',?_⟩
 cases q:H b with
 | none=>rfl
 | some x =>
  have hm:b∈Cx h H:=List.mem_filter.mpr ⟨List.mem_range.mpr (dX e'),by simp[q]⟩
  have z:(p8 h H).get? b=aw:=PySem.W.hideAll_none (Cx h H) hm
  rw[z] at e;cases e
noncomputable def Yx(g h:aX)(L:ae):List (ae×bo):=(List.range h.objs.size).filterMap fun a=>if a=L\/(g.get? a).isSome=ag then aw else (h.get? a).map fun o=>(a,o)
noncomputable def rest(g h:aX)(L d:ae):List (ae×bo):=(Yx g h L).filter fun p=>decide (p.1≠d)
structure Mod(K:bO)(mg:af->Option ao)(base:aX):Prop where
 qi:K.In base
 glob:base.Ns d5 mg
 blt:∃ mX,base.Ns builtinsNs mX/\∀ x:af,x≠"__name__"->mX x=jJ x
 nolimit:base.NoLimit
structure bp where
 prog:cX
 w:cu
 K:bO
 mg:af->Option ao
 base:aX
 A:da
 N:List af
 de:aI
 g4:au
 env:Env
 outer:List Env
 stack:List Env
 ex:List ae
 fn:af->Bool
 calm:Bool
 pn:List (ae×bo)
 xe:ao->aI->Prop
noncomputable def iy(l:List Env):List ae:=l.filterMap (·.frame)
noncomputable abbrev bp.fs(X:bp):List ae:=iy X.outer
def zR(sc:Scope)(x:af):Prop:=sc.names.lookup x=J .local\/sc.names.lookup x=J .cell\/sc.names.lookup x=J .free
def Loc(sc:Scope)(x:af):Prop:=sc.names.lookup x=J .local\/sc.names.lookup x=J .cell
def Look(env:Env)(h:aX)(m:af->Option ao)(x:af)(u:ao):Prop :=
 (env.kindOf x=J .local/\m x=J u)\/((env.kindOf x=J .cell\/env.kindOf x=J .free)/\∃ c,env.cells.lookup x=J c/\h.IsCell c (J u))
structure bp.Ok(X:bp):Prop where
 mod:Mod X.K X.mg X.base
 kind:X.env.scope.kind = .function
 glob:X.env.globals=d5
 blt:X.env.builtins=builtinsNs
 above:X.de.heap.objs.size<=X.env.locals
 inj:∀ x y c,X.env.cells.lookup x=J c->X.env.cells.lookup y=J c->x=y
 has:∀ x,(X.env.kindOf x=J .cell\/X.env.kindOf x=J .free)->∃ c,X.env.cells.lookup x=J c
 s6:∀ x c,X.fn x=ag->X.env.cells.lookup x=J c->X.de.heap.objs.size<=c
 hd:X.calm=ag->X.A.handled=aw
 frames:X.A.frames=J X.stack
 wt:X.stack=X.outer\/(X.stack=X.env::X.outer/\X.env.frame=J X.env.locals)
 Be:∀ b∈X.ex,b≠X.env.locals/\∀ x c,X.env.cells.lookup x=J c->c≠b
 bs:∀ b o,X.base.get? b=J o->X.de.heap.get? b=J o/\X.g4 b=aw
 nL:X.base.objs.size<=X.de.heap.objs.size
 tI:∀ b o,X.base.get? b=J o->b∉X.ex
 vy:∀ b∈X.ex,b∉X.fs
 ly:X.de.heap.FunFrames X.base X.outer
 pU:∀ b∈X.fs,X.g4 b=aw
structure Inv(X:bp)(ak:List (ae×bo))(ab:List (Option V))(H:au)(s:aI):Prop where
 ok:X.Ok
 os:s.os=X.de.os
 bare:AllBare s.gens
 base:fB X.fs X.ex X.g4 H X.de.heap s.heap
 loc:∃ m,s.heap.Ns X.env.locals m/\∀ (i:Nat) (x:af) (v:V),X.N[i]?=J x->ab[i]?=J (J v)->zR X.env.scope x->∃ u,RelV v u/\Look X.env s.heap m x u
 cell:∀ x c,X.env.cells.lookup x=J c->∃ v,s.heap.IsCell c v
 free:H X.env.locals=aw
 jY:∀ x c,X.env.cells.lookup x=J c->H c=aw
 pin:∀ p∈X.pn++ak,s.heap.get? p.1=J p.2/\H p.1=aw/\p.1≠X.env.locals/\p.1∉X.fs/\∀ v,p.2.data≠.cell v
 aR:fh X.prog X.w H s.heap
 len:ab.length=X.N.length
section
variable {X:bp} {ak:List (ae×bo)} {ab:List (Option V)} {H H':au} {s:aI} {h':aX}
theorem bp.Ok.adW(ok:X.Ok){b:ae}{o:bo}(e:X.base.get? b=J o):b∉X.fs:=fun aq=>by
 have:=(ok.ly.mem aq).1
 rw[e] at this;cases this
theorem Inv.bs(aa:Inv X ak ab H s):∀ b o,X.base.get? b=J o->s.heap.get? b=J o/\H b=aw:=fun b o e =>
 ⟨aa.base.keep b o (aa.ok.bs b o e).1 (aa.ok.bs b o e).2 (aa.ok.adW e) (aa.ok.tI b o e),aa.base.free b o (aa.ok.bs b o e).1 (aa.ok.bs b o e).2 (aa.ok.tI b o e)⟩
theorem Inv.bk(aa:Inv X ak ab H s):∀ b o,X.base.get? b=J o->s.heap.get? b=J o:=fun b o e=>(aa.bs b o e).1
theorem Inv.mod(aa:Inv X ak ab H s):Mod X.K X.mg X.base:=aa.ok.mod
theorem Inv.es(aa:Inv X ak ab H s):X.K.In s.heap:=aa.ok.mod.qi.keeps aa.bk
theorem Inv.lt(aa:Inv X ak ab H s):X.env.locals<s.heap.objs.size:=let ⟨_,bc,_⟩:=aa.loc;bc.lt
theorem Inv.c0(aa:Inv X ak ab H s):X.de.heap.objs.size<=s.heap.objs.size:=ey aa.ok.above (Nat.le_of_lt aa.lt)
theorem Inv.adX(aa:Inv X ak ab H s){a:ae}(h:s.heap.objs.size<=a):a∉X.fs:=fun aq=>by
 obtain⟨_,o,aJ,_⟩:=aa.ok.ly.mem aq
 exact absurd (fi (dX aJ) (ey aa.c0 h)) (Nat.lt_irrefl _)
theorem Inv.pN(aa:Inv X ak ab H s):∀ x c,X.env.cells.lookup x=J c->c≠X.env.locals:=fun x c e z=>by
 obtain⟨v,o,aJ,hd⟩:=aa.cell x c e
 obtain⟨m,⟨d0,aV,fV,mc,GP,_⟩,_⟩:=aa.loc
 rw[z,mc] at aJ;cases aJ;rw[GP] at hd;cases hd
theorem Inv.ly(aa:Inv X ak ab H s):s.heap.FunFrames X.base X.outer:=by
 have all:∀ (l:List Env),(∀ b∈iy l,b∈X.fs)->X.de.heap.FunFrames X.base l->s.heap.FunFrames X.base l:=by
  intro l
  induction l with
  | nil=>intro _ _;trivial
  | cons env r cA =>
   intro hs aC
   obtain⟨hk,⟨L,o,aE,bc,aJ,hd⟩,az⟩:=aC
   have ie:L∈X.fs:=hs L (by unfold iy;rw[List.filterMap_cons,aE];exact hz)
   obtain⟨c8,e⟩:=aa.base.slot L o aJ (aa.ok.pU L ie) ie fun z=>aa.ok.vy L z ie
   exact⟨hk,⟨L,_,aE,bc,e,hd⟩,cA (fun b aq=>hs b (by unfold iy;rw[List.filterMap_cons,aE];exact fk _ aq)) az⟩
 exact all X.outer (fun _ aq=>aq) aa.ok.ly
theorem Inv.stack(aa:Inv X ak ab H s):s.heap.FunFrames X.base X.stack:=by
 rcases aa.ok.wt with e | ⟨e,aE⟩
 ·rw[e];exact aa.ly
 ·rw[e]
  obtain⟨m,bc,_⟩:=aa.loc
  refine .cons (by rw[aa.ok.kind];decide) aE bc ?_ aa.ly
  exact aX.get?_none_of_le (ey aa.ok.nL aa.ok.above)
theorem Inv.rL(aa:Inv X ak ab H s):∀ b∈iy X.stack,b∈X.env.locals::X.fs:=fun b aq=>by
 rcases aa.ok.wt with e | ⟨e,aE⟩
 ·rw[e] at aq;exact fk _ aq
 ·rw[e] at aq
  unfold iy at aq
  rw[List.filterMap_cons,aE] at aq
  exact aq
theorem Inv.yU(aa:Inv X ak ab H s):∀ b∈iy X.stack,H b=aw:=fun b aq=>by
 rcases dn.mp (aa.rL b aq) with e | aq
 ·rw[e];exact aa.free
 ·obtain⟨_,o,aJ,_⟩:=aa.ok.ly.mem aq
  exact aa.base.free b o aJ (aa.ok.pU b aq) fun z=>aa.ok.vy b z aq
theorem Inv.step{g':Array GenState}{t':Nat}{d':Drawn}{ch:List ae}(aa:Inv X ak ab H s)
  (mQ:∀ b∈ch,(b∈X.ex\/X.de.heap.objs.size<=b)/\b≠X.env.locals/\(∀ x c,X.env.cells.lookup x=J c->c≠b)/\∀ p∈X.pn++ak,p.1≠b)
  (keep:∀ b o,b≠X.env.locals->b∉X.fs->b∉ch->s.heap.get? b=J o->H b=aw->h'.get? b=J o)
  (slot:∀ b o,b≠X.env.locals->b∈X.fs->b∉ch->s.heap.get? b=J o->H b=aw->∃ c8,h'.get? b=J {o with slots:=c8}) (free:∀ b o,b∉ch->s.heap.get? b=J o->H b=aw->H' b=aw)
  (there:∀ b o,b∉ch->s.heap.get? b=J o->∃ d0,h'.get? b=J d0)
  (lL:∀ b xs,H b=J (.tup xs)->H' b=J (.tup xs)) (kM:∀ b o u,H b=J (.iG o u)->H' b=J (.iG o u)) (lK:∀ b ps,H b=J (.qp ps)->∃ more,H' b=J (.qp (ps++more)))
  (ns:∀ m,s.heap.Ns X.env.locals m->h'.Ns X.env.locals m) (aR:fh X.prog X.w H' h') (aK:AllBare g') :
  Inv X ak ab H' {s with heap:=h',gens:=g',drawn:=d',toks:=t'}:=by
 have rz:∀ b o,X.de.heap.get? b=J o->b≠X.env.locals:=fun b o e=>fj (fi (dX e) aa.ok.above)
 have B3:∀ b o,X.de.heap.get? b=J o->b∉X.ex->b∉ch:=fun b o e ay aq=>by
  rcases(mQ b aq).1 with z | z
  ·exact ay z
  ·exact absurd (fi (dX e) z) (Nat.lt_irrefl _)
 have cellK:∀ x c,X.env.cells.lookup x=J c->∀ v,s.heap.IsCell c v->h'.IsCell c v:=fun x c e v ⟨o,aJ,hd⟩=>by
  have n8:c∉ch:=fun z=>(mQ c z).2.2.1 x c e rfl
  by_cases hc:c∈X.fs
  ·obtain⟨c8,q⟩:=slot c o (aa.pN x c e) hc n8 aJ (aa.jY x c e)
   exact⟨_,q,hd⟩
  ·exact⟨o,keep c o (aa.pN x c e) hc n8 aJ (aa.jY x c e),hd⟩
 refine⟨aa.ok,aa.os,aK,⟨fun b o e n aq ay=>?_,fun b o e n aq ay=>?_,fun b o e n ay=>?_,fun b o e ay=>?_,fun b xs e=>lL b xs (aa.base.lL b xs e),fun b o xs e=>kM b o xs (aa.base.kM b o xs e),fun b ps e=>?_⟩,?_,fun x c e=>?_,?_,fun x c e=>?_,fun p bh=>?_,aR,aa.len⟩
 ·exact keep b o (rz b o e) aq (B3 b o e ay) (aa.base.keep b o e n aq ay) (aa.base.free b o e n ay)
 ·obtain⟨c8,aG⟩:=aa.base.slot b o e n aq ay
  obtain⟨kU,aL⟩:=slot b _ (rz b o e) aq (B3 b o e ay) aG (aa.base.free b o e n ay)
  exact⟨kU,aL⟩
 ·obtain⟨d0,aG⟩:=aa.base.there b o e ay
  exact free b d0 (B3 b o e ay) aG (aa.base.free b o e n ay)
 ·obtain⟨d0,aG⟩:=aa.base.there b o e ay
  exact there b d0 (B3 b o e ay) aG
 ·obtain⟨fJ,aG⟩:=aa.base.lK b ps e
  obtain⟨lF,aL⟩:=lK b _ aG
  exact⟨fJ++lF,by rw[aL,Array.append_assoc]⟩
 ·obtain⟨m,bc,aC⟩:=aa.loc
  refine⟨m,ns m bc,fun i x v aG aL dE=>?_⟩
  obtain⟨u,r,l⟩:=aC i x v aG aL dE
  refine⟨u,r,?_⟩
  rcases l with l | ⟨k,c,e,z⟩
  ·exact .inl l
  ·exact .inr ⟨k,c,e,cellK x c e _ z⟩
 ·obtain⟨v,z⟩:=aa.cell x c e
  exact⟨v,cellK x c e v z⟩
 ·obtain⟨m,⟨o,_,_,aJ,_⟩,_⟩:=aa.loc
  exact free _ o (fun z=>(mQ _ z).2.1 I) aJ aa.free
 ·obtain⟨v,o,aJ,hd⟩:=aa.cell x c e
  exact free c o (fun z=>(mQ c z).2.2.1 x c e I) aJ (aa.jY x c e)
 ·obtain⟨e,n,ne,kq,d⟩:=aa.pin p bh
  have n8:p.1∉ch:=fun z=>(mQ p.1 z).2.2.2 p bh rfl
  exact⟨keep p.1 p.2 ne kq n8 e n,free p.1 p.2 n8 e n,ne,kq,d⟩
theorem Inv.un{t':Nat}(aa:Inv X ak ab H s)(u:fB X.fs [] H H' s.heap h')(aR:fh X.prog X.w H' h'):Inv X ak ab H' {s with heap:=h',toks:=t'}:=by
 obtain⟨m,⟨o,aV,fV,aJ,r⟩,_⟩:=id aa.loc
 obtain⟨c8,ie⟩:=u.any aJ aa.free (by simp)
 exact aa.step (g':=s.gens) (d':=s.drawn) (ch:=[]) (fun _ z=>nomatch z) (fun b o _ aq _ e n=>u.keep b o e n aq (by simp)) (fun b o _ aq _ e n=>u.slot b o e n aq (by simp)) (fun b o _ e n=>u.free b o e n (by simp)) (fun b o _ e=>u.there b o e (by simp)) u.lL u.kM u.lK (fun b1 hm=>by
  obtain⟨d0,Bd,F0,mc,e2⟩:=hm
  rw[aJ] at mc;cases mc
  exact⟨_,Bd,F0,ie,e2⟩) aR aa.bare
theorem Inv.call{g':Array GenState}{t':Nat}{d':Drawn}{ch:List ae}(aa:Inv X ak ab H s)(u:fB (iy X.stack) ch H H' s.heap h')(aR:fh X.prog X.w H' h')(aK:AllBare g')
  (mQ:∀ b∈ch,(b∈X.ex\/X.de.heap.objs.size<=b)/\b≠X.env.locals/\(∀ x c,X.env.cells.lookup x=J c->c≠b)/\∀ p∈X.pn++ak,p.1≠b) :
  Inv X ak ab H' {s with heap:=h',gens:=g',drawn:=d',toks:=t'}:=by
 obtain⟨m,⟨o,aV,fV,aJ,r⟩,_⟩:=id aa.loc
 obtain⟨c8,ie⟩:=u.any aJ aa.free fun z=>(mQ _ z).2.1 rfl
 exact aa.step (ch:=ch) mQ (fun b o ie aq hc e n=>u.keep b o e n (fun z=>(dn.mp (aa.rL b z)).elim ie aq) hc) (fun b o _ _ hc e n=>u.any e n hc) (fun b o hc e n=>u.free b o e n hc) (fun b o hc e=>u.there b o e hc) u.lL u.kM u.lK (fun b1 hm=>by
  obtain⟨d0,Bd,F0,mc,e2⟩:=hm
  rw[aJ] at mc;cases mc
  exact⟨_,Bd,F0,ie,e2⟩) aR aK
theorem Inv.turned{t':Nat}{it:ae}(aa:Inv X ak ab H s)(k:∀ b o,b≠it->s.heap.get? b=J o->h'.get? b=J o)(bc:H it=aw)(ie:it≠X.env.locals)
  (aj:it∈X.ex\/X.de.heap.objs.size<=it) (ar:∀ x c,X.env.cells.lookup x=J c->c≠it) (bB:∀ p∈X.pn++ak,p.1≠it):Inv X ak ab H {s with heap:=h',toks:=t'}:=by
 have NY:∀ b u,H b=J u->b≠it:=fun b u e z=>by rw[z,bc] at e;cases e
 refine aa.step (g':=s.gens) (d':=s.drawn) (ch:=[it]) (fun b aq=>?_) (fun b o _ _ hc e _=>k b o (fun z=>hc (by simp[z])) e) (fun b o _ _ hc e _=>⟨o.slots,k b o (fun z=>hc (by simp[z])) e⟩) (fun _ _ _ _ n=>n)
  (fun b o hc e=>⟨o,k b o (fun z=>hc (by simp[z])) e⟩) (fun _ _ e=>e) (fun _ _ _ e=>e) (fun b ps e=>⟨#[],by rw[e];simp⟩) (fun m hm=>?_) (fun b u e=>?_) aa.bare
 ·have e:b=it:=by simpa using aq
  subst e
  exact⟨aj,ie,ar,bB⟩
 ·obtain⟨o,aV,fV,aJ,r⟩:=hm
  exact⟨o,aV,fV,k _ o (d2 ie) aJ,r⟩
 ·refine(aa.aR b u e).mn (fun c v hc q=>k c v ?_ q) (fun _ q=>q) fun _ _ q=>q
  rcases hc with z | z
  ·rw[z];exact NY b u e
  ·exact NY c _ z
theorem Inv.tok(aa:Inv X ak ab H s)(t:Nat):Inv X ak ab H {s with toks:=t}:=aa.un (h':=s.heap) (t':=t) fB.refl aa.aR
theorem Inv.kept{t':Nat}(aa:Inv X ak ab H s)(k:∀ b u,s.heap.get? b=J u->h'.get? b=J u):Inv X ak ab H {s with heap:=h',toks:=t'}:=aa.un (fB.kept k) (aa.aR.kept k)
theorem Inv.laid{a:ae}{o:cv}{t':Nat}(aa:Inv X ak ab H s)(k:∀ b u,s.heap.get? b=J u->h'.get? b=J u)(bh:s.heap.objs.size<=a)(new:gg X.prog X.w (upd H a o) h' a o) :
  Inv X ak ab (upd H a o) {s with heap:=h',toks:=t'}:=aa.un (fB.laid k bh (aa.aR.fresh bh)) (aa.aR.laid k bh new)
theorem Inv.write{x e:ae}{o:cv}{t':Nat}(aa:Inv X ak ab H s)(mY:zw (H x))(he:e=x\/H e=J (.own x))(k:∀ b u,b≠e->s.heap.get? b=J u->h'.get? b=J u)(vQ:∃ u,h'.get? e=J u)
  (new:gg X.prog X.w (upd H x o) h' x o):Inv X ak ab (upd H x o) {s with heap:=h',toks:=t'}:=aa.un (fB.write mY he k vQ) (aa.aR.write mY he k vQ new)
theorem Inv.HR{pins':List (ae×bo)}(aa:Inv X ak ab H s)(h:∀ p∈pins',s.heap.get? p.1=J p.2/\H p.1=aw/\p.1≠X.env.locals/\p.1∉X.fs/\∀ v,p.2.data≠.cell v):Inv X pins' ab H s :=
 ⟨aa.ok,aa.os,aa.bare,aa.base,aa.loc,aa.cell,aa.free,aa.jY,fun p bh=>(List.mem_append.mp bh).elim (fun z=>aa.pin p (List.mem_append_left _ z)) (h p),aa.aR,aa.len⟩
theorem ER{N:List af}(bU:N.Nodup){i j:Nat}{x:af}(a:N[i]?=J x)(b:N[j]?=J x):i=j:=by
 obtain⟨aj,aG⟩:=kE.mp a
 obtain⟨ar,aL⟩:=kE.mp b
 exact(List.getElem_inj bU).mp (aG.trans aL.symm)
theorem Ky{M:Model}{A:da}{E:ao->aI->Prop}{i:Nat}{x:af}{v:V}{u:ao}{Q:Unit->aI->Prop}(aa:Inv X ak ab H s)(bU:X.N.Nodup)(aB:X.N[i]?=J x)(ay:Loc X.env.scope x)(r:RelV v u)
  (h:∀ aF,Inv X ak (ab.set i (J v)) H aF->(∃ a,aX.SameBut a s.heap aF.heap/\(a=X.env.locals\/X.env.cells.lookup x=J a))->Q () aF) (aE:X.fn x=ag\/X.env.scope.names.lookup x=J .local:=by first | exact .inl I | exact .inr I | assumption):bE M A (storeName X.env x u) Q E s:=by
 obtain⟨m,bc,aC⟩:=id aa.loc
 have GO:(X.env.scope.kind == .class||(X.env.scope.kind == .module&&X.env.locals != X.env.globals))=ah:=by rw[aa.ok.kind];rfl
 have BB:i<ab.length:=by rw[aa.len];exact(kE.mp aB).1
 have pN:=aa.pN
 have tracked:∀ {a:ae} {h':aX},(∃ o,s.heap.get? a=J o/\H a=aw)->aX.SameBut a s.heap h'->fh X.prog X.w H h':=fun {a h'} ba hs b dC e=>by
  obtain⟨_,_,xZ⟩:=ba
  refine(aa.aR b dC e).mn (fun c hN hc q=>(hs.2 c ?_).trans q) (fun _ q=>q) fun _ _ q=>q
  rintro rfl
  rcases hc with rfl | hc
  ·rw[xZ] at e;cases e
  ·rw[xZ] at hc;cases hc
 rcases ay with hk | hk
 ·refine wpAny_storeName_local hk bc (fun h' mS hs=>?_) GO
  obtain⟨N1,_,_,Nn,_⟩:=id bc
  refine h _ ⟨aa.ok,aa.os,aa.bare,⟨fun b o e n aq ay=>?_,fun b o e n aq ay=>?_,aa.base.free,fun b o e ay=>?_,aa.base.lL,aa.base.kM,aa.base.lK⟩,⟨_,mS,fun j y jm aG aL dE=>?_⟩,fun y c e=>?_,aa.free,aa.jY,fun p bh=>?_,tracked ⟨N1,Nn,aa.free⟩ hs,by simpa using aa.len⟩ ⟨_,hs,.inl rfl⟩
  ·exact(hs.2 b (fj (fi (dX e) aa.ok.above))).trans (aa.base.keep b o e n aq ay)
  ·obtain⟨c8,aG⟩:=aa.base.slot b o e n aq ay
   exact⟨c8,(hs.2 b (fj (fi (dX e) aa.ok.above))).trans aG⟩
  ·obtain⟨d0,aG⟩:=aa.base.there b o e ay
   exact⟨d0,(hs.2 b (fj (fi (dX e) aa.ok.above))).trans aG⟩
  ·by_cases cy:j=i
   ·subst cy
    rw[aB] at aG;cases aG
    rw[List.getElem?_set_self BB] at aL
    cases aL
    exact⟨u,r,.inl ⟨hk,by simp⟩⟩
   ·rw[List.getElem?_set_ne (d2 cy)] at aL
    obtain⟨rP,e2,q⟩:=aC j y jm aG aL dE
    refine⟨rP,e2,?_⟩
    rcases q with⟨k,e⟩ | ⟨k,c,e,z⟩
    ·refine .inl ⟨k,?_⟩
     have:y≠x:=fun e=>cy (ER bU aG (e ▸ aB))
     simp[this,e]
    ·exact .inr ⟨k,c,e,z.sameBut hs (pN y c e)⟩
  ·obtain⟨hN,z⟩:=aa.cell y c e
   exact⟨hN,z.sameBut hs (pN y c e)⟩
  ·obtain⟨e,n,ne,kq,d⟩:=aa.pin p bh
   exact⟨(hs.2 p.1 ne).trans e,n,ne,kq,d⟩
 ·have GX:X.fn x=ag:=by
   rcases aE with z | z
   ·exact z
   ·rw[z] at hk;cases hk
  obtain⟨c,hc⟩:=aa.ok.has x (.inl hk)
  obtain⟨hN,z⟩:=aa.cell x c hc
  refine wpAny_storeName_cell aa.ok.kind hk hc z (fun h' oR hs=>?_)
  obtain⟨ik,BI,He⟩:=id z
  refine h {s with heap:=h'} ⟨aa.ok,aa.os,aa.bare,⟨fun b o e n aq ay=>?_,fun b o e n aq ay=>?_,aa.base.free,fun b o e ay=>?_,aa.base.lL,aa.base.kM,aa.base.lK⟩,⟨m,bc.sameBut hs (d2 (pN x c hc)),fun j y jm aG aL dE=>?_⟩,fun y ia e=>?_,aa.free,aa.jY,fun p bh=>?_,tracked ⟨ik,BI,aa.jY x c hc⟩ hs,by simpa using aa.len⟩ ⟨c,hs,.inr hc⟩
  ·exact(hs.2 b (fj (fi (dX e) (aa.ok.s6 x c GX hc)))).trans (aa.base.keep b o e n aq ay)
  ·obtain⟨c8,aG⟩:=aa.base.slot b o e n aq ay
   exact⟨c8,(hs.2 b (fj (fi (dX e) (aa.ok.s6 x c GX hc)))).trans aG⟩
  ·obtain⟨d0,aG⟩:=aa.base.there b o e ay
   exact⟨d0,(hs.2 b (fj (fi (dX e) (aa.ok.s6 x c GX hc)))).trans aG⟩
  ·by_cases cy:j=i
   ·subst cy
    rw[aB] at aG;cases aG
    rw[List.getElem?_set_self BB] at aL
    cases aL
    exact⟨u,r,.inr ⟨.inl hk,c,hc,oR⟩⟩
   ·rw[List.getElem?_set_ne (d2 cy)] at aL
    obtain⟨rP,e2,q⟩:=aC j y jm aG aL dE
    refine⟨rP,e2,?_⟩
    rcases q with q | ⟨k,ia,e,oi⟩
    ·exact .inl q
    ·refine .inr ⟨k,ia,e,oi.sameBut hs ?_⟩
     rintro rfl
     exact cy (ER bU aG (aa.ok.inj _ _ _ e hc ▸ aB))
  ·by_cases Bw:ia=c
   ·subst Bw;exact⟨_,oR⟩
   ·obtain⟨rR,dj⟩:=aa.cell y ia e
    exact⟨rR,dj.sameBut hs Bw⟩
  ·obtain⟨e,n,ne,kq,d⟩:=aa.pin p bh
   refine⟨(hs.2 p.1 ?_).trans e,n,ne,kq,d⟩
   intro q
   rw[q,BI] at e
   have iA:ik=p.2:=gN e
   exact d hN (by rw[<- iA];exact He)
theorem EK{M:Model}{A:da}{E:ao->aI->Prop}{i:Nat}{x:af}{v:V}{u:ao}{Q:Unit->aI->Prop}(aa:Inv X ak ab H s)(bU:X.N.Nodup)(aB:X.N[i]?=J x)(ay:Loc X.env.scope x)(r:RelV v u)
  (h:∀ aF,Inv X ak (ab.set i (J v)) H aF->Q () aF) (aE:X.fn x=ag\/X.env.scope.names.lookup x=J .local:=by first | exact .inl I | exact .inr I | assumption):bE M A (storeName X.env x u) Q E s :=
 Ky aa bU aB ay r (fun aF gS _=>h aF gS) aE
theorem Inv.xE{aF:aI}{ch:List ae}(aa:Inv X ak ab H s)(aJ:aF.os=s.os)(u:fB (iy X.stack) ch H H' s.heap aF.heap)(aR:fh X.prog X.w H' aF.heap)(aK:AllBare aF.gens)
  (mQ:∀ b∈ch,(b∈X.ex\/X.de.heap.objs.size<=b)/\b≠X.env.locals/\(∀ x c,X.env.cells.lookup x=J c->c≠b)/\∀ p∈X.pn++ak,p.1≠b):Inv X ak ab H' aF:=by
 obtain⟨h',g',d',t',d0⟩:=aF
 have e:d0=s.os:=aJ
 subst e
 exact aa.call (g':=g') (t':=t') (d':=d') u aR aK mQ
end
noncomputable abbrev bP:=ao->Option ae->au->Prop
noncomputable abbrev St:=List (Option V)
noncomputable abbrev bx:=V->au->Prop
noncomputable abbrev TE:=St->au->bx->Prop
noncomputable abbrev gL:=St->au->(Bool->au->Prop)->Prop
noncomputable abbrev gw:=St->au->(List V->au->Prop)->Prop
structure Ends where
 nx:St->au->Prop
 rt:bx
 bk:St->au->Prop:=fun _ _=>False
 ct:St->au->Prop:=fun _ _=>False
noncomputable abbrev eK:=Ends->St->au->Prop
def h4(X:bp)(ak:List (ae×bo))(ab:St)(Q:bx)(u:ao)(aF:aI):Prop:=∃ v H',Inv X ak ab H' aF/\RelV v u/\Q v H'
def zM(X:bp)(ak:List (ae×bo))(ab:St)(Q:Bool->au->Prop)(b:Bool)(aF:aI):Prop:=∃ H',Inv X ak ab H' aF/\Q b H'
def P9(X:bp)(ak:List (ae×bo))(ab:St)(Q:List V->au->Prop)(us:List ao)(aF:aI):Prop:=∃ vs H',Inv X ak ab H' aF/\Vals vs us/\Q vs H'
def uX(X:bp)(ak:List (ae×bo))(D:Ends)(f:Flow)(aF:aI):Prop :=
 match f with
 | .next=>∃ bQ H',Inv X ak bQ H' aF/\D.nx bQ H'
 | .brk=>∃ bQ H',Inv X ak bQ H' aF/\D.bk bQ H'
 | .cont=>∃ bQ H',Inv X ak bQ H' aF/\D.ct bQ H'
 | .ret u=>∃ v bQ H',Inv X ak bQ H' aF/\RelV v u/\D.rt v H'
def bW(X:bp)(e:b2)(t:TE):Prop :=
 ∀ (ak:List (ae×bo)) (s:aI) (ab:St) (H:au) (Q:bx),Inv X ak ab H s->t ab H Q->bE (model X.prog X.w) X.A (eval e X.env) (h4 X ak ab Q) X.xe s
def jO(X:bp)(e:b2)(t:gL):Prop :=
 ∀ (ak:List (ae×bo)) (s:aI) (ab:St) (H:au) (Q:Bool->au->Prop),Inv X ak ab H s->t ab H Q->bE (model X.prog X.w) X.A (isTrue e X.env (eval e X.env)) (zM X ak ab Q) X.xe s
def gJ(X:bp)(e:b2)(t:gL):Prop :=
 ∀ (whole:Sem ao) (ak:List (ae×bo)) (s:aI) (ab:St) (H:au) (Q:Bool->au->Prop),Inv X ak ab H s->t ab H Q->bE (model X.prog X.w) X.A (isTrue e X.env whole) (zM X ak ab Q) X.xe s
theorem gJ.pt{X:bp}{e:b2}{t:gL}(h:gJ X e t):jO X e t:=h _
def hx(X:bp)(aV:List b2)(t:gw):Prop :=
 ∀ (aO:Pos) (ak:List (ae×bo)) (s:aI) (ab:St) (H:au) (Q:List V->au->Prop),Inv X ak ab H s->t ab H Q->bE (model X.prog X.w) X.A (spliced (backTo aO (df aV X.env))) (P9 X ak ab Q) X.xe s
def jv(X:bp)(st:bj)(t:eK):Prop :=
 ∀ (ak:List (ae×bo)) (s:aI) (ab:St) (H:au) (D:Ends),Inv X ak ab H s->t D ab H->bE (model X.prog X.w) X.A (exec st X.env) (uX X ak D) X.xe s
def hj(X:bp)(st:List bj)(t:eK):Prop :=
 ∀ (ak:List (ae×bo)) (s:aI) (ab:St) (H:au) (D:Ends),Inv X ak ab H s->t D ab H->bE (model X.prog X.w) X.A (execs st X.env) (uX X ak D) X.xe s
theorem cz{α:Type}{t:Sem α}{Q fX:α->aI->Prop}{M:Model}{A:da}{E:ao->aI->Prop}{s:aI}(h:bE M A t Q E s)(fF:∀ a s,Q a s->fX a s):bE M A t fX E s:=ja h fF fun _ _ x=>x
section
variable {X:bp}
inductive Jt(o:Option (Option V))(Q:V->Prop):Prop where
 |mk (v:V) (e:o=J (J v)) (h:Q v):Jt o Q
def wz(i:Nat):TE:=fun ab H Q=>Jt ab[i]? fun v=>Q v H
def o4(v:V):TE:=fun _ H Q=>Q v H
theorem SK{i:Nat}{x:af}{aO:Pos}(bU:X.N[i]?=J x)(bl:zR X.env.scope x)(hd:(x == ("__debug__":af))=ah:=by decide)(j0:(x == ("__classdict__":af))=ah:=by decide):bW X (.Name x aO) (wz i):=by
 intro ak s ab H Q aa h
 obtain⟨v,e,h⟩:=h
 obtain⟨m,bc,aC⟩:=aa.loc
 obtain⟨u,r,l⟩:=aC i x v bU e bl
 have cF:h4 X ak ab Q u s:=⟨v,H,aa,r,h⟩
 rcases l with⟨hk,hm⟩ | ⟨hk,c,hc,M7⟩
 ·exact wpAny_Name (wpAny_loadName_local aa.ok.kind hk bc hm cF) hd
 ·rcases hk with hk | hk
  ·exact wpAny_Name (wpAny_loadName_cell aa.ok.kind hk hc M7 cF) hd
  ·exact wpAny_Name (wpAny_loadName_free aa.ok.kind hk hc M7 cF j0) hd
theorem aD{i j aO}:bW X (.Constant (.int i) j aO) (o4 (.int i)):=fun _ _ _ H _ aa h=>wpAny_Constant_int ⟨.int i,H,aa.tok _,⟨_,rfl⟩,h⟩
theorem gn{b j aO}:bW X (.Constant (.bool b) j aO) (o4 (.aH b)):=fun _ _ _ H _ aa h=>Constant_bool ⟨.aH b,H,aa,rfl,h⟩
theorem oE{j aO}:bW X (.Constant .none j aO) (o4 .bL):=fun _ _ _ H _ aa h=>Constant_none ⟨.bL,H,aa,rfl,h⟩
theorem cJ{x j aO}:bW X (.Constant (.str x) j aO) (o4 (.str x)):=fun _ _ _ H _ aa h=>Calls.Constant_str ⟨.str x,H,aa.tok _,⟨_,rfl⟩,h⟩
def h5(X:bp)(x:af):Prop:=X.env.kindOf x=J .globalImplicit
theorem qR{E:ao->aI->Prop}{ak:List (ae×bo)}{s:aI}{ab:St}{H:au}{x:af}{u:ao}{aO:Pos}{Q:ao->aI->Prop}(aa:Inv X ak ab H s)(aK:h5 X x)(hm:X.mg x=J u)(h:Q u s)
  (hd:(x == ("__debug__":af))=ah:=by decide):bE (model X.prog X.w) X.A (eval (.Name x aO) X.env) Q E s :=
 Calls.Name_function_global aa.ok.kind aK (Calls.loadGlobal_global (by rw[aa.ok.glob];exact aa.mod.glob.keeps aa.bk) hm h) hd
theorem oF{E:ao->aI->Prop}{ak:List (ae×bo)}{s:aI}{ab:St}{H:au}{x:af}{u:ao}{aO:Pos}{Q:ao->aI->Prop}(aa:Inv X ak ab H s)(aK:h5 X x)(hm:X.mg x=aw)(bl:jJ x=J u)(h:Q u s)
  (bc:x≠"__name__":=by decide) (hd:(x == ("__debug__":af))=ah:=by decide):bE (model X.prog X.w) X.A (eval (.Name x aO) X.env) Q E s:=by
 obtain⟨mX,aj,ar⟩:=aa.mod.blt
 exact Calls.Name_function_global aa.ok.kind aK (Calls.loadGlobal_builtin (by rw[aa.ok.glob];exact aa.mod.glob.keeps aa.bk) hm (by rw[aa.ok.blt];exact aj.keeps aa.bk) ((ar x bc).trans bl) h) hd
theorem RT{x:af}{v:V}{u:ao}{aO:Pos}(aK:h5 X x)(hm:X.mg x=J u)(r:RelV v u)(hd:(x == ("__debug__":af))=ah:=by decide):bW X (.Name x aO) (o4 v) :=
 fun _ _ _ H _ aa h=>qR aa aK hm ⟨v,H,aa,r,h⟩ hd
theorem iR{x:af}{v:V}{u:ao}{aO:Pos}(aK:h5 X x)(hm:X.mg x=aw)(bl:jJ x=J u)(r:RelV v u)(bc:x≠"__name__":=by decide)(hd:(x == ("__debug__":af))=ah:=by decide):bW X (.Name x aO) (o4 v) :=
 fun _ _ _ H _ aa h=>oF aa aK hm bl ⟨v,H,aa,r,h⟩ bc hd
variable {a b:b2} {bS c9:TE} {aO:Pos}
def Q4(X:bp)(op:CmpOp)(a b:b2)(t:TE):Prop :=
 ∀ (ak:List (ae×bo)) (s:aI) (ab:St) (H:au) (Q:bx),Inv X ak ab H s->t ab H Q->
  bE (model X.prog X.w) X.A (eval a X.env) (fun v dx=>bE (model X.prog X.w) X.A (eval b X.env) (fun u m5=>bE (model X.prog X.w) X.A (hP op v u) (h4 X ak ab Q) X.xe m5) X.xe dx) X.xe s
variable {m6 Cs:gL} {rest:List b2}
def agH(t u:gL):gL:=fun ab H Q=>t ab H fun c H1=>if c=ag then u ab H1 Q else Q ah H1
def agX(t u:gL):gL:=fun ab H Q=>t ab H fun c H1=>if c=ag then Q ag H1 else u ab H1 Q
def agW(t:gL):gL:=fun ab H Q=>t ab H fun c H1=>Q (!c) H1
theorem vg(ba:jO X a m6):gJ X (.BoolOp .And [a] aO) m6:=by
 intro yZ ak s ab H Q aa h
 refine isTrue_and (cz (ba ak s ab H Q aa h) fun c s1 e=>?_)
 cases c with
 | true=>exact isTrue_and_nil e
 | false=>exact e
theorem k4(ba:jO X a m6):gJ X (.BoolOp .Or [a] aO) m6:=by
 intro yZ ak s ab H Q aa h
 refine isTrue_or (cz (ba ak s ab H Q aa h) fun c s1 e=>?_)
 cases c with
 | false=>exact isTrue_or_nil e
 | true=>exact e
theorem vn(ba:jO X a m6)(aq:gJ X (.BoolOp .And (b::rest) aO) Cs):gJ X (.BoolOp .And (a::b::rest) aO) (agH m6 Cs):=by
 intro yZ ak s ab H Q aa h
 refine isTrue_and (cz (ba ak s ab H _ aa h) fun c s1 bD=>?_)
 obtain⟨H1,aS,cD⟩:=bD
 cases c with
 | true=>exact aq yZ ak s1 ab H1 Q aS cD
 | false=>exact⟨H1,aS,cD⟩
theorem kf(ba:jO X a m6)(aq:gJ X (.BoolOp .Or (b::rest) aO) Cs):gJ X (.BoolOp .Or (a::b::rest) aO) (agX m6 Cs):=by
 intro yZ ak s ab H Q aa h
 refine isTrue_or (cz (ba ak s ab H _ aa h) fun c s1 bD=>?_)
 obtain⟨H1,aS,cD⟩:=bD
 cases c with
 | true=>exact⟨H1,aS,cD⟩
 | false=>exact aq yZ ak s1 ab H1 Q aS cD
theorem iS(ba:jO X a m6):jO X (.UnaryOp .Not a aO) (agW m6):=by
 intro ak s ab H Q aa h
 exact isTrue_not (ba ak s ab H (fun c H1=>Q (!c) H1) aa h)
def agI(bS c9:TE):TE:=fun ab H Q=>bS ab H fun x H1=>∃ c,x = .aH c/\if c=ag then c9 ab H1 Q else Q (.aH ah) H1
def agY(bS c9:TE):TE:=fun ab H Q=>bS ab H fun x H1=>∃ c,x = .aH c/\if c=ag then Q (.aH ag) H1 else c9 ab H1 Q
theorem kj{op}{t:TE}(h:bW X a t):bW X (.BoolOp op [a] aO) t:=fun ak s ab H Q aa hw=>BoolOp_one (h ak s ab H Q aa hw)
theorem iU(ba:bW X a bS)(aq:bW X (.BoolOp .And (b::rest) aO) c9):bW X (.BoolOp .And (a::b::rest) aO) (agI bS c9):=by
 intro ak s ab H Q aa h
 refine BoolOp_and (cz (ba ak s ab H _ aa h) fun v s1 bD=>?_)
 obtain⟨x,H1,aS,cp,cD⟩:=bD
 obtain⟨c,rfl,cD⟩:=cD
 cases cp
 refine wJ ?_
 cases c with
 | true=>exact aq ak s1 ab H1 Q aS cD
 | false=>exact⟨.aH ah,H1,aS,I,cD⟩
theorem JJ(ba:bW X a bS)(aq:bW X (.BoolOp .Or (b::rest) aO) c9):bW X (.BoolOp .Or (a::b::rest) aO) (agY bS c9):=by
 intro ak s ab H Q aa h
 refine BoolOp_or (cz (ba ak s ab H _ aa h) fun v s1 bD=>?_)
 obtain⟨x,H1,aS,cp,cD⟩:=bD
 obtain⟨c,rfl,cD⟩:=cD
 cases cp
 refine wJ ?_
 cases c with
 | false=>exact aq ak s1 ab H1 Q aS cD
 | true=>exact⟨.aH ag,H1,aS,I,cD⟩
def agQ(t:gL)(bS c9:TE):TE:=fun ab H Q=>t ab H fun c H1=>if c=ag then bS ab H1 Q else c9 ab H1 Q
theorem nH{c:b2}(hc:jO X c m6)(ba:bW X a bS)(aq:bW X b c9):bW X (.IfExp c a b aO) (agQ m6 bS c9):=by
 intro ak s ab H Q aa h
 refine wpAny_IfExp (cz (hc ak s ab H _ aa h) fun d s1 bD=>?_)
 obtain⟨H1,aS,cD⟩:=bD
 cases d with
 | true=>exact ba ak s1 ab H1 Q aS cD
 | false=>exact aq ak s1 ab H1 Q aS cD
end
def dQ(K:bO)(H:au)(a:ae)(xs:List V):Prop :=
 zL H a (.lst xs)\/
  ∃ (o:bo) (bq:Array ao) (n:Nat),K.lookup a=J o/\o.cls = .type "list"/\o.dict=aw/\o.data = .seq bq n/\bq.size<=bT/\Vals xs bq.toList
def jc(K:bO)(H:au)(a:ae)(xs:List V):Prop :=
 zL H a (.tup xs)\/
  ∃ (o:bo) (bq:Array ao) (n:Nat),K.lookup a=J o/\o.cls = .type "tuple"/\o.data = .seq bq n/\bq.size<=bT/\Vals xs bq.toList
noncomputable def Yv:ao->Option V
 | .none=>J .bL
 | .bool b=>J (.aH b)
 | .int i _=>J (.int i)
 | .str x _=>J (.str x)
 | .bytes b _=>J (.kn b)
 | .float b _=>J (.ta b)
 | .ref a=>J (.ref a)
 | .type n=>J (.ty n)
 | _=>aw
theorem RelV.abs{x:V}{u:ao}(r:RelV x u):Yv u=J x:=by
 cases x with
 | bL=>cases r;rfl
 | aH _=>cases r;rfl
 | int _=>obtain⟨t,rfl⟩:=r;rfl
 | str _=>obtain⟨t,rfl⟩:=r;rfl
 | kn _=>obtain⟨t,rfl⟩:=r;rfl
 | ta _=>obtain⟨t,rfl⟩:=r;rfl
 | ref _=>cases r;rfl
 | ty _=>cases r;rfl
theorem RelV.inj{x y:V}{u:ao}(r:RelV x u)(q:RelV y u):x=y:=gN (r.abs.symm.trans q.abs)
theorem Vals.inj:∀ {xs aY:List V} {us:List ao},Vals xs us->Vals aY us->xs=aY
 | _,_,_,.nil,.nil=>rfl
 | _,_,_,.cons r t,.cons e2 t'=>by rw[r.inj e2,Vals.inj t t']
section
variable {X:bp} {ak:List (ae×bo)} {ab:St} {H:au} {s:aI} {a:ae} {xs aY:List V}
theorem dQ.of{K:bO}(h:H a=J (.lst xs)):dQ K H a xs := .inl (.inl h)
theorem jc.of{K:bO}(h:H a=J (.tup xs)):jc K H a xs := .inl (.inl h)
theorem Inv.list(aa:Inv X ak ab H s)(h:dQ X.K H a xs):∃ bq:List ao,Vals xs bq/\PlainL s.heap a bq.toArray/\xs.length<=bT:=by
 rcases h with h | ⟨o,bq,n,hk,hc,hd,hs,bI,r⟩
 ·obtain⟨z,bq,n,r,e⟩:=h.ok aa.aR
  exact⟨bq,r,⟨_,n,e,I,I,I⟩,z⟩
 ·refine⟨bq.toList,r,⟨o,n,aa.es a o hk,hc,hd,by simpa using hs⟩,?_⟩
  have e:=r.length
  simp only[hT] at e
  omega
theorem Inv.tuple(aa:Inv X ak ab H s)(h:jc X.K H a xs):∃ bq:List ao,Vals xs bq/\IsTup s.heap a bq.toArray/\xs.length<=bT:=by
 rcases h with h | ⟨o,bq,n,hk,hc,hs,bI,r⟩
 ·obtain⟨z,bq,r,p⟩:=h.ok aa.aR
  exact⟨bq,r,p,z⟩
 ·refine⟨bq.toList,r,⟨o,aa.es a o hk,hc,n,by simpa using hs⟩,?_⟩
  have e:=r.length
  simp only[hT] at e
  omega
theorem Inv.adh(aa:Inv X ak ab H s)(h:dQ X.K H a xs)(h':dQ X.K H a aY):xs=aY:=by
 obtain⟨bq,r,⟨o,n,e,_,_,d⟩,_⟩:=aa.list h
 obtain⟨its',e2,⟨d0,adz,e',_,_,d'⟩,_⟩:=aa.list h'
 rw[e] at e';cases e'
 rw[d] at d'
 injection d' with eQ _
 have:bq=its':=by simpa using congrArg Array.toList eQ
 subst this
 exact r.inj e2
end
noncomputable abbrev bp.na(X:bp)(E:ao->aI->Prop):bp:={X with xe:=E}
noncomputable abbrev bp.rA(X:bp):bp:=X.na fun _ _=>False
theorem bp.Ok.na{X:bp}(ok:X.Ok)(E:ao->aI->Prop):(X.na E).Ok :=
 ⟨ok.mod,ok.kind,ok.glob,ok.blt,ok.above,ok.inj,ok.has,ok.s6,ok.hd,ok.frames,ok.wt,ok.Be,ok.bs,ok.nL,ok.tI,ok.vy,ok.ly,ok.pU⟩
theorem bp.Ok.lN{X:bp}{E:ao->aI->Prop}(ok:(X.na E).Ok):X.Ok :=
 ⟨ok.mod,ok.kind,ok.glob,ok.blt,ok.above,ok.inj,ok.has,ok.s6,ok.hd,ok.frames,ok.wt,ok.Be,ok.bs,ok.nL,ok.tI,ok.vy,ok.ly,ok.pU⟩
section
variable {X:bp} {ak:List (ae×bo)} {ab:St} {H:au} {s:aI} {E:ao->aI->Prop}
theorem Inv.na(aa:Inv X ak ab H s)(E:ao->aI->Prop):Inv (X.na E) ak ab H s:=⟨aa.ok.na E,aa.os,aa.bare,aa.base,aa.loc,aa.cell,aa.free,aa.jY,aa.pin,aa.aR,aa.len⟩
theorem Inv.lN(aa:Inv (X.na E) ak ab H s):Inv X ak ab H s:=⟨aa.ok.lN,aa.os,aa.bare,aa.base,aa.loc,aa.cell,aa.free,aa.jY,aa.pin,aa.aR,aa.len⟩
theorem uX.lN{D:Ends}{f:Flow}{aF:aI}(h:uX (X.na E) ak D f aF):uX X ak D f aF:=by
 cases f with
 | next=>obtain⟨bQ,H',aa,q⟩:=h;exact⟨bQ,H',aa.lN,q⟩
 | brk=>obtain⟨bQ,H',aa,q⟩:=h;exact⟨bQ,H',aa.lN,q⟩
 | cont=>obtain⟨bQ,H',aa,q⟩:=h;exact⟨bQ,H',aa.lN,q⟩
 | ret u=>obtain⟨v,bQ,H',aa,r,q⟩:=h;exact⟨v,bQ,H',aa.lN,r,q⟩
theorem hj.rA{st:List bj}{t:eK}(h:hj X.rA st t):hj X st t:=fun ak s ab H D aa hw =>
 ja (h ak s ab H D (aa.na _) hw) (fun _ _ q=>q.lN) fun _ _ z=>False.elim z
end
section
variable {X:bp} {st:bj} {rest:List bj} {t u:eK} {e:b2} {cn:TE} {aO:Pos}
def Iz:eK:=fun D ab H=>D.nx ab H
def wx(t u:eK):eK:=fun D ab H=>t {D with nx:=u D} ab H
theorem cQ:hj X [] Iz:=fun _ _ ab H _ aa h=>wpAny_execs_nil ⟨ab,H,aa,h⟩
theorem aP(aj:jv X st t)(ar:hj X rest u):hj X (st::rest) (wx t u):=by
 intro ak s ab H D aa h
 refine wpAny_execs_cons (cz (aj ak s ab H {D with nx:=u D} aa h) fun f s1 q=>?_)
 cases f with
 | next =>
  obtain⟨bQ,H',gS,q⟩:=q
  exact ar ak s1 bQ H' D gS q
 | ret v=>exact q
 | brk=>exact q
 | cont=>exact q
theorem aT(aj:jv X st t):hj X [st] t:=by
 intro ak s ab H D aa h
 refine wpAny_execs_cons (cz (aj ak s ab H D aa h) fun f s1 q=>?_)
 cases f with
 | next=>exact wpAny_execs_nil q
 | ret v=>exact q
 | brk=>exact q
 | cont=>exact q
theorem Inv.quiet{ak:List (ae×bo)}{ab:St}{H:au}{s:aI}(aa:Inv X ak ab H s):interactive X.env=ah:=by simp[interactive,aa.ok.kind]
def agN(cn:TE):eK:=fun D ab H=>cn ab H fun _ H1=>D.nx ab H1
theorem h9(he:bW X e cn)(hs:swapsWith e aw aO.line X.env=pure ah:=by rfl):jv X (.Expr e aO) (agN cn):=by
 intro ak s ab H D aa h
 refine wpAny_Expr_any (cz (he ak s ab H _ aa h) fun v s1 bD=>?_) aa.quiet hs
 obtain⟨x,H1,aS,cp,cD⟩:=bD
 exact ⟨ab,H1,aS,cD⟩
def ag1(cn:TE):eK:=fun D ab H=>cn ab H D.rt
theorem bG(he:bW X e cn):jv X (.Return (J e) aO) (ag1 cn):=by
 intro ak s ab H D aa h
 refine wpAny_Return_some (cz (he ak s ab H _ aa h) fun v s1 bD=>?_)
 obtain⟨x,H1,aS,cp,cD⟩:=bD
 exact ⟨x,ab,H1,aS,cp,cD⟩
def Iw(c:gL)(t u:eK):eK:=fun D ab H=>c ab H fun b H1=>if b=ag then t D ab H1 else u D ab H1
theorem cR{c:b2}{a b:List bj}{fM:gL}(hc:jO X c fM)(ba:hj X a t)(aq:hj X b u):jv X (.If c a b aO) (Iw fM t u):=by
 intro ak s ab H D aa h
 refine wpAny_If (cz (hc ak s ab H _ aa h) fun d s1 bD=>?_)
 obtain⟨H1,aS,cD⟩:=bD
 cases d with
 | true=>exact ba ak s1 ab H1 D aS cD
 | false=>exact aq ak s1 ab H1 D aS cD
def agU:eK:=fun _ _ _=>False
theorem nG:jv X st agU:=fun _ _ _ _ _ _ h=>h.elim
end
noncomputable abbrev gK:=V->St->au->(St->au->Prop)->Prop
noncomputable abbrev sA:=List V->St->au->(St->au->Prop)->Prop
def oy(X:bp)(hQ:b2)(t:gK):Prop :=
 ∀ (ak:List (ae×bo)) (s:aI) (ab:St) (H:au) (v:V) (u:ao) (Q:St->au->Prop),Inv X ak ab H s->RelV v u->t v ab H Q->
  bE (model X.prog X.w) X.A (assign hQ X.env u) (fun _ aF=>∃ bQ H',Inv X ak bQ H' aF/\Q bQ H') X.xe s
def w3(X:bp)(i7:List b2)(t:sA):Prop :=
 ∀ (ak:List (ae×bo)) (s:aI) (ab:St) (H:au) (vs:List V) (us:List ao) (Q:St->au->Prop),Inv X ak ab H s->Vals vs us->t vs ab H Q->
  bE (model X.prog X.w) X.A (assignInOrder ((assignEach i7 X.env).map (·.2)) us) (fun _ aF=>∃ bQ H',Inv X ak bQ H' aF/\Q bQ H') X.xe s
section
variable {X:bp} {aO:Pos}
def vD(i:Nat):gK:=fun v ab H Q=>Q (ab.set i (J v)) H
theorem eG{i:Nat}{x:af}(bU:X.N.Nodup)(aB:X.N[i]?=J x)(ay:Loc X.env.scope x)(aE:X.fn x=ag\/X.env.scope.names.lookup x=J .local:=by first | exact .inl I | exact .inr I | assumption):oy X (.Name x aO) (vD i):=by
 intro ak s ab H v u Q aa r h
 exact wpAny_assign_Name (EK aa bU aB ay r (fun aF gS=>⟨_,H,gS,h⟩) aE)
noncomputable def Z7:sA:=fun vs ab H Q=>vs=[]/\Q ab H
noncomputable def Z6(t:gK)(u:sA):sA:=fun vs ab H Q=>∃ v r,vs=v::r/\t v ab H fun bQ H'=>u r bQ H' Q
theorem pI:w3 X [] Z7:=by
 intro ak s ab H vs us Q aa r h
 obtain⟨e,h⟩:=h
 subst e
 cases r
 exact assignInOrder_nil ⟨ab,H,aa,h⟩
theorem jz{e:b2}{aV:List b2}{t:gK}{u:sA}(aj:oy X e t)(ar:w3 X aV u)
  (hs:(assignEach (e::aV) X.env).map (·.2)=assign e X.env::(assignEach aV X.env).map (·.2):=by rfl):w3 X (e::aV) (Z6 t u):=by
 intro ak s ab H vs us Q aa r h
 obtain⟨v,ajW,aG,h⟩:=h
 subst aG
 cases r with
 | cons r lH =>
  rw[hs]
  refine assignInOrder_cons (cz (aj ak s ab H _ _ _ aa r h) fun _ s1 bD=>?_)
  obtain⟨b8,H1,aS,cD⟩:=bD
  exact ar ak s1 b8 H1 _ _ Q aS lH cD
def Z8(K:bO)(n:Nat)(t:sA):gK:=fun v ab H Q=>∃ a xs,v = .ref a/\jc K H a xs/\xs.length=n/\t xs ab H Q
theorem pL{aV:List b2}{k:Nat}{t:sA}{n:Nat}(hc:X.calm=ag)(h:w3 X aV t)
  (bc:(assignEach aV X.env).length=n:=by rfl) (j1:(assignEach aV X.env).findIdx? (·.1)=aw:=by rfl):oy X (.Tuple aV k aO) (Z8 X.K n t):=by
 intro ak s ab H v u Q aa r hw
 obtain⟨a,xs,aG,aU,aC,hw⟩:=hw
 subst aG
 cases r
 obtain⟨bq,dH,aW,bI⟩:=aa.tuple aU
 refine assign_Tuple_tuple (aa.ok.hd hc) aW (by simp[bc,<- aC,dH.length]) j1 fun h' ay=>?_
 have aS:Inv X ak ab H {s with heap:=h'}:=aa.kept (t':=s.toks) fun b o e=>ay b o (fj (dX e)) e
 exact h ak _ ab H xs _ Q aS (by simpa using dH) hw
def wu(cn:TE)(g:gK):eK:=fun D ab H=>cn ab H fun x H1=>g x ab H1 D.nx
theorem Fx{en e:b2}{cn:TE}{g:gK}(he:bW X e cn)(aK:oy X en g)(hs:swapsWithSole [en] e aO.line X.env=pure ah:=by rfl)(hw:swappedStores [en] e X.env=pure aw:=by rfl)
  (aj:(assignEach [en] X.env).map (·.2)=[assign en X.env]:=by rfl):jv X (.Assign [en] e aO) (wu cn g):=by
 intro ak s ab H D aa h
 refine wpAny_Assign_stores (cz (he ak s ab H _ aa h) fun v s1 bD=>?_) hs hw
 obtain⟨x,H1,aS,cp,cD⟩:=bD
 rw[aj]
 exact cz (aK ak s1 ab H1 x v _ aS cp cD) fun _ s2 q=>q
theorem SG{i:Nat}{x:af}{e:b2}{cn:TE}{pos':Pos}(bU:X.N.Nodup)(aB:X.N[i]?=J x)(ay:Loc X.env.scope x)(he:bW X e cn)(hs:swapsWith e (J (.Name x pos')) aO.line X.env=pure ah:=by rfl)(aE:X.fn x=ag\/X.env.scope.names.lookup x=J .local:=by first | exact .inl I | exact .inr I | assumption) :
  jv X (.Assign [.Name x pos'] e aO) (wu cn (vD i)):=by
 intro ak s ab H D aa h
 refine wpAny_Assign_Name (cz (he ak s ab H _ aa h) fun v s1 bD=>?_) hs
 obtain⟨y,H1,aS,cp,cD⟩:=bD
 exact EK aS bU aB ay cp (fun s2 bA=>⟨_,H1,bA,cD⟩) aE
end
section
variable {X:bp} {aO:Pos}
def ag6(c:gL)(c9:eK):eK:=fun D ab H=>∃ W:Nat->St->au->Prop,(∃ m,W m ab H)/\∀ m ab H,W m ab H->
 c ab H fun b H1=>if b=ag then ∃ N:St->au->Prop,(∀ bQ H',N bQ H'->∃ b1,b1<m/\W b1 bQ H')/\c9 {D with nx:=N,ct:=N,bk:=D.nx} ab H1 else D.nx ab H1
theorem qH{c:b2}{body:List bj}{fM:gL}{c9:eK}(bh:i9 (model X.prog X.w) X.A X.env X.xe)(hc:jO X c fM)(aq:hj X body c9):jv X (.While c body [] aO) (ag6 fM c9):=by
 intro ak s ab H D aa h
 obtain⟨W,⟨m0,jn⟩,turn⟩:=h
 refine wpAny_While (codeAny_whileLoop (fun n aF=>∃ bQ H',Inv X ak bQ H' aF/\W n bQ H') ?_ m0 ⟨ab,H,aa,jn⟩)
 rintro n s1 ⟨b8,H1,aS,yX⟩
 refine ui bh (cz (hc ak s1 b8 H1 _ aS (turn n b8 H1 yX)) fun b s2 bD=>?_)
 obtain⟨ax,bA,cE⟩:=bD
 cases b with
 | true =>
  obtain⟨N,bU,cE⟩:=cE
  rw[if_pos rfl]
  refine ui bh (cz (aq ak s2 b8 ax _ bA cE) fun f hL fL=>?_)
  cases f with
  | next =>
   obtain⟨kx,bt,iq,Hy⟩:=fL
   obtain⟨b1,hm,mq⟩:=bU kx bt Hy
   exact⟨b1,hm,kx,bt,iq,mq⟩
  | cont =>
   obtain⟨kx,bt,iq,Hy⟩:=fL
   obtain⟨b1,hm,mq⟩:=bU kx bt Hy
   exact⟨b1,hm,kx,bt,iq,mq⟩
  | brk=>exact fL
  | ret v=>exact fL
 | false =>
  rw[if_neg g6]
  exact wpAny_execs_nil ⟨b8,ax,bA,cE⟩
end
structure kd where
 go:Nat->au->Prop
 pa:Nat->au->V->au->Prop
 stop:Nat->au->Prop
def pw(X:bp)(ak:List (ae×bo))(H:au)(b:ae):Prop :=
 H b=aw/\b≠X.env.locals/\b∉X.fs/\(b∈X.ex\/X.de.heap.objs.size<=b)/\(∀ x c,X.env.cells.lookup x=J c->c≠b)/\∀ p∈X.pn++ak,p.1≠b
theorem Inv.pS{X:bp}{ak:List (ae×bo)}{ab:St}{H H':au}{s:aI}{b:ae}(aa:Inv X ak ab H s)(aq:s.heap.objs.size<=b)(bc:H' b=aw):pw X ak H' b:=by
 refine⟨bc,Nat.ne_of_gt (fi aa.lt aq),aa.adX aq,.inr (ey aa.c0 aq),fun x c e z=>?_,fun p bh z=>?_⟩
 ·obtain⟨v,q⟩:=aa.cell x c e
  exact absurd (fi q.lt (by rw[z];exact aq)) (Nat.lt_irrefl _)
 ·exact absurd (fi (dX (aa.pin p bh).1) (by rw[z];exact aq)) (Nat.lt_irrefl _)
structure Turn(P:cX)(w:cu)(K:bO)(en:b2)(dD:kd)(bH:List ae)(it:ae)(cH:Nat->aX->Prop):Prop where
 mem:it∈bH
 obj:∀ i h,cH i h->∀ b∈bH,∃ o,h.get? b=J o/\∀ v,o.data≠.cell v
 keep:∀ i h h',cH i h->(∀ b∈bH,∀ o,h.get? b=J o->h'.get? b=J o)->cH i h'
 item:∀ (X:bp),X.prog=P->X.w=w->X.K=K->X.calm=ag->∀ (i:Nat) (ak:List (ae×bo)) (s:aI) (ab:St) (H:au) (E:ao->aI->Prop),Inv X ak ab H s->(∀ b∈bH,pw X ak H b)->cH i s.heap->dD.go i H->
  bE (model P w) X.A (pyNext (.ref it)) (fun r s1=>∃ u,r=J u/\
   bE (model P w) X.A (letOwnedTupleGo en (.ref it) u) (fun _ s2=>∃ x H',Inv X ak ab H' s2/\RelV x u/\dD.pa i H x H'/\cH (i+1) s2.heap/\∀ b∈bH,H' b=aw) E s1) E s
 done:∀ (X:bp),X.prog=P->X.w=w->X.K=K->X.calm=ag->∀ (i:Nat) (ak:List (ae×bo)) (s:aI) (ab:St) (H:au) (E:ao->aI->Prop),Inv X ak ab H s->(∀ b∈bH,pw X ak H b)->cH i s.heap->dD.stop i H->
  bE (model P w) X.A (pyNext (.ref it)) (fun r s1=>r=aw/\Inv X ak ab H s1) E s
 self:∀ (A:da) (i:Nat) (s:aI) (Q:ao->aI->Prop) (E:ao->aI->Prop),cH i s.heap->Q (.ref it) s->bE (model P w) A (pyIter (.ref it)) Q E s
noncomputable abbrev dW:=St->au->(kd->au->Prop)->Prop
def Dj(X:bp)(ak:List (ae×bo))(ab:St)(en:b2)(R:kd->au->Prop)(Hp:ao)(s2:aI):Prop :=
 ∃ (it:ae) (bH:List ae) (cH:Nat->aX->Prop) (dD:kd) (H':au),Hp = .ref it/\Inv X ak ab H' s2/\Turn X.prog X.w X.K en dD bH it cH/\cH 0 s2.heap/\(∀ b∈bH,pw X ak H' b)/\R dD H'
def iO(X:bp)(en iter:b2)(hO:dW):Prop :=
 ∀ (ak:List (ae×bo)) (s:aI) (ab:St) (H:au) (R:kd->au->Prop),Inv X ak ab H s->hO ab H R->
  bE (model X.prog X.w) X.A (eval iter X.env) (fun v s1=>bE (model X.prog X.w) X.A (pyIter v) (Dj X ak ab en R) X.xe s1) X.xe s
theorem xC{M:Model}{A:da}{E:ao->aI->Prop}{s:aI}{en:b2}{it:ae}{u:ao}{o:bo}{n:String}{vs:Array ao}{Q:Unit->aI->Prop}(aJ:s.heap.get? it=J o)(hc:o.cls = .type n)(hd:o.data = .fields vs)
    (bc:["enumerate","zip","dict_itemiterator","dict_reverseitemiterator","odict_iterator","itertools.zip_longest","itertools.pairwise"].contains n=ah) (fF:Q () s):bE M A (letOwnedTupleGo en (.ref it) u) Q E s:=by
  unfold letOwnedTupleGo
  cases en<;>first
    | exact dv fF
    | (cases u<;>first
        | exact dv fF
        | (refine bC (wpAny_load aJ ?_)
           rw[hc,hd]
           show bE M A (if (["enumerate","zip","dict_itemiterator","dict_reverseitemiterator","odict_iterator","itertools.zip_longest","itertools.pairwise"].contains n&&vs[0]? == J (rawInt _))=ag then _ else _) Q E s
           rw[if_neg (by intro h;rw[bc,Bool.false_and] at h;cases h)]
           exact dv fF))
noncomputable def qD(K:bO)(a:ae):kd :=
 ⟨fun i H=>∃ xs x,dQ K H a xs/\xs[i]?=J x,fun i H x H'=>H'=H/\∀ xs,dQ K H a xs->xs[i]?=J x,fun i H=>∃ xs,dQ K H a xs/\xs.length<=i⟩
noncomputable def sh(lo:Int)(n:Nat):kd:=⟨fun i _=>i<n,fun i H x H'=>H'=H/\x = .int (lo+i),fun i _=>n<=i⟩
theorem WD{P:cX}{w:cu}{K:bO}{en:b2}(a it:ae):Turn P w K en (qD K a) [it] it (fun i h=>h.IsListIter it a i) where
 mem:=by simp
 obj:=fun i h st b aq=>by
  have e:b=it:=by simpa using aq
  subst e
  obtain⟨o,e,c,d⟩:=st
  exact⟨o,e,fun v z=>by rw[d] at z;cases z⟩
 keep:=fun i h h' st k=>st.at fun o e=>k it (by simp) o e
 item:=by
  intro X ck hw gQ hc i ak s ab H E aa aE st aK
  subst ck hw gQ
  obtain⟨xs,x,aU,ay⟩:=aK
  obtain⟨bq,dH,p,bI⟩:=aa.list aU
  obtain⟨u,dN,gG⟩:=dH.get ay
  obtain⟨f0,f1,f2,ha,f4,hD⟩:=aE it (by simp)
  refine wpAny_pyNext_list_item st p.isList (x:=u) (by simpa using dN) fun h' i5 m4=>?_
  have aS:Inv X ak ab H {s with heap:=h'}:=aa.turned (t':=s.toks) (fun b o aq e=>(m4.2 b aq).trans e) f0 f1 ha f4 hD
  obtain⟨o,e,c,d⟩:=id i5
  exact⟨u,I,xC (s:={s with heap:=h'}) e c d (by decide) ⟨x,H,aS,gG,⟨I,fun aY bM=>by rw[aa.adh bM aU];exact ay⟩,i5,fun b aq=>(aE b aq).1⟩⟩
 done:=by
  intro X ck hw gQ hc i ak s ab H E aa aE st aK
  subst ck hw gQ
  obtain⟨xs,aU,ay⟩:=aK
  obtain⟨bq,dH,p,bI⟩:=aa.list aU
  obtain⟨f0,f1,f2,ha,f4,hD⟩:=aE it (by simp)
  have aC:=dH.length
  exact wpAny_pyNext_list_end (aa.ok.hd hc) st p.isList (by simp;omega) fun h' ho=>⟨I,aa.turned (t':=s.toks) (fun b o aq e=>ho b o aq e) f0 f1 ha f4 hD⟩
 self:=fun _ _ _ _ _ st h=>wpAny_pyIter_listiter st h
theorem V0{P:cX}{w:cu}{K:bO}{en:b2}(it:ae)(lo:Int)(n:Nat):Turn P w K en (sh lo n) [it] it (fun i h=>IsRangeIter h it (lo+(i:Nat)*1) ((n:Int) - (i:Nat)) 1) where
 mem:=by simp
 obj:=fun i h st b aq=>by
  have e:b=it:=by simpa using aq
  subst e
  exact⟨_,st,fun v z=>by
   have oi:Data.fields _=Data.cell v:=z
   cases oi⟩
 keep:=fun i h h' st k=>k it (by simp) _ st
 item:=by
  intro X ck hw gQ hc i ak s ab H E aa aE st aK
  subst ck hw gQ
  obtain⟨f0,f1,f2,ha,f4,hD⟩:=aE it (by simp)
  have W:=Walks.range (prog:=X.prog) (w:=X.w) (aa.ok.hd hc) it lo 1 n
  refine W.item i s _ _ aK st fun v h' cf bl i5 ft=>?_
  obtain⟨t,rfl⟩:=bl
  have aS:Inv X ak ab H {s with heap:=h',toks:=cf}:=aa.turned (fun b o aq e=>ft b o (by simpa using aq) e) f0 f1 ha f4 hD
  refine⟨_,I,xC (s:={s with heap:=h',toks:=cf}) (n:="range_iterator") i5 I I (by decide) ⟨.int (lo+i),H,aS,⟨t,?_⟩,⟨I,I⟩,i5,fun b aq=>(aE b aq).1⟩⟩
  rw[Int.mul_one]
 done:=by
  intro X ck hw gQ hc i ak s ab H E aa aE st aK
  subst ck hw gQ
  obtain⟨f0,f1,f2,ha,f4,hD⟩:=aE it (by simp)
  exact wpAny_pyNext_range_end (aa.ok.hd hc) st (by have:n<=i:=aK;omega) fun h' ho=>⟨I,aa.turned (t':=s.toks) (fun b o aq e=>ho b o aq e) f0 f1 ha f4 hD⟩
 self:=fun _ _ _ _ _ st h=>wpAny_pyIter_rangeiter st h
section
variable {X:bp} {en:b2}
def ND(K:bO)(dr:TE):dW:=fun ab H R=>dr ab H fun x H1=>∃ a,x = .ref a/\(∃ xs,dQ K H1 a xs)/\R (qD K a) H1
theorem RP{l:b2}{dr:TE}(aC:bW X l dr):iO X en l (ND X.K dr):=by
 intro ak s ab H R aa h
 refine cz (aC ak s ab H _ aa h) fun v s1 bD=>?_
 obtain⟨x,H1,aS,cp,cD⟩:=bD
 obtain⟨a,e,⟨xs,aU⟩,q⟩:=cD
 subst e
 cases cp
 obtain⟨bq,dH,p,bI⟩:=aS.list aU
 refine wpAny_pyIter_list p.isList ?_
 refine⟨s1.heap.objs.size,[s1.heap.objs.size],_,_,H1,I,aS.kept (t':=s1.toks) fun b o e=>d7 _ e,WD a _,⟨_,gU _ I,I,I⟩,fun b aq=>?_,q⟩
 have e:b=s1.heap.objs.size:=by simpa using aq
 subst e
 exact aS.pS (cx _) (aS.aR.fresh (cx _))
theorem XN{ak:List (ae×bo)}{ab:St}{H:au}{s:aI}{R:kd->au->Prop}{E:ao->aI->Prop}{lo aB:Int}{t u v:Tok}{cf:Nat}(aa:Inv X ak ab H s)(aj : -(2 ^ 62)<=lo)(ar:lo<2 ^ 62)(bB : -(2 ^ 62)<=aB)(b0:aB<2 ^ 62)
  (q:R (sh lo (aB - lo).toNat) H):bE (model X.prog X.w) X.A (pyIter (.ref s.heap.objs.size)) (Dj X ak ab en R) E {s with heap:=s.heap.push {cls := .type "range",data := .fields #[.int lo t,.int aB u,.int 1 v]},toks:=cf}:=by
 refine wpAny_pyIter_range (IsRange.new ..) (small_one aj ar bB b0) ?_
 have aS:Inv X ak ab H {s with heap:=s.heap.push {cls := .type "range",data := .fields #[.int lo t,.int aB u,.int 1 v]},toks:=cf}:=aa.kept fun b o e=>d7 _ e
 refine⟨(s.heap.push {cls := .type "range",data := .fields #[.int lo t,.int aB u,.int 1 v]}).objs.size,[(s.heap.push {cls := .type "range",data := .fields #[.int lo t,.int aB u,.int 1 v]}).objs.size],_,_,H,I,
  aS.kept (t':=cf) fun b o e=>d7 _ e,V0 _ lo (aB - lo).toNat,?_,fun b aq=>?_,q⟩
 ·have aG:lo+((0:Nat):Int)*1=lo:=by simp
  have aL:(((aB - lo).toNat:Nat):Int) - ((0:Nat):Int)=c1.Range.rangeSize lo aB 1:=by rw[rangeSize_one];split<;>omega
  show IsRangeIter _ _ (lo+((0:Nat):Int)*1) ((((aB - lo).toNat:Nat):Int) - ((0:Nat):Int)) 1
  rw[aG,aL]
  exact gU _ I
 ·have e:b=(s.heap.push {cls := .type "range",data := .fields #[.int lo t,.int aB u,.int 1 v]}).objs.size:=by simpa using aq
  subst e
  exact aS.pS (cx _) (aS.aR.fresh (cx _))
def acs(bS:gw):dW:=fun ab H R=>bS ab H fun vs H1=>∃ j:Int,vs=[.int j]/\-(2 ^ 62)<=j/\j<2 ^ 62/\R (sh 0 j.toNat) H1
theorem pF{a:b2}{bS:gw}{p aO:Pos}(aK:h5 X "range")(hm:X.mg "range"=aw)(ba:hx X [a] bS)(hs:df [a] X.env=[(ah,eval a X.env)]:=by rfl):iO X en (.Call (.Name "range" p) [a] [] aO) (acs bS):=by
 intro ak s ab H R aa h
 refine Call_ (oF aa aK hm boot_range (PyProof.Rows.callWith_type1 (cz (ba aO ak s ab H _ aa h) fun us s1 bD=>?_) hs I))
 obtain⟨vs,H1,aS,cp,cD⟩:=bD
 obtain⟨j,e,cD,cE,q⟩:=cD
 subst e
 cases cp with
 | cons r lH =>
  cases lH
  obtain⟨t,rfl⟩:=r
  exact call_range_1 (XN aS (by omega) (by omega) cD cE (by simpa using q))
def agP(hO:dW)(g:gK)(c9:eK):eK:=fun D ab H=>hO ab H fun dD H1=>∃ W:Nat->Nat->St->au->Prop,(∃ m,W 0 m ab H1)/\∀ i m ab H,W i m ab H->
 (dD.stop i H/\D.nx ab H)\/(dD.go i H/\∃ N:St->au->Prop,(∀ bQ H',N bQ H'->∃ b1,b1<m/\W (i+1) b1 bQ H')/\∀ x H',dD.pa i H x H'->g x ab H' fun bR ax=>c9 {D with nx:=N,ct:=N,bk:=D.nx} bR ax)
noncomputable def yE(bH:List ae)(h:aX):List (ae×bo):=bH.filterMap fun b=>(h.get? b).map fun o=>(b,o)
theorem An{bH:List ae}{h:aX}{b:ae}{o:bo}(aq:b∈bH)(e:h.get? b=J o):(b,o)∈yE bH h:=List.mem_filterMap.mpr ⟨b,aq,by rw[e];rfl⟩
theorem WU{bH:List ae}{h:aX}{p:ae×bo}(bh:p∈yE bH h):p.1∈bH/\h.get? p.1=J p.2:=by
 obtain⟨b,aq,e⟩:=List.mem_filterMap.mp bh
 cases q:h.get? b with
 | none=>rw[q] at e;cases e
 | some o =>
  rw[q] at e
  have e':(b,o)=p:=gN e
  subst e'
  exact⟨aq,q⟩
theorem Inv.pinned{ak:List (ae×bo)}{ab:St}{H:au}{s:aI}{bH:List ae}(aa:Inv X ak ab H s)(aE:∀ b∈bH,pw X ak H b)(aJ:∀ b∈bH,∃ o,s.heap.get? b=J o/\∀ v,o.data≠.cell v):Inv X (ak++yE bH s.heap) ab H s :=
 aa.HR fun p bh=>(List.mem_append.mp bh).elim (fun z=>aa.pin p (mC _ z)) fun z=>by
  obtain⟨aq,e⟩:=WU z
  obtain⟨f0,f1,f2,_⟩:=aE p.1 aq
  obtain⟨o,e',d⟩:=aJ p.1 aq
  rw[e] at e';cases e'
  exact⟨e,f0,f1,f2,d⟩
theorem Inv.CC{ak pl:List (ae×bo)}{ab:St}{H:au}{s:aI}(aa:Inv X (ak++pl) ab H s):Inv X ak ab H s:=aa.HR fun p bh=>aa.pin p (mC _ (List.mem_append_left _ bh))
theorem oD{iter:b2}{body:List bj}{hO:dW}{g:gK}{c9:eK}{aO:Pos}(bh:i9 (model X.prog X.w) X.A X.env X.xe)(hc:X.calm=ag)(aB:iO X en iter hO)(aK:oy X en g)(aq:hj X body c9)
  (hs:∀ x,foldedSetIterable iter X.env x=pure x:=by intro _;rfl):jv X (.For en iter body [] aO) (agP hO g c9):=by
 intro ak s ab H D aa h
 refine wpAny_For (cz (aB ak s ab H _ aa h) fun v s1 aj=>cz aj fun Hp s2 ar=>?_) hs
 obtain⟨it,bH,cH,dD,ax,e,bA,T,jH,f2,W,⟨m0,jn⟩,turn⟩:=ar
 subst e
 have t7:∀ {H':au},(∀ b∈bH,H' b=aw)->∀ b∈bH,pw X ak H' b:=fun bc b aq=>⟨bc b aq,(f2 b aq).2⟩
 refine codeAny_forLoop_any (fun n aF=>∃ i bQ H',Inv X ak bQ H' aF/\cH i aF.heap/\(∀ b∈bH,H' b=aw)/\W i n bQ H') ?_ m0 ⟨0,ab,ax,bA,jH,fun b aq=>(f2 b aq).1,jn⟩
 rintro n hL ⟨i,kx,bt,iq,lJ,xN,mq⟩
 rcases turn i n kx bt mq with⟨stop,tZ⟩ | ⟨go,N,bU,step⟩
 ·refine ui bh (cz (T.done X I I I hc i ak hL kx bt X.xe iq (t7 xN) lJ stop) fun r qm bD=>?_)
  obtain⟨az,ow⟩:=bD
  subst az
  exact wpAny_execs_nil ⟨kx,bt,ow,tZ⟩
 ·refine ui bh (cz (T.item X I I I hc i ak hL kx bt X.xe iq (t7 xN) lJ go) fun r qm bD=>?_)
  obtain⟨u,az,b0⟩:=bD
  subst az
  refine ui bh (cz b0 fun _ wi bD=>?_)
  obtain⟨x,fg,nr,t2,IT,kv,F5⟩:=bD
  have C8:=nr.pinned (t7 F5) (T.obj _ _ kv)
  refine ui bh (cz (aK _ wi kx fg x u _ C8 t2 (step x fg IT)) fun _ t4 bD=>?_)
  obtain⟨wF,e3,nt,rE⟩:=bD
  refine ui bh (cz (aq _ t4 wF e3 _ nt rE) fun f o2 mj=>?_)
  have again:∀ {ky:St} {ip:au},Inv X (ak++yE bH wi.heap) ky ip o2->N ky ip->∃ m,m<n/\∃ i bQ H',Inv X ak bQ H' o2/\cH i o2.heap/\(∀ b∈bH,H' b=aw)/\W i m bQ H':=fun {ky ip} jt rv=>by
   obtain⟨b1,hm,yY⟩:=bU ky ip rv
   refine⟨b1,hm,i+1,ky,ip,jt.CC,T.keep _ _ _ kv fun b aq o e=>(jt.pin (b,o) (mC _ (mC _ (An aq e)))).1,fun b aq=>?_,yY⟩
   obtain⟨o,e,d⟩:=T.obj _ _ kv b aq
   exact(jt.pin (b,o) (mC _ (mC _ (An aq e)))).2.1
  cases f with
  | next=>obtain⟨ky,ip,jt,rv⟩:=mj;exact again jt rv
  | cont=>obtain⟨ky,ip,jt,rv⟩:=mj;exact again jt rv
  | brk=>obtain⟨ky,ip,jt,mj⟩:=mj;exact⟨ky,ip,jt.CC,mj⟩
  | ret v=>obtain⟨ahM,ky,ip,jt,aga,mj⟩:=mj;exact⟨ahM,ky,ip,jt.CC,aga,mj⟩
end
theorem Ya{K:bO}{a:ae}{xs:List V}{g:gK}{c9:eK}{D:Ends}{ab:St}{H:au}(Pv:Nat->St->au->Prop)(bu:Pv 0 ab H)(aC:∀ i ab H,i<=xs.length->Pv i ab H->dQ K H a xs)
  (hs:∀ i x ab H,xs[i]?=J x->Pv i ab H->g x ab H fun bR ax=>c9 {D with nx:=Pv (i+1),ct:=Pv (i+1),bk:=D.nx} bR ax) (hd:∀ ab H,Pv xs.length ab H->D.nx ab H) :
  ∃ W:Nat->Nat->St->au->Prop,(∃ m,W 0 m ab H)/\∀ i m ab H,W i m ab H->
   ((qD K a).stop i H/\D.nx ab H)\/((qD K a).go i H/\∃ N:St->au->Prop,(∀ bQ H',N bQ H'->∃ b1,b1<m/\W (i+1) b1 bQ H')/\∀ x H',(qD K a).pa i H x H'->g x ab H' fun bR ax=>c9 {D with nx:=N,ct:=N,bk:=D.nx} bR ax):=by
 refine⟨fun i m ab H=>m=xs.length - i/\i<=xs.length/\Pv i ab H,⟨xs.length,by simp,UF _,bu⟩,?_⟩
 rintro i m ab H ⟨rfl,aB,p⟩
 have q:=aC i ab H aB p
 by_cases i2:i<xs.length
 ·refine .inr ⟨⟨xs,xs[i],q,by simp[i2]⟩,Pv (i+1),fun bQ H' tO=>⟨xs.length - (i+1),by omega,rfl,i2,tO⟩,fun x H' y=>?_⟩
  obtain⟨e,y⟩:=y
  subst e
  exact hs i x ab _ (y xs q) p
 ·have e:i=xs.length:=by omega
  subst e
  exact .inl ⟨⟨xs,q,cx _⟩,hd ab H p⟩
theorem u9{lo:Int}{n:Nat}{g:gK}{c9:eK}{D:Ends}{ab:St}{H:au}(Pv:Nat->St->au->Prop)(bu:Pv 0 ab H)
  (hs:∀ i ab H,i<n->Pv i ab H->g (.int (lo+i)) ab H fun bR ax=>c9 {D with nx:=Pv (i+1),ct:=Pv (i+1),bk:=D.nx} bR ax) (hd:∀ ab H,Pv n ab H->D.nx ab H) :
  ∃ W:Nat->Nat->St->au->Prop,(∃ m,W 0 m ab H)/\∀ i m ab H,W i m ab H->
   ((sh lo n).stop i H/\D.nx ab H)\/((sh lo n).go i H/\∃ N:St->au->Prop,(∀ bQ H',N bQ H'->∃ b1,b1<m/\W (i+1) b1 bQ H')/\∀ x H',(sh lo n).pa i H x H'->g x ab H' fun bR ax=>c9 {D with nx:=N,ct:=N,bk:=D.nx} bR ax):=by
 refine⟨fun i m ab H=>m=n - i/\i<=n/\Pv i ab H,⟨n,by simp,UF _,bu⟩,?_⟩
 rintro i m ab H ⟨rfl,aB,p⟩
 by_cases i2:i<n
 ·refine .inr ⟨i2,Pv (i+1),fun bQ H' tO=>⟨n - (i+1),by omega,rfl,i2,tO⟩,fun x H' y=>?_⟩
  obtain⟨e,y⟩:=y
  subst e y
  exact hs i ab _ i2 p
 ·have e:i=n:=by omega
  subst e
  exact .inl ⟨cx _,hd ab H p⟩
noncomputable abbrev h6:=V->V->au->bx->Prop
def dU(X:bp)(f:ao->ao->Sem ao)(r:h6):Prop :=
 ∀ (ak:List (ae×bo)) (s:aI) (ab:St) (H:au) (x y:V) (v u:ao) (Q:bx),Inv X ak ab H s->RelV x v->RelV y u->r x y H Q->
  bE (model X.prog X.w) X.A (f v u) (h4 X ak ab Q) X.xe s
def Dv(X:bp)(f:ao->Sem ao)(r:V->au->bx->Prop):Prop :=
 ∀ (ak:List (ae×bo)) (s:aI) (ab:St) (H:au) (x:V) (v:ao) (Q:bx),Inv X ak ab H s->RelV x v->r x H Q->
  bE (model X.prog X.w) X.A (f v) (h4 X ak ab Q) X.xe s
def js(X:bp)(f:ao)(r:List V->au->bx->Prop):Prop :=
 ∀ (ak:List (ae×bo)) (s:aI) (ab:St) (H:au) (xs:List V) (us:List ao) (Q:bx),Inv X ak ab H s->Vals xs us->r xs H Q->
  bE (model X.prog X.w) X.A (call f us) (h4 X ak ab Q) X.xe s
def Rg(X:bp)(r:V->au->(Bool->au->Prop)->Prop):Prop :=
 ∀ (ak:List (ae×bo)) (s:aI) (ab:St) (H:au) (x:V) (v:ao) (Q:Bool->au->Prop),Inv X ak ab H s->RelV x v->r x H Q->
  bE (model X.prog X.w) X.A (truthy v) (zM X ak ab Q) X.xe s
def o5(r:h6)(bS c9:TE):TE:=fun ab H Q=>bS ab H fun x H1=>c9 ab H1 fun y ax=>r x y ax Q
def ag5(r:V->au->bx->Prop)(bS:TE):TE:=fun ab H Q=>bS ab H fun x H1=>r x H1 Q
def qk(C:Int->Int->Prop)(g:Int->Int->V):h6:=fun x y H Q=>∃ i j,x = .int i/\y = .int j/\C i j/\Q (g i j) H
inductive Jo(x y:V)(Q:Int->Int->Prop):Prop where
 |mk (i j:Int) (a:x = .int i) (b:y = .int j) (h:Q i j):Jo x y Q
def ml(g:Int->Int->V):h6:=fun x y H Q=>Jo x y fun i j=>Q (g i j) H
noncomputable def N8(g:Int->V):V->au->bx->Prop:=fun x H Q=>∃ i,x = .int i/\Q (g i) H
section
variable {X:bp} {a b c:b2} {bS c9 fM:TE} {aO:Pos}
theorem FN(ba:bW X a bS)(aq:bW X b c9){ak:List (ae×bo)}{s:aI}{ab:St}{H:au}{R:V->V->au->Prop}(aa:Inv X ak ab H s)
  (h:bS ab H fun x H1=>c9 ab H1 fun y ax=>R x y ax) {Q:ao->aI->Prop} {f:ao->ao->Sem ao}
  (aE:∀ v u s2 x y ax,Inv X ak ab ax s2->RelV x v->RelV y u->R x y ax->bE (model X.prog X.w) X.A (f v u) Q X.xe s2) :
  bE (model X.prog X.w) X.A (eval a X.env) (fun v dx=>bE (model X.prog X.w) X.A (eval b X.env) (fun u m5=>bE (model X.prog X.w) X.A (f v u) Q X.xe m5) X.xe dx) X.xe s:=by
 refine cz (ba ak s ab H _ aa h) fun v s1 bD=>?_
 obtain⟨x,H1,aS,cp,cD⟩:=bD
 refine cz (aq ak s1 ab H1 _ aS cD) fun u s2 bD=>?_
 obtain⟨y,ax,bA,el,cE⟩:=bD
 exact aE v u s2 x y ax bA cp el cE
theorem aQ{op:Operator}{r:h6}(aJ:dU X (ka op) r)(ba:bW X a bS)(aq:bW X b c9):bW X (.BinOp a op b aO) (o5 r bS c9):=by
 intro ak s ab H Q aa h
 exact wpAny_BinOp (FN ba aq aa h fun v u s2 x y ax bA bf cd q=>aJ ak s2 ab ax x y v u Q bA bf cd q)
theorem lj{op:UnaryOp}{r:V->au->bx->Prop}(aJ:Dv X (unaryOp op) r)(ba:bW X a bS):bW X (.UnaryOp op a aO) (ag5 r bS):=by
 intro ak s ab H Q aa h
 refine UnaryOp_ (cz (ba ak s ab H _ aa h) fun v s1 bD=>?_)
 obtain⟨x,H1,aS,cp,cD⟩:=bD
 exact aJ ak s1 ab H1 x v Q aS cp cD
theorem rB{f:ao->ao->Sem ao}{C:Int->Int->Prop}{g:Int->Int->Int}
  (rule:∀ (i j:Int) (t u:Tok) (s:aI) (Q:ao->aI->Prop) (E:ao->aI->Prop),C i j->Q (.int (g i j) s.toks) {s with toks:=s.toks+1}->bE (model X.prog X.w) X.A (f (.int i t) (.int j u)) Q E s) :
  dU X f (qk C fun i j => .int (g i j)):=by
 intro ak s ab H x y v u Q aa bf cd h
 obtain⟨i,j,rfl,rfl,hc,q⟩:=h
 obtain⟨t,rfl⟩:=bf
 obtain⟨t',rfl⟩:=cd
 exact rule i j t t' s _ _ hc ⟨.int (g i j),H,aa.tok _,⟨_,I⟩,q⟩
theorem HO{f:ao->ao->Sem ao}{g:Int->Int->Int}
  (rule:∀ (i j:Int) (t u:Tok) (s:aI) (Q:ao->aI->Prop) (E:ao->aI->Prop),Q (.int (g i j) s.toks) {s with toks:=s.toks+1}->bE (model X.prog X.w) X.A (f (.int i t) (.int j u)) Q E s) :
  dU X f (ml fun i j => .int (g i j)):=by
 intro ak s ab H x y v u Q aa bf cd h
 obtain⟨i,j,rfl,rfl,q⟩:=h
 obtain⟨t,rfl⟩:=bf
 obtain⟨t',rfl⟩:=cd
 exact rule i j t t' s _ _ ⟨.int (g i j),H,aa.tok _,⟨_,I⟩,q⟩
theorem B9{f:ao->ao->Sem ao}{g:Int->Int->Bool}
  (rule:∀ (i j:Int) (t u:Tok) (s:aI) (Q:ao->aI->Prop) (E:ao->aI->Prop),Q (.bool (g i j)) s->bE (model X.prog X.w) X.A (f (.int i t) (.int j u)) Q E s) :
  dU X f (ml fun i j => .aH (g i j)):=by
 intro ak s ab H x y v u Q aa bf cd h
 obtain⟨i,j,rfl,rfl,q⟩:=h
 obtain⟨t,rfl⟩:=bf
 obtain⟨t',rfl⟩:=cd
 exact rule i j t t' s _ _ ⟨.aH (g i j),H,aa,I,q⟩
def Qa(i j:Int):Prop:=0<j/\j<1073741824
def za(i j:Int):Prop:=0<=j/\j<=1000000/\i.natAbs<2 ^ 64
def y9(i j:Int):Prop:=(-(2 ^ 64)<i/\i<2 ^ 64)\/(-(2 ^ 64)<j/\j<2 ^ 64)
theorem y9.ok{i j:Int}(h:y9 i j):IntMulOk i j:=by
 rcases h with⟨aj,ar⟩ | ⟨aj,ar⟩
 ·exact .of_left (intBits_le_64 aj ar)
 ·exact .of_right (intBits_le_64 aj ar)
theorem VZ(k:Nat):(0:Int)<=2 ^ k:=by
 rw[two_pow_cast]
 exact Int.natCast_nonneg _
theorem SQ:dU X (ka .Add) (ml fun i j => .int (i+j)):=HO fun _ _ _ _ _ _ _ q=>add_int q
theorem SM:dU X (ka .Sub) (ml fun i j => .int (i - j)):=HO fun _ _ _ _ _ _ _ q=>sub_int q
theorem SO:dU X (ka .Mult) (qk y9 fun i j => .int (i*j)):=rB fun _ _ _ _ _ _ _ hc q=>mul_int q hc.ok
theorem hA:dU X (ka .FloorDiv) (qk Qa fun i j => .int (i/j)):=rB fun i j _ _ _ _ _ hc q=>by
 have aj:(0:Int)<j:=hc.1
 have ar:j<1073741824:=hc.2
 exact floordiv_int (by omega) (by rw[Int.fdiv_eq_ediv_of_nonneg i (by omega)];exact q) (.inl (PyProof.noPylong_small (by omega)))
theorem dM:dU X (ka .Mod) (qk (fun _ j=>0<j) fun i j => .int (i%j)):=rB fun i j _ _ _ _ _ hc q=>by
 have aj:(0:Int)<j:=hc
 exact mod_int' (by omega) (by rw[Int.fmod_eq_emod_of_nonneg i (by omega)];exact q)
theorem xx:dU X (ka .Pow) (qk za fun i j => .int (i ^ j.toNat)):=rB fun _ _ _ _ _ _ _ hc q=>pow_int_small hc.1 hc.2.1 hc.2.2 q
theorem Fz:dU X (ka .LShift) (qk za fun i j => .int (i*2 ^ j.toNat)):=rB fun _ _ _ _ _ _ _ hc q=>lshift_int_small hc.1 hc.2.1 hc.2.2 q
theorem LZ:dU X (ka .RShift) (qk (fun _ j=>0<=j) fun i j => .int (i/2 ^ j.toNat)):=rB fun i j _ _ _ _ _ hc q =>
 rshift_int hc (by rw[Int.fdiv_eq_ediv_of_nonneg i (VZ _)];exact q)
theorem SP:dU X (ka .BitAnd) (ml fun i j => .int (c1.bitAnd i j)):=HO fun _ _ _ _ _ _ _ q=>and_int q
theorem ahK{f:ao->Sem ao}{g:Int->Int}
  (rule:∀ (i:Int) (t:Tok) (s:aI) (Q:ao->aI->Prop) (E:ao->aI->Prop),Q (.int (g i) s.toks) {s with toks:=s.toks+1}->bE (model X.prog X.w) X.A (f (.int i t)) Q E s) :
  Dv X f (N8 fun i => .int (g i)):=by
 intro ak s ab H x v Q aa bf h
 obtain⟨i,rfl,q⟩:=h
 obtain⟨t,rfl⟩:=bf
 exact rule i t s _ _ ⟨.int (g i),H,aa.tok _,⟨_,I⟩,q⟩
theorem k3:Dv X (unaryOp .USub) (N8 fun i => .int (-i)):=ahK fun _ _ _ _ _ q=>neg_int q
end
noncomputable def Oe:V->V->Bool
 | .bL,.bL=>ag | .bL,.int _=>ag | .int _,.bL=>ag | .bL,.aH _=>ag | .aH _,.bL=>ag | .bL,.str _=>ag | .str _,.bL=>ag
 | .int _,.int _=>ag | .aH _,.aH _=>ag | .str _,.str _=>ag | .kn _,.kn _=>ag
 | .int _,.str _=>ag | .str _,.int _=>ag | .aH _,.str _=>ag | .str _,.aH _=>ag
 | _,_=>ah
def Cd:h6:=fun x y H Q=>Oe x y=ag/\Q (.aH (decide (x=y))) H
def N7:h6:=fun x y H Q=>Oe x y=ag/\Q (.aH (!decide (x=y))) H
theorem xq{i j:Int}:decide (V.int i=V.int j)=(i == j):=by
 rw[Bool.eq_iff_iff]
 simp
theorem L5{i j:Bool}:decide (V.aH i=V.aH j)=(i == j):=by
 rw[Bool.eq_iff_iff]
 simp
theorem LG{i j:af}:decide (V.str i=V.str j)=(i == j):=by
 rw[Bool.eq_iff_iff]
 simp
theorem LH{i j:Array UInt8}:decide (V.kn i=V.kn j)=(i.toList == j.toList):=by
 rw[Bool.eq_iff_iff]
 cases i
 cases j
 simp
section
variable {X:bp} {a b c:b2} {bS c9 fM:TE} {aO:Pos}
theorem eE{ak:List (ae×bo)}{ab:St}{H:au}{s:aI}{Q:bx}{k eD:Bool}(aa:Inv X ak ab H s)(q:Q (.aH k) H)(e:k=eD):h4 X ak ab Q (.bool eD) s:=by
 subst e
 exact⟨.aH k,H,aa,I,q⟩
theorem Th:dU X (hP .Eq) Cd:=by
 intro ak s ab H x y v u Q aa bf cd h
 obtain⟨hs,q⟩:=h
 cases x with
 | bL =>
  cases bf
  cases y with
  | bL=>cases cd;exact PySem.EqNone.eq_none_none (eE aa q (by simp))
  | aH j=>cases cd;exact PySem.EqNone.eq_none_bool (eE aa q (by simp))
  | int j=>obtain⟨t',rfl⟩:=cd;exact PySem.EqNone.eq_none_int (eE aa q (by simp))
  | str j=>obtain⟨t',rfl⟩:=cd;exact PySem.EqNone.eq_none_str (eE aa q (by simp))
  | _=>exact absurd (show ah=ag from hs) g6
 | aH i =>
  cases bf
  cases y with
  | bL=>cases cd;exact PySem.EqNone.eq_bool_none (eE aa q (by simp))
  | aH j=>cases cd;exact eq_bool (eE aa q L5)
  | str j=>obtain⟨t',rfl⟩:=cd;exact PySem.EqMixed.eq_bool_str (eE aa q (by simp))
  | _=>exact absurd (show ah=ag from hs) g6
 | int i =>
  obtain⟨t,rfl⟩:=bf
  cases y with
  | bL=>cases cd;exact PySem.EqNone.eq_int_none (eE aa q (by simp))
  | int j=>obtain⟨t',rfl⟩:=cd;exact eq_int (eE aa q xq)
  | str j=>obtain⟨t',rfl⟩:=cd;exact PySem.EqMixed.eq_int_str (eE aa q (by simp))
  | _=>exact absurd (show ah=ag from hs) g6
 | str i =>
  obtain⟨t,rfl⟩:=bf
  cases y with
  | bL=>cases cd;exact PySem.EqNone.eq_str_none (eE aa q (by simp))
  | aH j=>cases cd;exact PySem.EqMixed.eq_str_bool (eE aa q (by simp))
  | int j=>obtain⟨t',rfl⟩:=cd;exact PySem.EqMixed.eq_str_int (eE aa q (by simp))
  | str j=>obtain⟨t',rfl⟩:=cd;exact eq_str (eE aa q LG)
  | _=>exact absurd (show ah=ag from hs) g6
 | kn i =>
  obtain⟨t,rfl⟩:=bf
  cases y with
  | kn j=>obtain⟨t',rfl⟩:=cd;exact PySem.W.eq_bytes (eE aa q LH)
  | _=>exact absurd (show ah=ag from hs) g6
 | _=>cases y<;>exact absurd (show ah=ag from hs) g6
theorem Tc:dU X (hP .NotEq) N7:=by
 intro ak s ab H x y v u Q aa bf cd h
 obtain⟨hs,q⟩:=h
 cases x with
 | bL =>
  cases bf
  cases y with
  | bL=>cases cd;exact PySem.EqNone.ne_none_none (eE aa q (by simp))
  | aH j=>cases cd;exact PySem.EqNone.ne_none_bool (eE aa q (by simp))
  | int j=>obtain⟨t',rfl⟩:=cd;exact PySem.EqNone.ne_none_int (eE aa q (by simp))
  | str j=>obtain⟨t',rfl⟩:=cd;exact PySem.EqNone.ne_none_str (eE aa q (by simp))
  | _=>exact absurd (show ah=ag from hs) g6
 | aH i =>
  cases bf
  cases y with
  | bL=>cases cd;exact PySem.EqNone.ne_bool_none (eE aa q (by simp))
  | aH j=>cases cd;exact ne_bool (eE aa q (congrArg not L5))
  | str j=>obtain⟨t',rfl⟩:=cd;exact PySem.EqMixed.ne_bool_str (eE aa q (by simp))
  | _=>exact absurd (show ah=ag from hs) g6
 | int i =>
  obtain⟨t,rfl⟩:=bf
  cases y with
  | bL=>cases cd;exact PySem.EqNone.ne_int_none (eE aa q (by simp))
  | int j=>obtain⟨t',rfl⟩:=cd;exact ne_int (eE aa q (congrArg not xq))
  | str j=>obtain⟨t',rfl⟩:=cd;exact PySem.EqMixed.ne_int_str (eE aa q (by simp))
  | _=>exact absurd (show ah=ag from hs) g6
 | str i =>
  obtain⟨t,rfl⟩:=bf
  cases y with
  | bL=>cases cd;exact PySem.EqNone.ne_str_none (eE aa q (by simp))
  | aH j=>cases cd;exact PySem.EqMixed.ne_str_bool (eE aa q (by simp))
  | int j=>obtain⟨t',rfl⟩:=cd;exact PySem.EqMixed.ne_str_int (eE aa q (by simp))
  | str j=>obtain⟨t',rfl⟩:=cd;exact ne_str (eE aa q (congrArg not LG))
  | _=>exact absurd (show ah=ag from hs) g6
 | kn i =>
  obtain⟨t,rfl⟩:=bf
  cases y with
  | kn j=>obtain⟨t',rfl⟩:=cd;exact PySem.W.ne_bytes (eE aa q (congrArg not LH))
  | _=>exact absurd (show ah=ag from hs) g6
 | _=>cases y<;>exact absurd (show ah=ag from hs) g6
theorem Td:dU X (hP .Lt) (ml fun i j => .aH (decide (i<j))):=B9 fun _ _ _ _ _ _ _ q=>lt_int q
theorem Te:dU X (hP .LtE) (ml fun i j => .aH (decide (i<=j))):=B9 fun _ _ _ _ _ _ _ q=>le_int q
theorem Tf:dU X (hP .Gt) (ml fun i j => .aH (decide (j<i))):=B9 fun _ _ _ _ _ _ _ q=>gt_int q
theorem Tg:dU X (hP .GtE) (ml fun i j => .aH (decide (j<=i))):=B9 fun _ _ _ _ _ _ _ q=>ge_int q
theorem WR:dU X (hP .Lt) (fun x y H Q=>∃ i j,x = .str i/\y = .str j/\Q (.aH (decide (i.cps.toList<j.cps.toList))) H):=by
 intro ak s ab H x y v u Q aa bf cd h
 obtain⟨i,j,rfl,rfl,q⟩:=h
 obtain⟨t,rfl⟩:=bf
 obtain⟨t',rfl⟩:=cd
 exact lt_str (eE aa q I)
theorem WS:dU X (hP .In) (fun x y H Q=>∃ i j,x = .str i/\y = .str j/\Q (.aH (!(c1.Str.occurrences j i 0 j.length 1).isEmpty)) H):=by
 intro ak s ab H x y v u Q aa bf cd h
 obtain⟨i,j,rfl,rfl,q⟩:=h
 obtain⟨t,rfl⟩:=bf
 obtain⟨t',rfl⟩:=cd
 exact in_str (eE aa q I)
theorem AS:dU X (hP .Is) (fun x y H Q=>y = .bL/\Q (.aH (decide (x = .bL))) H):=by
 intro ak s ab H x y v u Q aa bf cd h
 obtain⟨rfl,q⟩:=h
 cases cd
 refine is_none_gen (eE aa q ?_)
 cases x<;>first
  | (cases bf;rfl)
  | (obtain⟨t,rfl⟩:=bf;rfl)
theorem LC:dU X (hP .IsNot) (fun x y H Q=>y = .bL/\Q (.aH (!decide (x = .bL))) H):=by
 intro ak s ab H x y v u Q aa bf cd h
 obtain⟨rfl,q⟩:=h
 cases cd
 refine isnot_none_gen (eE aa q ?_)
 cases x<;>first
  | (cases bf;rfl)
  | (obtain⟨t,rfl⟩:=bf;rfl)
theorem dU.or{f:ao->ao->Sem ao}{r e2:h6}(h:dU X f r)(h':dU X f e2):dU X f (fun x y H Q=>r x y H Q\/e2 x y H Q):=by
 intro ak s ab H x y v u Q aa bf cd q
 rcases q with q | q
 ·exact h ak s ab H x y v u Q aa bf cd q
 ·exact h' ak s ab H x y v u Q aa bf cd q
theorem L2(b:b2){op:CmpOp}(h:op≠.In:=by decide)(ar:op≠.NotIn:=by decide):behindInMarks op b=ah:=by
 have aG:(op == CmpOp.In)=ah:=by cases op<;>first | rfl | exact absurd I h
 have aL:(op == CmpOp.NotIn)=ah:=by cases op<;>first | rfl | exact absurd I ar
 cases b<;>simp[behindInMarks,aG,aL]
theorem LA{op:CmpOp}{r:h6}(aJ:dU X (hP op) r)(ba:bW X a bS)(aq:bW X b c9)(hm:behindInMarks op b=ah):bW X (.Compare a [op] [b] aO) (o5 r bS c9):=by
 intro ak s ab H Q aa h
 exact wpAny_Compare1 (FN ba aq aa h fun v u s2 x y ax bA bf cd q=>aJ ak s2 ab ax x y v u Q bA bf cd q) hm
inductive Jr(x:V)(Q:Bool->Prop):Prop where
 |mk (k:Bool) (a:x = .aH k) (h:Q k):Jr x Q
def Cw(t:TE):gL:=fun ab H Q=>t ab H fun x H'=>Jr x fun k=>Q k H'
theorem E9{op:CmpOp}{r:h6}(aJ:dU X (hP op) r)(ba:bW X a bS)(aq:bW X b c9)(hm:behindInMarks op b=ah):jO X (.Compare a [op] [b] aO) (Cw (o5 r bS c9)):=by
 intro ak s ab H Q aa h
 refine wpAny_isTrue_Compare1 (cz (ba ak s ab H _ aa h) fun v s1 ⟨x,H1,aS,cp,cD⟩=>cz (aq ak s1 ab H1 _ aS cD) fun u s2 ⟨y,ax,bA,el,cE⟩ =>
  cz (aJ ak s2 ab ax x y v u _ bA cp el cE) fun c hL ⟨z,bt,iq,rF,k,e,fL⟩=>?_) hm
 subst e
 cases rF
 exact wJ ⟨bt,iq,fL⟩
def zO(K:bO)(x:V)(H:au)(k:Bool):Prop :=
 match x with
 | .bL=>k=ah
 | .aH b=>k=b
 | .int i=>k=(i != 0)
 | .str y=>y.length<=bT/\k=((y.length:Int) != 0)
 | .kn y=>y.size<=bT/\k=((y.size:Int) != 0)
 | .ref p=>(∃ xs,dQ K H p xs/\k=!xs.isEmpty)\/(∃ xs,jc K H p xs/\k=!xs.isEmpty)\/∃ fH,H p=J (.l2 fH)/\k=!fH.isEmpty
 | _=>False
theorem Wn{ue:Type}{fH:List (ue×V)}{vs:List (ue×ao)}(r:Dd fH vs):(!vs.isEmpty)=!fH.isEmpty:=by
 cases r<;>rfl
theorem Ku{xs:List V}{bq:List ao}(r:Vals xs bq):(!bq.toArray.isEmpty)=!xs.isEmpty:=by
 cases r<;>simp
theorem v3:(bT:Nat)<2 ^ 63:=by rw[sizeLine_eq];decide
theorem LS:Rg X (fun x H Q=>∃ k,zO X.K x H k/\Q k H):=by
 intro ak s ab H x v Q aa bf h
 obtain⟨k,e,q⟩:=h
 have aC:=v3
 have hs:bT=16777216:=sizeLine_eq
 cases x with
 | bL =>
  cases bf
  have e':k=ah:=e
  subst e'
  exact truthy_none ⟨H,aa,q⟩
 | aH b =>
  cases bf
  have e':k=b:=e
  subst e'
  exact wJ ⟨H,aa,q⟩
 | int i =>
  obtain⟨t,rfl⟩:=bf
  have e':k=(i != 0):=e
  subst e'
  exact PySem.P.truthy_int ⟨H,aa,q⟩
 | str y =>
  obtain⟨t,rfl⟩:=bf
  obtain⟨bM,e'⟩:y.length<=bT/\k=((y.length:Int) != 0):=e
  subst e'
  exact PySem.P.truthy_str (by omega) ⟨H,aa.tok _,q⟩
 | kn y =>
  obtain⟨t,rfl⟩:=bf
  obtain⟨bM,e'⟩:y.size<=bT/\k=((y.size:Int) != 0):=e
  subst e'
  exact PySem.W.truthy_bytes (by omega) ⟨H,aa.tok _,q⟩
 | ref p =>
  cases bf
  have e':(∃ xs,dQ X.K H p xs/\k=!xs.isEmpty)\/(∃ xs,jc X.K H p xs/\k=!xs.isEmpty)\/∃ fH,H p=J (.l2 fH)/\k=!fH.isEmpty:=e
  rcases e' with⟨xs,ay,e'⟩ | ⟨xs,ay,e'⟩ | ⟨fH,ay,e'⟩
  ·subst e'
   obtain⟨bq,r,pl,bI⟩:=aa.list ay
   have cG:=r.length
   exact wpAny_truthy_list pl.isList (by simp only[fY];omega) ⟨H,aa.tok _,by rw[Ku r];exact q⟩
  ·subst e'
   obtain⟨bq,r,pl,bI⟩:=aa.tuple ay
   have cG:=r.length
   exact truthy_tuple pl (by simp only[fY];omega) ⟨H,aa.tok _,by rw[Ku r];exact q⟩
  ·subst e'
   obtain⟨bI,b7,vs,r,m⟩:fH.length<=bT/\(p == sysModules)=ah/\∃ vs,Dd fH vs/\s.heap.DictOf (NR X.prog X.w) p vs:=aa.aR p _ ay
   have cG:fH.length=vs.length:=Paired.length r
   exact wpAny_truthy_dict b7 m (by omega) ⟨H,aa.tok _,by rw[Wn r];exact q⟩
 | _=>exact(show False from e).elim
theorem XP(ba:bW X a bS)(he:∀ whole,isTrue a X.env whole=(do let v <- whole;standAt a.pos;holding [v] (truthy v))) :
  jO X a (fun ab H Q=>bS ab H fun x H'=>∃ k,zO X.K x H' k/\Q k H'):=by
 intro ak s ab H Q aa h
 refine isTrue_plain (cz (ba ak s ab H _ aa h) fun v s1 bD=>?_) (he _)
 obtain⟨x,H1,aS,cp,cD⟩:=bD
 exact LS ak s1 ab H1 x v Q aS cp cD
theorem Wd:dU X (ka .Add) (fun x y H Q=>∃ i j,x = .str i/\y = .str j/\i.length+j.length<=bT/\Q (.str (i++j)) H):=by
 intro ak s ab H x y v u Q aa bf cd h
 obtain⟨i,j,rfl,rfl,bI,q⟩:=h
 obtain⟨t,rfl⟩:=bf
 obtain⟨t',rfl⟩:=cd
 exact add_str (fun t' cf=>⟨.str (i++j),H,aa.tok _,⟨_,I⟩,q⟩) bI
theorem vals1{x:V}{us:List ao}(r:Vals [x] us):∃ u,us=[u]/\RelV x u:=by
 cases r with
 | cons cp el=>cases el;exact⟨_,I,cp⟩
theorem vals2{x y:V}{us:List ao}(r:Vals [x,y] us):∃ u hN,us=[u,hN]/\RelV x u/\RelV y hN:=by
 cases r with
 | cons cp el =>
  cases el with
  | cons rF HU=>cases HU;exact⟨_,_,I,cp,rF⟩
theorem Rr:js X (.builtin "abs") (fun xs H Q=>∃ i,xs=[.int i]/\Q (.int (if i<0 then -i else i)) H):=by
 intro ak s ab H xs us Q aa r h
 obtain⟨i,rfl,q⟩:=h
 obtain⟨u,rfl,t,rfl⟩:=vals1 r
 exact call_abs_int fun u cf=>⟨.int (if i<0 then -i else i),H,aa.tok _,⟨_,rfl⟩,q⟩
theorem EG(hc:X.calm=ag):js X (.builtin "min") (fun xs H Q=>∃ i j,xs=[.int i,.int j]/\Q (.int (if j<i then j else i)) H):=by
 intro ak s ab H xs us Q aa r h
 obtain⟨i,j,rfl,q⟩:=h
 obtain⟨u,hN,rfl,⟨t,rfl⟩,⟨t',rfl⟩⟩:=vals2 r
 refine min_two_ints (aa.ok.hd hc) fun h' cf k=>⟨_,H,aa.kept k,?_,q⟩
 by_cases cy:j<i
 ·rw[if_pos cy,if_pos cy];exact⟨_,I⟩
 ·rw[if_neg cy,if_neg cy];exact⟨_,I⟩
theorem Xr:js X (.type "int") (fun xs H Q=>(∃ i,xs=[.int i]/\Q (.int i) H)\/∃ k,xs=[.aH k]/\Q (.int (if k then 1 else 0)) H):=by
 intro ak s ab H xs us Q aa r h
 rcases h with⟨i,rfl,q⟩ | ⟨k,rfl,q⟩
 ·obtain⟨u,rfl,t,rfl⟩:=vals1 r
  exact call_int_int ⟨.int i,H,aa,⟨_,I⟩,q⟩
 ·obtain⟨u,rfl,cp⟩:=vals1 r
  cases cp
  exact call_int_bool ⟨.int (if k then 1 else 0),H,aa.tok _,⟨_,rfl⟩,q⟩
def Q1(K:bO)(x:V)(H:au)(n:Nat):Prop :=
 match x with
 | .str y=>y.length<=bT/\n=y.length
 | .kn y=>y.size<=bT/\n=y.size
 | .ref p=>(∃ xs,dQ K H p xs/\n=xs.length)\/∃ xs,jc K H p xs/\n=xs.length
 | _=>False
theorem d8:js X (.builtin "len") (fun xs H Q=>∃ x n,xs=[x]/\Q1 X.K x H n/\Q (.int n) H):=by
 intro ak s ab H xs us Q aa r h
 obtain⟨x,n,rfl,e,q⟩:=h
 obtain⟨u,rfl,bf⟩:=vals1 r
 have aC:=v3
 have hs:bT=16777216:=sizeLine_eq
 cases x with
 | str y =>
  obtain⟨t,rfl⟩:=bf
  obtain⟨bM,e'⟩:y.length<=bT/\n=y.length:=e
  subst e'
  exact len_str (by omega) ⟨.int _,H,aa.tok _,⟨_,I⟩,q⟩
 | kn y =>
  obtain⟨t,rfl⟩:=bf
  obtain⟨bM,e'⟩:y.size<=bT/\n=y.size:=e
  subst e'
  exact PySem.W.len_bytes (by omega) ⟨.int _,H,aa.tok _,⟨_,I⟩,q⟩
 | ref p =>
  cases bf
  have e':(∃ xs,dQ X.K H p xs/\n=xs.length)\/∃ xs,jc X.K H p xs/\n=xs.length:=e
  rcases e' with⟨xs,ay,e'⟩ | ⟨xs,ay,e'⟩
  ·subst e'
   obtain⟨bq,e2,pl,bI⟩:=aa.list ay
   have cG:=e2.length
   exact Calls.call_len_list pl.isList (by simp only[fY];omega) ⟨.int xs.length,H,aa.tok _,⟨_,by simp only[fY];rw[cG]⟩,q⟩
  ·subst e'
   obtain⟨bq,e2,pl,bI⟩:=aa.tuple ay
   have cG:=e2.length
   exact len_tuple pl (by simp only[fY];omega) ⟨.int xs.length,H,aa.tok _,⟨_,by simp only[fY];rw[cG]⟩,q⟩
 | _=>exact(show False from e).elim
end
structure sv(h:aX)(x al C:ae)(eS:af->Option ao):Prop where
 obj:h.get? x=J (mv C al)
 ns:h.Ns1 al eS
 ne:al≠x
theorem KM{h:aX}{al:ae}{eS:af->Option ao}(n:h.Ns1 al eS):∃ od,h.get? al=J od/\∀ name,I1 name od=J (eS name):=by
 obtain⟨o,aV,fV,aJ,hd,hk,_,hm⟩:=n
 refine⟨o,aJ,fun name=>?_⟩
 have e:=hm name
 unfold nsFind findBy at e
 rw[<- Array.find?_toList] at e
 unfold I1
 rw[hd]
 dsimp only
 split
 ·rename_i y q
  rw[q] at e
  exact congrArg J e
 ·rename_i q
  rw[q] at e
  have a:aV.toList.any (·.refKey)=ah:=by
   rw[List.any_eq_false]
   intro y bM
   obtain⟨z,t,abd⟩:=hk y (Array.mem_toList_iff.mp bM)
   simp[DictEntry.refKey,abd]
  have Yh:¬aV.toList.any (·.refKey)=ag:=by rw[a];exact g6
  rw[if_neg Yh]
  exact congrArg J e
theorem sv.look{h:aX}{x al C:ae}{eS:af->Option ao}(aa:sv h x al C eS):∃ od,PySem.W.InstAt h x (mv C al) C (J od)/\∀ name,I1 name od=J (eS name) :=
 let ⟨od,aJ,aC⟩:=KM aa.ns
 ⟨od,⟨aa.obj,rfl,rfl,aJ⟩,aC⟩
section
variable {prog:cX} {w:cu} {A:da} {E:ao->aI->Prop} {s:aI} {K:bO} {x al C f:ae} {eS:af->Option ao} {name:af} {v:ao}
theorem Sb{expr:Bool}{Q:ao->aI->Prop}(X:K.In s.heap)(aa:sv s.heap x al C eS)(aK:CO K C name=ag)(fp:uh K C=ag)
  (ba:dS K (.ref C) name=J aw) (bl:eS name=J v) (tv:PySem.W.handedIn v=ag) (h:Q v {s with toks:=s.toks+1}) :
  bE (model prog w) A (getAttr (.ref x) name expr) Q E s:=by
 obtain⟨od,dD,aC⟩:=aa.look
 exact PySem.W.get_value X dD (PySem.W.plainGet_of aK).1 (PySem.W.findObj_own fp ba I (by rw[aC,bl])) tv h
theorem X5{pl:Sem Bool}{Q:ao×List ao->aI->Prop}(X:K.In s.heap)(aa:sv s.heap x al C eS)(aK:CO K C name=ag)
  (aE:dS K (.ref C) name=J (J (.ref f))) (aW:I0 K (.ref f)=ag) (bl:eS name=aw) (h:Q (.ref f,[.ref x]) s) :
  bE (model prog w) A (getMethod (.ref x) name pl) Q E s:=by
 obtain⟨od,dD,aC⟩:=aa.look
 exact PySem.W.method_fn X dD (PySem.W.plainGet_of aK).1 (PySem.W.plainGet_of aK).2 aE (beq_iff_eq.mp aW) (by show (I1 name od).map (·.isSome)=J ah;rw[aC,bl];rfl) h
theorem RJ{ns:List af}{Q:Unit->aI->Prop}(X:K.In s.heap)(aa:sv s.heap x al C eS)
  (hs:dS K (.ref C) "__setattr__"=J (J (.builtin "object.__setattr__"))) (bh:PySem.W.plainOver K C=ag) (aW:rW K C name=J aw) (fp:uh K C=ag)
  (hw:PySem.Within eS ns) (f7:ns.length<=bT)
  (h:∀ h',sv h' x al C (fun y=>if y=name then J v else eS y)->aX.SameBut al s.heap h'->Q () {s with heap:=h',toks:=s.toks+2}) :
  bE (model prog w) A (setAttr (.ref x) name v) Q E s:=by
 obtain⟨od,dD,aC⟩:=aa.look
 refine PySem.W.set_plain X dD hs (PySem.W.osa_open (s:={s with toks:=s.toks+1}) (r:=aw) X dD bh aW fun b=>?_)
 obtain⟨c4,hc,GP⟩:=PySem.W.any_some fp
 have ay:s.heap.get? x=J ⟨.ref C,J al,.plain,#[]⟩:=aa.obj
 refine bC (dv (bC (bC (wpAny_loadPart ay (bC (PySem.W.Looks.here (s:={s with toks:=s.toks+1}) (PySem.W.looks_clsIn X hc) ?_))))))
 rw[GP]
 refine dv (a:=J al) (bC (dv (bC ?_)))
 refine wpAny_nsSet1 (s:={s with toks:=s.toks+1}) aa.ns fun h' kR hF=>?_
 obtain⟨wb,Zt,Zs,BH,GQ,kP⟩:=kR.count (PySem.Within.cons name v hw)
 refine bC (wpAny_lookBehind BH (by rw[GQ];exact pastItsLine_dict (ey kP (by rw[ed];omega))) ?_)
 exact dv (h _ ⟨(hF.2 _ (d2 aa.ne)).trans aa.obj,kR,aa.ne⟩ hF)
theorem X2{R:Result->aI->Prop}{vs:List ao}{kw:List (af×ao)}(X:K.In s.heap)(hm:y3 K C=ag)
  (aB:dS K (.ref C) "__init__"=J (J (.ref f))) (aE:rX K (.ref f)=J (.type "function"))
  (h:kA (model prog w) (A.under (.builtin "type.__call__" ⟨.ref C::vs,kw⟩)) (.call (.ref f) ⟨.ref (s.heap.objs.size+1)::vs,kw⟩) (PySem.W.InitBack (s.heap.objs.size+1) R)
   {s with heap:=(s.heap.push mu).push (mv C s.heap.objs.size)}) :
  kA (model prog w) A (.call (.ref C) ⟨vs,kw⟩) R s:=by
 obtain⟨fp,g,d,t,os⟩:=s
 exact PySem.W.make_core (PySem.W.makes_of X hm) (PySem.W.looks_findIn X aB) (fun self=>PySem.W.bind_fn X self aE) (.inl I) h
theorem WX{R:Result->aI->Prop}(X:K.In s.heap)(hm:y3 K C=ag)
  (aB:dS K (.ref C) "__init__"=J (J (.builtin "object.__init__")))
  (aq:∀ self,PySem.W.Looks (model prog w) s.heap (bindSpecial (.builtin "object.__init__") self) (.builtin "object.__init__",[self]))
  (h:kA (model prog w) (A.under (.builtin "type.__call__" ⟨[.ref C],[]⟩)) (.call (.builtin "object.__init__") ⟨[.ref (s.heap.objs.size+1)],[]⟩) (PySem.W.InitBack (s.heap.objs.size+1) R)
   {s with heap:=(s.heap.push mu).push (mv C s.heap.objs.size)}) :
  kA (model prog w) A (.call (.ref C) ⟨[],[]⟩) R s:=by
 obtain⟨fp,g,d,t,os⟩:=s
 exact PySem.W.make_core (PySem.W.makes_of X hm) (PySem.W.looks_findIn X aB) aq (.inr ⟨I,I⟩) h
end
noncomputable def e8(f:af)(v:V):List (af×V)->List (af×V)
 | []=>[(f,v)]
 | (g,x)::r=>if g=f then (g,v)::r else (g,x)::e8 f v r
theorem Kk(f g:af)(v:V):∀ fs:List (af×V),(e8 f v fs).lookup g=if g=f then J v else fs.lookup g
 | []=>by
  show List.lookup g [(f,v)]=_
  by_cases h:g=f
  ·have aq:(g == f)=ag:=beq_iff_eq.mpr h
   simp only[List.lookup,aq,if_pos h]
  ·have aq:(g == f)=ah:=beq_eq_false_iff_ne.mpr h
   simp only[List.lookup,aq,if_neg h]
 | (k,x)::r=>by
  have cA:=Kk f g v r
  rw[show e8 f v ((k,x)::r)=(if k=f then (k,v)::r else (k,x)::e8 f v r) from rfl]
  by_cases hk:k=f
  ·rw[if_pos hk]
   by_cases h:g=k
   ·have aq:(g == k)=ag:=beq_iff_eq.mpr h
    simp only[List.lookup,aq,if_pos (h.trans hk)]
   ·have aq:(g == k)=ah:=beq_eq_false_iff_ne.mpr h
    simp only[List.lookup,aq,if_neg (fun e:g=f=>h (e.trans hk.symm))]
  ·rw[if_neg hk]
   by_cases h:g=k
   ·have aq:(g == k)=ag:=beq_iff_eq.mpr h
    simp only[List.lookup,aq,if_neg (fun e:g=f=>hk (h.symm.trans e))]
   ·have aq:(g == k)=ah:=beq_eq_false_iff_ne.mpr h
    simp only[List.lookup,aq]
    exact cA
theorem EE(f:af)(v:V):∀ fs:List (af×V),f∈(e8 f v fs).map (·.1)/\∀ g,g∈fs.map (·.1)->g∈(e8 f v fs).map (·.1)
 | []=>⟨by simp[e8],fun g h=>by simp at h⟩
 | (k,x)::r=>by
  obtain⟨ea,eg⟩:=EE f v r
  rw[show e8 f v ((k,x)::r)=(if k=f then (k,v)::r else (k,x)::e8 f v r) from rfl]
  by_cases hk:k=f
  ·rw[if_pos hk]
   subst hk
   exact⟨by simp,fun g h=>by simpa using h⟩
  ·rw[if_neg hk]
   refine⟨?_,fun g h=>?_⟩
   ·rw[jw]
    exact fk _ ea
   ·rw[jw] at h ⊢
    rcases dn.mp h with e | e
    ·exact dn.mpr (.inl e)
    ·exact fk _ (eg g e)
theorem Km(f:af)(v:V):∀ fs:List (af×V),(e8 f v fs).length<=fs.length+1
 | []=>by simp[e8]
 | (k,x)::r=>by
  have cA:=Km f v r
  rw[show e8 f v ((k,x)::r)=(if k=f then (k,v)::r else (k,x)::e8 f v r) from rfl]
  by_cases hk:k=f
  ·rw[if_pos hk,ed,ed];omega
  ·rw[if_neg hk,ed,ed];omega
theorem nz.agD{v:V}{o:Option ao}(r:nz (J v) o):∃ u,o=J u/\RelV v u:=by
 cases o with
 | none=>exact(show False from r).elim
 | some u=>exact⟨u,I,r⟩
theorem nz.none_of{o:Option ao}(r:nz aw o):o=aw:=by
 cases o with
 | none=>rfl
 | some u=>exact(show False from r).elim
theorem W4{v:V}{u:ao}(r:RelV v u):PySem.W.handedIn u=ag:=by
 cases v with
 | bL=>cases (show u=ao.none from r);rfl
 | aH b=>cases (show u=ao.bool b from r);rfl
 | int i=>obtain⟨t,e⟩:=(show ∃ t,u=ao.int i t from r);cases e;rfl
 | str x=>obtain⟨t,e⟩:=(show ∃ t,u=ao.str x t from r);cases e;rfl
 | kn b=>obtain⟨t,e⟩:=(show ∃ t,u=ao.bytes b t from r);cases e;rfl
 | ta b=>obtain⟨t,e⟩:=(show ∃ t,u=ao.float b t from r);cases e;rfl
 | ref a=>cases (show u=ao.ref a from r);rfl
 | ty n=>cases (show u=ao.type n from r);rfl
section
variable {P:cX} {w:cu} {H H':au} {h h':aX} {a C al:ae} {fs tc:List (af×V)}
theorem AK(aR:fh P w H h)(e:H a=J (.ins C al fs)):∃ eS,sv h a al C eS/\(∀ f,nz (fs.lookup f) (eS f))/\PySem.Within eS (fs.map (·.1))/\fs.length<=1000/\H al=J (.own a):=by
 obtain⟨d,z,ne,dC,eS,n,r,q⟩:=(show gg P w H h a (.ins C al fs) from aR a _ e)
 exact⟨eS,⟨dC,n,ne⟩,r,q,z,d⟩
end
structure fe(K:bO)(C:ae):Prop where
 aeo:CO K C af.empty=ag
 hd:uh K C=ag
 po:PySem.W.plainOver K C=ag
 sa:dS K (.ref C) "__setattr__"=J (J (.builtin "object.__setattr__"))
theorem fe.get{K:bO}{C:ae}(c:fe K C)(f:af):CO K C f=ag:=c.aeo
def jN(K:bO)(C:ae)(f:af):Prop:=dS K (.ref C) f=J aw
theorem jN.ahd{K:bO}{C:ae}{f:af}(n:jN K C f):rW K C f=J aw:=by
 unfold rW
 rw[show dS K (.ref C) f=J aw from n]
 rfl
structure sr(K:bO)(C:ae)(m:af)(f:ae):Prop where
 at_:dS K (.ref C) m=J (J (.ref f))
 fn:I0 K (.ref f)=ag
 ij:j9 K (.ref f)=ag
section
variable {X:bp} {ak:List (ae×bo)} {ab:St} {H:au} {s:aI} {a C al:ae} {fs:List (af×V)} {f:af} {v:V} {A:da} {E:ao->aI->Prop}
theorem Wr{b:Bool}{Q:ao->aI->Prop}(aa:Inv X ak ab H s)(e:H a=J (.ins C al fs))(c:fe X.K C)(n:jN X.K C f)(l:fs.lookup f=J v)
  (h:∀ u aF,Inv X ak ab H aF->RelV v u->Q u aF):bE (model X.prog X.w) A (getAttr (.ref a) f b) Q E s:=by
 obtain⟨eS,O,r,_,_,_⟩:=AK aa.aR e
 obtain⟨u,dN,gG⟩:=nz.agD (v:=v) (o:=eS f) (by rw[<- l];exact r f)
 exact Sb aa.es O (c.get f) c.hd n dN (W4 gG) (h u _ (aa.tok _) gG)
theorem xf{m:af}{g:ae}{pl:Sem Bool}{Q:ao×List ao->aI->Prop}(aa:Inv X ak ab H s)(e:H a=J (.ins C al fs))(c:fe X.K C)(k:sr X.K C m g)(l:fs.lookup m=aw)
  (h:Q (.ref g,[.ref a]) s):bE (model X.prog X.w) A (getMethod (.ref a) m pl) Q E s:=by
 obtain⟨eS,O,r,_,_,_⟩:=AK aa.aR e
 have bc:eS m=aw:=nz.none_of (by rw[<- l];exact r m)
 exact X5 aa.es O (c.get m) k.at_ k.fn bc h
theorem V4{y:V}{u:ao}{Q:Unit->aI->Prop}(aa:Inv X ak ab H s)(e:H a=J (.ins C al fs))(c:fe X.K C)(n:jN X.K C f)(aC:fs.length<1000)(cd:RelV y u)
  (h:∀ aF,Inv X ak ab (upd H a (.ins C al (e8 f y fs))) aF->Q () aF):bE (model X.prog X.w) A (setAttr (.ref a) f u) Q E s:=by
 obtain⟨eS,O,r,hO,_,aJ⟩:=AK aa.aR e
 have bI:(fs.map (·.1)).length<=bT:=by rw[cM,sizeLine_eq];omega
 refine RJ aa.es O c.sa c.po n.ahd c.hd hO bI fun h' Dh m4=>h _ ?_
 have hd:∃ o,h'.get? al=J o:=let ⟨o,_,_,e',_⟩:=Dh.ns;⟨o,e'⟩
 refine aa.write (x:=a) (e:=al) (by rw[e];exact True.intro) (.inr aJ) (fun b q aq z=>(m4.2 b aq).trans z) hd ?_
 refine⟨by rw[bJ O.ne];exact aJ,?_,O.ne,Dh.obj,_,Dh.ns,fun g=>?_,fun g aK=>?_⟩
 ·have:=Km f y fs;omega
 ·show nz ((e8 f y fs).lookup g) (if g=f then J u else eS g)
  rw[Kk]
  by_cases q:g=f
  ·rw[if_pos q,if_pos q];exact cd
  ·rw[if_neg q,if_neg q];exact r g
 ·by_cases q:g=f
  ·rw[q];exact(EE f y fs).1
  ·refine(EE f y fs).2 g (hO g fun z=>aK ?_)
   show (if g=f then J u else eS g)=aw
   rw[if_neg q];exact z
theorem Inv.made(aa:Inv X ak ab H s):Inv X ak ab (upd (upd H s.heap.objs.size (.own (s.heap.objs.size+1))) (s.heap.objs.size+1) (.ins C s.heap.objs.size []))
  {s with heap:=(s.heap.push mu).push (mv C s.heap.objs.size)}:=by
 have aG:(s.heap.push mu).get? s.heap.objs.size=J mu:=gU s.heap rfl
 have aL:((s.heap.push mu).push (mv C s.heap.objs.size)).get? (s.heap.objs.size+1)=J (mv C s.heap.objs.size):=by
  have:=gU (s.heap.push mu) (o:=mv C s.heap.objs.size) rfl
  rwa [aX.size_push] at this
 have dE:(s.heap.push mu).Ns s.heap.objs.size (fun _=>aw):=⟨mu,#[],_,aG,rfl,(fun e he=>absurd he (by simp)),fun _=>rfl⟩
 have aS:=aa.laid (a:=s.heap.objs.size) (o := .own (s.heap.objs.size+1)) (h':=s.heap.push mu) (t':=s.toks) (fun b u q=>d7 _ q) (cx _) ⟨_,aG⟩
 refine aS.laid (a:=s.heap.objs.size+1) (o := .ins C s.heap.objs.size []) (t':=s.toks) (fun b u q=>d7 _ q) (Nat.le_of_eq (aX.size_push _ _)) ?_
 have ne:s.heap.objs.size≠s.heap.objs.size+1:=fj (Nat.lt_succ_self _)
 refine⟨by rw[bJ ne,aM],UF _,ne,aL,fun _=>aw,(aX.Ns1.of_empty dE).at fun o q=>d7 _ q,fun _=>True.intro,fun y bM=>absurd rfl bM⟩
theorem LP{prog:cX}{w:cu}{env:Env}{e:b2}{f:af}{aO:Pos}{s:aI}{Q:ao->aI->Prop}(aq:attributeBase e f env (eval e env)=eval e env)
  (h:bE (model prog w) A (eval e env) (fun o dx=>bE (model prog w) A (getAttr o f ag) Q E dx) E s):bE (model prog w) A (eval (.Attribute e f aO) env) Q E s :=
 Attribute_any_ h (by rw[arm_eval_Attribute,aq])
end
def agO(K:bO)(bS:TE)(f:af):TE:=fun ab H Q=>bS ab H fun x H1=>∃ a C al fs v,x = .ref a/\H1 a=J (.ins C al fs)/\fe K C/\jN K C f/\fs.lookup f=J v/\Q v H1
def ags(K:bO)(bS m7:TE)(f:af):eK:=fun D ab H=>m7 ab H fun y H1=>bS ab H1 fun x ax=>∃ a C al fs,x = .ref a/\ax a=J (.ins C al fs)/\fe K C/\jN K C f/\fs.length<1000/\
 D.nx ab (upd ax a (.ins C al (e8 f y fs)))
section
variable {X:bp} {o e value:b2} {f:af} {aO pos' wA:Pos} {bS m7:TE}
theorem ee(he:bW X e bS)(aq:attributeBase e f X.env (eval e X.env)=eval e X.env):bW X (.Attribute e f aO) (agO X.K bS f):=by
 intro ak s ab H Q aa h
 refine LP aq (cz (he ak s ab H _ aa h) fun u s1 bD=>?_)
 obtain⟨x,H1,aS,bf,a,C,al,fs,v,ex,c7,c,n,l,q⟩:=bD
 subst ex
 obtain rfl:u=ao.ref a:=bf
 exact Wr aS c7 c n l fun rP s2 bA gG=>⟨v,H1,bA,gG,q⟩
theorem iT(ba:bW X o bS)(bl:bW X value m7)(hs:swapsWith value (J (.Attribute o f pos')) aO.line X.env=pure ah):jv X (.Assign [.Attribute o f pos'] value aO) (ags X.K bS m7 f):=by
 intro ak s ab H D aa h
 refine plainObj_wpAny_Assign_Attribute (cz (bl ak s ab H _ aa h) fun u s1 ⟨y,H1,aS,cd,q⟩=>cz (ba ak s1 ab H1 _ aS q) fun ov s2 bD=>?_) hs
 obtain⟨x,ax,bA,bf,a,C,al,fs,ex,c7,c,n,l,cE⟩:=bD
 subst ex
 obtain rfl:ov=ao.ref a:=bf
 exact V4 bA c7 c n l cd fun hL iq=>⟨ab,_,iq,cE⟩
end
section
variable {X:bp} {ak:List (ae×bo)} {ab:St} {H:au} {s:aI} {A:da} {E:ao->aI->Prop} {Q:ao->aI->Prop} {c:ao} {b:Bool}
inductive kD (K:bO) (H:au):V->ao->Prop where
 | bL:kD K H .bL (.type "NoneType")
 | aH (x:Bool):kD K H (.aH x) (.type "bool")
 | int (i:Int):kD K H (.int i) (.type "int")
 | str (x:af):kD K H (.str x) (.type "str")
 | ta (x:UInt64):kD K H (.ta x) (.type "float")
 | lst {a:ae} {xs:List V} (e:H a=J (.lst xs)):kD K H (.ref a) (.type "list")
 | iG {a:ae} {o:bo} {xs:List V} (e:H a=J (.iG o (.lst xs))):kD K H (.ref a) (.type "list")
 | tup {a:ae} {xs:List V} (e:H a=J (.tup xs)):kD K H (.ref a) (.type "tuple")
 | l2 {a:ae} {fH:List (Key×V)} (e:H a=J (.l2 fH)):kD K H (.ref a) (.type "dict")
 | oI {a:ae} {fH:List (List Key×V)} (e:H a=J (.oI fH)):kD K H (.ref a) (.type "dict")
 | ins {a C al:ae} {fs:List (af×V)} (e:H a=J (.ins C al fs)) (cl:fe K C) (ba:dS K (.ref C) "__class__"=J (J (.builtin "object.__class__")))
   (bc:I2 K (.builtin "object.__class__") "__get__"=J (J (.builtin "getset_descriptor.__get__"))) (yi:PySem.W.takesIn K (.builtin "object.__class__")=J ag)
   (hm:kz K C (.type "object")=J ag):kD K H (.ref a) (.ref C)
theorem KU{x:V}{u t:ao}(aa:Inv X ak ab H s)(bf:RelV x u)(ty:kD X.K H x t)(e:eU X.K t c=J b)(h:∀ cf,Q (.bool b) {s with toks:=cf}) :
  bE (model X.prog X.w) A (call (.builtin "isinstance") [u,c]) Q E s:=by
 cases ty with
 | bL=>cases (show u=ao.none from bf);exact pb PySem.W.kitx_none aa.es True.intro e (fun z=>nomatch z) h
 | aH y=>cases (show u=ao.bool y from bf);exact pb PySem.W.kitx_bool aa.es True.intro e (fun z=>nomatch z) h
 | int i=>obtain⟨t,q⟩:=(show ∃ t,u=ao.int i t from bf);cases q;exact pb PySem.W.kitx_int aa.es True.intro e (fun z=>nomatch z) h
 | str y=>obtain⟨t,q⟩:=(show ∃ t,u=ao.str y t from bf);cases q;exact pb PySem.W.kitx_str aa.es True.intro e (fun z=>nomatch z) h
 | ta y=>obtain⟨t,q⟩:=(show ∃ t,u=ao.float y t from bf);cases q;exact pb PySem.W.kitx_float aa.es True.intro e (fun z=>nomatch z) h
 | @lst a xs c7 =>
  cases (show u=ao.ref a from bf)
  obtain⟨_,_,n,_,aj⟩:=(show gg X.prog X.w H s.heap a (.lst xs) from aa.aR a _ c7)
  exact pb PySem.W.kitx_list aa.es ⟨_,aj,I⟩ e (fun z=>nomatch z) h
 | @iG a dC xs c7 =>
  cases (show u=ao.ref a from bf)
  obtain⟨_,_,_,n,_,aj⟩:=(show gg X.prog X.w H s.heap a (.iG dC (.lst xs)) from aa.aR a _ c7)
  exact pb PySem.W.kitx_list aa.es ⟨_,aj,I⟩ e (fun z=>nomatch z) h
 | @tup a xs c7 =>
  cases (show u=ao.ref a from bf)
  obtain⟨_,_,_,p⟩:=(show gg X.prog X.w H s.heap a (.tup xs) from aa.aR a _ c7)
  obtain⟨o,aj,ar,_⟩:=p
  exact pb PySem.W.kitx_tuple aa.es ⟨o,aj,ar⟩ e (fun z=>nomatch z) h
 | @l2 a fH c7 =>
  cases (show u=ao.ref a from bf)
  obtain⟨_,_,vs,_,p⟩:=(show gg X.prog X.w H s.heap a (.l2 fH) from aa.aR a _ c7)
  obtain⟨o,aV,fV,aj,ar,_⟩:=p
  exact pb PySem.W.kitx_dict aa.es ⟨o,aj,ar.1⟩ e (fun z=>nomatch z) h
 | @oI a fH c7=>exact(show False from aa.aR a _ c7).elim
 | @ins a C al fs c7 cl ba bc yi hm =>
  cases (show u=ao.ref a from bf)
  obtain⟨eS,O,_⟩:=AK aa.aR c7
  obtain⟨od,dD,_⟩:=O.look
  exact pb (PySem.W.kitx_own (cl.get _) cl.hd ba bc yi hm) aa.es dD e (fun z=>nomatch z) h
end
structure e4(k:Nat)(A:da):Prop where
 hd:A.handled=aw
 nP:A.depth+3*k+5<recursionLimit
 un:A.units+16*k+200<cLine
theorem e4.mono{j k:Nat}{A:da}(r:e4 k A)(h:j<=k):e4 j A:=⟨r.hd,by have:=r.nP;omega,by have:=r.un;omega⟩
theorem e4.deeper{k:Nat}{A:da}(r:e4 (k+1) A)(env:Env):e4 k (A.deeper env) :=
 ⟨r.hd,by have:=r.nP;show A.depth+1+3*k+5<_;omega,by have:=r.un;show A.units+3+16*k+200<_;omega⟩
theorem Wk{A:da}{C:ae}{us:List ao}{kw:List (af×ao)}:(A.under (.builtin "type.__call__" ⟨.ref C::us,kw⟩)).depth=A.depth+1:=by
 first | rfl | simp[da.under,Code.weight,Code.isCreation,Code.isGuard,Code.isCaller,Code.frames,Code.isFrame,guardIds]
theorem Wj{A:da}{C:ae}{us:List ao}{kw:List (af×ao)}:(A.under (.builtin "type.__call__" ⟨.ref C::us,kw⟩)).units=A.units+1:=by
 first | rfl | simp[da.under,Code.cUnits,Code.frames,Code.isFrame]
theorem e4.make{k:Nat}{A:da}(r:e4 (k+1) A)(C:ae)(us:List ao)(kw:List (af×ao)):e4 k (A.under (.builtin "type.__call__" ⟨.ref C::us,kw⟩)) :=
 ⟨r.hd,by have:=r.nP;rw[Wk];omega,by have:=r.un;rw[Wj];omega⟩
theorem e4.depth{k:Nat}{A:da}(r:e4 k A):A.depth<recursionLimit:=by have:=r.nP;omega
noncomputable def Cv:gw:=fun _ H Q=>Q [] H
noncomputable def PG(bS:TE)(ahB:gw):gw:=fun ab H Q=>bS ab H fun x H1=>ahB ab H1 fun xs ax=>Q (x::xs) ax
section
variable {X:bp} {e:b2} {aV:List b2} {cn:TE} {t:gw} {aO:Pos}
theorem aA:hx X [] Cv:=fun _ _ _ _ H Q aa h=>Calls.spliced_nil ⟨[],H,aa,.nil,h⟩
theorem av(ba:bW X e cn)(az:hx X aV t)(hs:df (e::aV) X.env=(ah,eval e X.env)::df aV X.env:=by rfl):hx X (e::aV) (PG cn t):=by
 intro aO ak s ab H Q aa h
 rw[hs]
 show bE _ _ (spliced ((ah,eval e X.env)::backTo aO (df aV X.env))) _ _ s
 refine Calls.spliced_cons (cz (ba ak s ab H _ aa h) fun u s1 bD=>?_)
 obtain⟨x,H1,aS,cp,cD⟩:=bD
 refine cz (az aO ak s1 ab H1 _ aS cD) fun us s2 bD=>?_
 obtain⟨xs,ax,bA,el,cE⟩:=bD
 exact ⟨x::xs,ax,bA,.cons cp el,cE⟩
def ag4(t:gw):TE:=fun ab H Q=>t ab H fun xs H1=>xs.length<=bT/\∀ p,H1 p=aw->Q (.ref p) (upd H1 p (.tup xs))
def agS(t:gw):TE:=fun ab H Q=>t ab H fun xs H1=>xs.length<=bT/\∀ p,H1 p=aw->Q (.ref p) (upd H1 p (.lst xs))
theorem jS{hg}(h:hx X aV t):bW X (.Tuple aV hg aO) (ag4 t):=by
 intro ak s ab H Q aa aU
 refine wpAny_Tuple_spliced (cz (h aO ak s ab H _ aa aU) fun us s1 bD=>?_)
 obtain⟨xs,H1,aS,r,z,q⟩:=bD
 refine ⟨by rw[<- r.length];exact z,?_⟩
 have aE:H1 s1.heap.objs.size=aw:=aS.aR.fresh (cx _)
 refine⟨.ref s1.heap.objs.size,upd H1 s1.heap.objs.size (.tup xs),aS.laid (t':=s1.toks) (fun b u e=>d7 _ e) (cx _) ?_,I,q _ aE⟩
 exact⟨z,us,r,⟨_,gU _ I,I,_,I⟩⟩
theorem fU(h:hx X aV t):bW X (.List aV aO) (agS t):=by
 intro ak s ab H Q aa aU
 refine wpAny_List_spliced (cz (h aO ak s ab H _ aa aU) fun us s1 bD=>?_)
 obtain⟨xs,H1,aS,r,z,q⟩:=bD
 refine ⟨by rw[<- r.length];exact z,?_⟩
 have aE:H1 s1.heap.objs.size=aw:=aS.aR.fresh (cx _)
 refine⟨.ref s1.heap.objs.size,upd H1 s1.heap.objs.size (.lst xs),aS.laid (t':=s1.toks) (fun b u e=>d7 _ e) (cx _) ?_,I,q _ aE⟩
 exact⟨z,us,0,r,gU _ I⟩
end
noncomputable abbrev b5:=List V->au->bx->bP->Prop
noncomputable abbrev k0:=List Env->au->aI->bP->ao->aI->Prop
structure se(P:cX)(w:cu)(K:bO)(mg:af->Option ao)(base:aX)(A:da)(outer:List Env)(s:aI)(H:au):Prop where
 frames:A.frames=J outer
 mod:Mod K mg base
 bs:∀ b o,base.get? b=J o->s.heap.get? b=J o/\H b=aw
 nL:base.objs.size<=s.heap.objs.size
 ly:s.heap.FunFrames base outer
 pU:∀ b∈iy outer,H b=aw
 aR:fh P w H s.heap
 bare:AllBare s.gens
def CS(outer:List Env)(P:cX)(w:cu)(H:au)(s:aI)(Q:bx)(u:ao)(aF:aI):Prop :=
 ∃ v H',aF.os=s.os/\AllBare aF.gens/\fB (iy outer) [] H H' s.heap aF.heap/\fh P w H' aF.heap/\RelV v u/\Q v H'
def Qb(CX:k0)(outer:List Env)(P:cX)(w:cu)(H:au)(s:aI)(Q:bx)(E:bP)(r:Result)(aF:aI):Prop :=
 match r with
 | .ok (.ret u)=>CS outer P w H s Q u aF
 | .ok _=>False
 | .error e=>CX outer H s E e aF
structure cg(P:cX)(w:cu)(K:bO)(mg:af->Option ao)(base:aX)(CX:k0)(k:Nat)(f:ae)(fd:fu)(ps:List af)(sp:b5):Prop where
 len:∀ vs H Q E,sp vs H Q E->vs.length=ps.length
 run:∀ (A:da) (outer:List Env) (s:aI) (H:au) (args:Args) (us:List ao) (vs:List V) (Q:bx) (E:bP),e4 k A->se P w K mg base A outer s H->BindsTo s fd args (ps.zip us)->Vals vs us->sp vs H Q E->
  kA (model P w) A (.call (.ref f) args) (Qb CX outer P w H s Q E) s
theorem cg.mono{P:cX}{w:cu}{K:bO}{mg:af->Option ao}{base:aX}{CX:k0}{j k:Nat}{f:ae}{fd:fu}{ps:List af}{sp:b5}(F:cg P w K mg base CX j f fd ps sp)(h:j<=k) :
  cg P w K mg base CX k f fd ps sp:=⟨F.len,fun A outer s H args us vs Q E az=>F.run A outer s H args us vs Q E (az.mono h)⟩
theorem se.make{P:cX}{w:cu}{K:bO}{mg:af->Option ao}{base:aX}{A:da}{outer:List Env}{s:aI}{H:au}(e:se P w K mg base A outer s H)(C:ae)(us:List ao)(kw:List (af×ao)) :
  se P w K mg base (A.under (.builtin "type.__call__" ⟨.ref C::us,kw⟩)) outer s H:=⟨by first | exact e.frames | (simpa [da.under,Code.envs,Code.isFrame,pushEnvs] using e.frames),e.mod,e.bs,e.nL,e.ly,e.pU,e.aR,e.bare⟩
section
variable {X:bp} {ak:List (ae×bo)} {ab:St} {H:au} {s aF:aI}
theorem Inv.vw(aa:Inv X ak ab H s):se X.prog X.w X.K X.mg X.base X.A X.stack s H :=
 ⟨aa.ok.frames,aa.ok.mod,aa.bs,ey aa.ok.nL aa.c0,aa.stack,aa.yU,aa.aR,aa.bare⟩
theorem Inv.after{Q:bx}{u:ao}(aa:Inv X ak ab H s)(h:CS X.stack X.prog X.w H s Q u aF):h4 X ak ab Q u aF:=by
 obtain⟨v,H',os,bare,un,aR,r,q⟩:=h
 obtain⟨fp,g,d,t,yB⟩:=aF
 obtain rfl:yB=s.os:=os
 exact⟨v,H',aa.call (h':=fp) (g':=g) (d':=d) (t':=t) (ch:=[]) un aR bare (fun b z=>absurd z (by simp)),r,q⟩
end
def Iv(sp:b5)(dvs:List V)(E:bP)(t:gw):TE:=fun ab H Q=>t ab H fun vs H1=>sp (vs++dvs) H1 Q E
def Cu(C:ae)(m:af)(sp:b5)(dvs:List V)(E:bP)(bS:TE)(t:gw):TE:=fun ab H Q=>bS ab H fun x H1=>∃ a al fs,x = .ref a/\H1 a=J (.ins C al fs)/\fs.lookup m=aw/\
 t ab H1 fun vs ax=>sp (x::(vs++dvs)) ax Q E
def PH(C:ae)(sp:b5)(dvs:List V)(E:bP)(t:gw):TE:=fun ab H Q=>t ab H fun vs H1=>∀ x al,H1 x=aw->H1 al=aw->al≠x->
 sp (.ref x::(vs++dvs)) (upd (upd H1 al (.own x)) x (.ins C al [])) (fun v ax=>v = .bL/\Q (.ref x) ax) E
def Binds(K:bO)(fd:fu)(ps:List af)(ds:List ao):Prop :=
 ∀ (s:aI) (us:List ao),K.In s.heap->(us++ds).length=ps.length->BindsTo s fd ⟨us,[]⟩ (ps.zip (us++ds))
theorem Binds.all{K:bO}{fd:fu}{ps:List af}(h:∀ us:List ao,us.length=ps.length->bindArgs fd ⟨us,[]⟩=pure (ps.zip us)):Binds K fd ps []:=fun s us _ aC=>by
 rw[List.append_nil] at aC ⊢
 exact .of_eq (h us aC)
def Passes(CX:k0)(X:bp)(E:bP):Prop:=∀ (ak:List (ae×bo)) (ab:St) (H:au) (s:aI) (e:ao) (aF:aI),Inv X ak ab H s->CX X.stack H s E e aF->X.xe e aF
section
variable {X:bp} {CX:k0} {k:Nat} {f C:ae} {fd:fu} {ps:List af} {sp:b5} {dvs:List V} {ds:List ao} {E:bP} {x m:af} {p aO apos:Pos} {e o:b2} {aV:List b2} {bS:TE} {t:gw}
theorem AP{ak:List (ae×bo)}{ab:St}{H:au}{s:aI}{Q:bx}{us:List ao}{vs:List V}(F:cg X.prog X.w X.K X.mg X.base CX k f fd ps sp)(az:e4 k X.A)(aq:Binds X.K fd ps ds)(hd:Vals dvs ds)(ay:Passes CX X E)
  (aa:Inv X ak ab H s) (r:Vals vs us) (h:sp (vs++dvs) H Q E):bE (model X.prog X.w) X.A (call (.ref f) us) (h4 X ak ab Q) X.xe s:=by
 have el:Vals (vs++dvs) (us++ds):=r.append hd
 have aC:(us++ds).length=ps.length:=by rw[<- el.length];exact F.len _ _ _ _ h
 refine pd (lP (F.run X.A X.stack s H ⟨us,[]⟩ (us++ds) (vs++dvs) Q E az aa.vw (aq s us aa.es aC) el h) fun r aF aU=>?_)
 cases r with
 | error e=>exact ay ak ab H s e aF aa aU
 | ok dq =>
  cases dq with
  | ret u=>exact aa.after aU
  | next=>exact False.elim aU
  | brk=>exact False.elim aU
  | cont=>exact False.elim aU
theorem RU(F:cg X.prog X.w X.K X.mg X.base CX k f fd ps sp)(az:e4 k X.A)(aK:h5 X x)(hm:X.mg x=J (.ref f))(hk:j9 X.K (.ref f)=ag)(aq:Binds X.K fd ps ds)(hd:Vals dvs ds)(ay:Passes CX X E)
  (ba:hx X (e::aV) t) (iI:(x == ("__debug__":af))=ah:=by decide) (he:df (e::aV) X.env=(ah,eval e X.env)::df aV X.env:=by rfl) (f6:(backTo aO (df aV X.env)).any (·.1)=ah:=by rfl) :
  bW X (.Call (.Name x p) (e::aV) [] aO) (Iv sp dvs E t):=by
 intro ak s ab H Q aa h
 refine qt (qR aa aK hm ?_ iI)
 refine wG (h₀:=X.base) aa.ok.mod.qi hk (cz (ba aO ak s ab H _ aa h) fun us s1 bD=>?_) he f6
 obtain⟨vs,H1,aS,r,q⟩:=bD
 refine ⟨aS.es,?_⟩
 exact AP F az aq hd ay aS r q
theorem RR{pl:Sem Bool}(he:bW X o bS)(c:fe X.K C)(hm:sr X.K C m f)(F:cg X.prog X.w X.K X.mg X.base CX k f fd ps sp)(az:e4 k X.A)(aq:Binds X.K fd ps ds)(hd:Vals dvs ds)(ay:Passes CX X E)(ba:hx X (e::aV) t)
  (j1:df (e::aV) X.env=(ah,eval e X.env)::df aV X.env:=by rfl) (f6:(backTo aO (df aV X.env)).any (·.1)=ah:=by rfl)
  (aW:eval (.Call (.Attribute o m apos) (e::aV) [] aO) X.env=(do
   let ov <- eval o X.env
   standAt apos.atName
   let (f,first) <- holding [ov] (getMethod ov m pl)
   callWith aO f first (backTo aO (df (e::aV) X.env)) (backToKw aO (qs [] X.env))):=by rfl) :
  bW X (.Call (.Attribute o m apos) (e::aV) [] aO) (Cu C m sp dvs E bS t):=by
 intro ak s ab H Q aa h
 refine y4 (pl:=pl) (cz (he ak s ab H _ aa h) fun u s1 bD=>?_) aW
 obtain⟨x,H1,aS,bf,a,al,fs,ex,c7,l,q⟩:=bD
 subst ex
 obtain rfl:u=ao.ref a:=bf
 refine xf aS c7 c hm l ?_
 refine wG (first:=[.ref a]) (h₀:=X.base) aa.ok.mod.qi hm.ij (cz (ba aO ak s1 ab H1 _ aS q) fun us s2 bD=>?_) j1 f6
 obtain⟨vs,ax,bA,r,cE⟩:=bD
 refine ⟨bA.es,?_⟩
 exact AP (us := .ref a::us) (vs := .ref a::vs) F az aq hd ay bA (.cons I r) cE
theorem XQ{pl:Sem Bool}(he:bW X o bS)(c:fe X.K C)(hm:sr X.K C m f)(F:cg X.prog X.w X.K X.mg X.base CX k f fd ps sp)(az:e4 k X.A)(aq:Binds X.K fd ps ds)(hd:Vals dvs ds)(ay:Passes CX X E)
  (aW:eval (.Call (.Attribute o m apos) [] [] aO) X.env=(do
   let ov <- eval o X.env
   standAt apos.atName
   let (f,first) <- holding [ov] (getMethod ov m pl)
   callWith aO f first (backTo aO (df [] X.env)) (backToKw aO (qs [] X.env))):=by rfl) :
  bW X (.Call (.Attribute o m apos) [] [] aO) (Cu C m sp dvs E bS Cv):=by
 intro ak s ab H Q aa h
 refine y4 (pl:=pl) (cz (he ak s ab H _ aa h) fun u s1 bD=>?_) aW
 obtain⟨x,H1,aS,bf,a,al,fs,ex,c7,l,q⟩:=bD
 subst ex
 obtain rfl:u=ao.ref a:=bf
 refine xf aS c7 c hm l ?_
 exact PySem.W.callWith_K0 (first:=[.ref a]) aS.es hm.ij (AP (us:=[.ref a]) (vs:=[.ref a]) F az aq hd ay aS (.cons I .nil) q)
structure Dg(K:bO)(C f:ae):Prop where
 makes:y3 K C=ag
 init:dS K (.ref C) "__init__"=J (J (.ref f))
 fn:I0 K (.ref f)=ag
 ij:j9 K (.ref C)=ag
theorem XH{ak:List (ae×bo)}{ab:St}{H:au}{s:aI}{Q:bx}{us:List ao}{vs:List V}(M:Dg X.K C f)(F:cg X.prog X.w X.K X.mg X.base CX k f fd ps sp)(az:e4 (k+1) X.A)(aq:Binds X.K fd ps ds)(hd:Vals dvs ds)
  (ay:Passes CX X E) (aa:Inv X ak ab H s) (r:Vals vs us)
  (h:∀ x al,H x=aw->H al=aw->al≠x->sp (.ref x::(vs++dvs)) (upd (upd H al (.own x)) x (.ins C al [])) (fun v ax=>v = .bL/\Q (.ref x) ax) E) :
  bE (model X.prog X.w) X.A (call (.ref C) us) (h4 X ak ab Q) X.xe s:=by
 have aU:=h (s.heap.objs.size+1) s.heap.objs.size (aa.aR.fresh (Nat.le_succ _)) (aa.aR.fresh (cx _)) (fj (Nat.lt_succ_self _))
 have bA:=Inv.made (C:=C) aa
 have el:Vals (V.ref (s.heap.objs.size+1)::(vs++dvs)) (ao.ref (s.heap.objs.size+1)::(us++ds)) := .cons rfl (r.append hd)
 have aC:(ao.ref (s.heap.objs.size+1)::us++ds).length=ps.length:=by
  have e:=el.length
  rw[F.len _ _ _ _ aU] at e
  exact e.symm
 refine pd (X2 (f:=f) aa.es M.makes M.init (beq_iff_eq.mp M.fn) (lP (F.run _ X.stack _ _ ⟨ao.ref (s.heap.objs.size+1)::us,[]⟩ (ao.ref (s.heap.objs.size+1)::(us++ds)) _ _ E (az.make C us [])
  (bA.vw.make C us []) (aq _ (ao.ref (s.heap.objs.size+1)::us) bA.es aC) el aU) fun r aF n3=>?_))
 cases r with
 | error e=>exact ay ak ab _ _ e aF bA n3
 | ok dq =>
  cases dq with
  | ret u =>
   obtain⟨v,H',iq,dH,ev,fL⟩:=bA.after n3
   subst ev
   exact⟨dH,⟨V.ref (s.heap.objs.size+1),H',iq,I,fL⟩⟩
  | next=>exact False.elim n3
  | brk=>exact False.elim n3
  | cont=>exact False.elim n3
theorem RS(M:Dg X.K C f)(F:cg X.prog X.w X.K X.mg X.base CX k f fd ps sp)(az:e4 (k+1) X.A)(aK:h5 X x)(hm:X.mg x=J (.ref C))(aq:Binds X.K fd ps ds)(hd:Vals dvs ds)(ay:Passes CX X E)
  (ba:hx X (e::aV) t) (iI:(x == ("__debug__":af))=ah:=by decide) (he:df (e::aV) X.env=(ah,eval e X.env)::df aV X.env:=by rfl) (f6:(backTo aO (df aV X.env)).any (·.1)=ah:=by rfl) :
  bW X (.Call (.Name x p) (e::aV) [] aO) (PH C sp dvs E t):=by
 intro ak s ab H Q aa h
 refine qt (qR aa aK hm ?_ iI)
 refine wG (h₀:=X.base) aa.ok.mod.qi M.ij (cz (ba aO ak s ab H _ aa h) fun us s1 bD=>?_) he f6
 obtain⟨vs,H1,aS,r,q⟩:=bD
 refine ⟨aS.es,?_⟩
 exact XH M F az aq hd ay aS r q
end
structure bZ(N P:List af)(sc:Scope):Prop where
 kind:sc.kind = .function
 co:sc.isCoroutine=ah
 gen:sc.isGenerator=ah
 br:N.Nodup
 pre:N.take P.length=P
 par:∀ x∈P,sc.names.lookup x=J .local\/sc.names.lookup x=J .cell
 HI:∀ y∈sc.names,y.2≠.free
theorem cc{N P:List af}{sc:Scope}(kind:sc.kind = .function:=by first|rfl|decide +kernel)(co:sc.isCoroutine=ah:=by first|rfl|decide +kernel)(gen:sc.isGenerator=ah:=by first|rfl|decide +kernel)(br:N.Nodup:=by first|rfl|decide +kernel)(pre:N.take P.length=P:=by first|rfl|decide +kernel)(par:∀ x∈P,sc.names.lookup x=J .local\/sc.names.lookup x=J .cell:=by first|rfl|decide +kernel)(HI:∀ y∈sc.names,y.2≠.free:=by first|rfl|decide +kernel):bZ N P sc:=⟨kind,co,gen,br,pre,par,HI⟩
theorem K3{kindOf:af->Option jo}{x:af}:∀ {binds:List (af×ao)} {m:af->Option ao},(∀ v,(x,v)∉binds)->bindL kindOf binds m x=m x
 | [],_,_=>rfl
 | (n,v)::r,m,h=>by
  unfold bindL
  rw[K3 fun w hw=>h w (fk _ hw)]
  split
  ·have:x≠n:=by rintro rfl;exact h v hz
   simp[this]
  ·rfl
theorem K5{kindOf:af->Option jo}{x:af}:∀ {binds:List (af×ao)} {m:af->Option ao},(∀ v,(x,v)∉binds)->bindC kindOf binds m x=m x
 | [],_,_=>rfl
 | (n,v)::r,m,h=>by
  unfold bindC
  rw[K5 fun w hw=>h w (fk _ hw)]
  split
  ·rfl
  ·have:x≠n:=by rintro rfl;exact h v hz
   simp[this]
theorem K4{kindOf:af->Option jo}{x:af}{v:ao}:∀ {P:List af} {vs:List ao} {i:Nat} {m:af->Option ao},P.Nodup->P[i]?=J x->vs[i]?=J v->kindOf x=J .local->
  bindL kindOf (P.zip vs) m x=J v
 | [],_,_,_,_,h,_,_=>by simp at h
 | _::_,[],_,_,_,_,h,_=>by simp at h
 | p::P,w::vs,0,m,br,aj,ar,hk=>by
  simp at aj ar;subst aj;subst ar
  show bindL kindOf ((p,w)::P.zip vs) m p=_
  unfold bindL
  rw[K3 fun v bl=>(List.nodup_cons.mp br).1 (List.of_mem_zip bl).1,if_pos hk]
  simp
 | p::P,w::vs,i+1,m,br,aj,ar,hk=>by
  show bindL kindOf ((p,w)::P.zip vs) m x=_
  unfold bindL
  exact K4 (i:=i) (List.nodup_cons.mp br).2 (by simpa using aj) (by simpa using ar) hk
theorem K6{kindOf:af->Option jo}{x:af}{v:ao}:∀ {P:List af} {vs:List ao} {i:Nat} {m:af->Option ao},P.Nodup->P[i]?=J x->vs[i]?=J v->kindOf x≠J .local->
  bindC kindOf (P.zip vs) m x=J v
 | [],_,_,_,_,h,_,_=>by simp at h
 | _::_,[],_,_,_,_,h,_=>by simp at h
 | p::P,w::vs,0,m,br,aj,ar,hk=>by
  simp at aj ar;subst aj;subst ar
  show bindC kindOf ((p,w)::P.zip vs) m p=_
  unfold bindC
  rw[K5 fun v bl=>(List.nodup_cons.mp br).1 (List.of_mem_zip bl).1,if_neg hk]
  simp
 | p::P,w::vs,i+1,m,br,aj,ar,hk=>by
  show bindC kindOf ((p,w)::P.zip vs) m x=_
  unfold bindC
  exact K6 (i:=i) (List.nodup_cons.mp br).2 (by simpa using aj) (by simpa using ar) hk
noncomputable def start(N:List af)(vs:List V):St:=vs.map J++List.replicate (N.length - vs.length) aw
noncomputable def jV(CX:k0)(P:cX)(w:cu)(K:bO)(mg:af->Option ao)(base:aX)(N:List af)(dy:af)(cI:Scope)(f:ae)(c4:ao)(A:da)(outer:List Env)(s:aI)(H:au)(E:bP):bp where
 prog:=P
 w:=w
 K:=K
 mg:=mg
 base:=base
 A:=A.deeper (envOfC dy cI s.heap.objs.size f c4)
 N:=N
 de:=s
 g4:=H
 env:=envOfC dy cI s.heap.objs.size f c4
 outer:=outer
 stack:=envOfC dy cI s.heap.objs.size f c4::outer
 ex:=[]
 calm:=ag
 fn:=fun _=>ag
 pn:=[]
 xe:=fun e aF=>bE (model P w) (A.deeper (envOfC dy cI s.heap.objs.size f c4)) (leaving (envOfC dy cI s.heap.objs.size f c4) e) (fun _ oe=>CX outer H s E e oe) (fun e' oe=>CX outer H s E e' oe) aF
theorem Ls{sc:Scope}{n:Nat}{x:af}(h:sc.names.lookup x=J .cell):∃ c,(cellsFrom n sc.names []).lookup x=J c:=by
 have q:=PySem.W.cellsFrom_some sc.names n [] (.inl h)
 exact Option.isSome_iff_exists.mp q
theorem WZ{CX:k0}{P:cX}{w:cu}{K:bO}{mg:af->Option ao}{base:aX}{N ps:List af}{dy:af}{cI:Scope}{f:ae}{c4:ao}{A:da}{outer:List Env}{s s1:aI}{H:au}{E:bP}{us:List ao}{vs:List V}
  (S:bZ N ps cI) (hd:A.handled=aw) (eL:se P w K mg base A outer s H) (aC:vs.length=ps.length) (r:Vals vs us)
  (x:InCallC s s.heap.objs.size (bindL (envOfC dy cI s.heap.objs.size f c4).kindOf (ps.zip us) fun _=>aw) (cellsFrom (s.heap.objs.size+1) cI.names []) (bindC (envOfC dy cI s.heap.objs.size f c4).kindOf (ps.zip us) fun _=>aw) s1) :
  Inv (jV CX P w K mg base N dy cI f c4 A outer s H E) [] (start N vs) H s1:=by
 have f6:ps.length<=N.length:=by have:=congrArg List.length S.pre;rw[kg] at this;omega
 obtain⟨aj,cf,rfl,hk⟩:=x.done
 have yw:∀ b:ae,b∉(jV CX P w K mg base N dy cI f c4 A outer s H E).ex:=fun b z=>absurd (show b∈([]:List ae) from z) (by simp)
 refine⟨⟨eL.mod,S.kind,I,I,cx _,fun y z c aj ar=>?_,fun y bM=>?_,fun y c _ h=>?_,fun _=>hd,da.frames_deeper eL.frames,.inr ⟨I,I⟩,fun b z=>absurd z (yw b),eL.bs,eL.nL,fun b _ _=>yw b,fun b z=>absurd z (yw b),eL.ly,eL.pU⟩,
  rfl,eL.bare,fB.kept hk,⟨_,x.toInCall.ns,fun i y v aj ar bB=>?_⟩,fun y c h=>⟨_,x.cell y c h⟩,eL.aR.fresh (cx _),fun y c h=>?_,fun p bh=>absurd (show p∈([]:List (ae×bo)) from bh) (by simp),eL.aR.kept hk,?_⟩
 ·exact name_of_addr x.apart (PySem.mem_of_lookup aj) (PySem.mem_of_lookup ar)
 ·have bM:cI.names.lookup y=J .cell\/cI.names.lookup y=J .free:=bM
  rcases bM with bM | bM
  ·exact Ls bM
  ·exact absurd I (S.HI _ (PySem.mem_of_lookup bM))
 ·exact Nat.le_of_lt (x.above y c (PySem.mem_of_lookup h))
 ·have aB:i<vs.length:=by
   unfold start at ar
   by_cases aB:i<vs.length
   ·exact aB
   ·rw[List.getElem?_append_right (by simpa using aB)] at ar
    rw[List.getElem?_replicate] at ar
    split at ar<;>cases ar
  have ba:vs[i]?=J v:=by
   unfold start at ar
   rw[List.getElem?_append_left (by simpa using aB),fT] at ar
   cases e:vs[i]? with
   | none=>rw[e] at ar;cases ar
   | some a=>rw[e] at ar;cases ar;rfl
  obtain⟨u,dN,dH⟩:=r.get ba
  have bh:ps[i]?=J y:=by
   rw[<- S.pre,List.getElem?_take_of_lt (by omega)];exact aj
  have NW:ps.Nodup:=by rw[<- S.pre];exact S.br.sublist (List.take_sublist _ _)
  refine⟨u,dH,?_⟩
  rcases S.par y (jy bh) with k | k
  ·exact .inl ⟨k,K4 NW bh dN k⟩
  ·obtain⟨c,e⟩:=Ls (n:=s.heap.objs.size+1) k
   refine .inr ⟨.inl k,c,e,?_⟩
   have q:=x.cell y c e
   rw[K6 NW bh dN (by show cI.names.lookup y≠_;rw[k];decide)] at q
   exact q
 ·exact eL.aR.fresh (Nat.le_of_lt (x.above y c (PySem.mem_of_lookup h)))
 ·unfold start
  show _=N.length
  rw[dI,cM,List.length_replicate]
  omega
theorem JK{CX:k0}{P:cX}{w:cu}{K:bO}{mg:af->Option ao}{base:aX}{k:Nat}{f:ae}{name dy:af}{params:Arguments}{body:List bj}{cI:Scope}{A6 gr doc pm bb ct ik:ao}{an od:Option ae}
  {mi:Array (Option ao)} {N ps:List af} {sp:b5} (oW:K.lookup f=J ⟨ik,od,.func (lO name dy params body cI A6 gr doc pm an bb ct),mi⟩) (j0:ug K bb dy=ag) (S:bZ N ps cI)
  (len:∀ vs H Q E,sp vs H Q E->vs.length=ps.length)
  (jj:∀ (A:da) (outer:List Env) (s:aI) (H:au) (vs:List V) (Q:bx) (E:bP),e4 k (A.deeper (envOfC dy cI s.heap.objs.size f bb))->sp vs H Q E->
   ∃ t,hj (jV CX P w K mg base N dy cI f bb A outer s H E) body t/\t {nx:=fun _ H'=>Q .bL H',rt:=Q} (start N vs) H) :
  cg P w K mg base CX (k+1) f (lO name dy params body cI A6 gr doc pm an bb ct) ps sp:=by
 refine⟨len,fun A outer s H args us vs Q E az eL aq r n5=>?_⟩
 have aC:=len _ _ _ _ n5
 have KX:K.In s.heap:=eL.mod.qi.keeps fun b o e=>(eL.bs b o e).1
 have lim:s.heap.NoLimit:=eL.mod.nolimit.keeps fun b o e=>(eL.bs b o e).1
 have abe:∀ y∈ps.zip us,cI.names.lookup y.1=J .local\/(cI.names.lookup y.1=J .cell/\((cellsFrom (s.heap.objs.size+1) cI.names []).lookup y.1).isSome=ag):=fun⟨n,v⟩ bM=>by
  rcases S.par n (List.of_mem_zip bM).1 with q | q
  ·exact .inl q
  ·exact .inr ⟨q,PySem.W.cellsFrom_some _ _ _ (.inl q)⟩
 refine codeAny_call_function az.depth (KX _ _ oW) I S.co S.gen I (PySem.W.codeRec_of KX j0) (aq _ _ _ _ ?_)
 refine wpAny_newFunctionEnv_cells S.kind abe fun env he s1 x=>?_
 subst he
 refine⟨lim.keeps x.toInCall.keep,codeAny_func ?_⟩
 obtain⟨t,aW,aU⟩:=jj A outer s H vs Q E (az.deeper _) n5
 have aa:Inv (jV CX P w K mg base N dy cI f bb A outer s H E) [] (start N vs) H s1:=WZ S az.hd eL aC r x
 refine ja (aW [] s1 (start N vs) H _ aa aU) (fun dq aF hs=>?_) fun e aF hs=>hs
 have cF:∀ {bQ:St} {H':au} {v:V} {u:ao},Inv (jV CX P w K mg base N dy cI f bb A outer s H E) [] bQ H' aF->RelV v u->Q v H'->CS outer P w H s Q u aF :=
  fun {bQ H' v u} dD dH q=>⟨v,H',dD.os,dD.bare,dD.base,dD.aR,dH,q⟩
 cases dq with
 | ret u =>
  obtain⟨v,bQ,H',dD,dH,q⟩:=hs
  exact cF dD dH q
 | next =>
  obtain⟨bQ,H',dD,q⟩:=hs
  exact cF (v:=V.bL) (u:=ao.none) dD I q
 | brk =>
  obtain⟨_,_,_,q⟩:=hs
  exact False.elim q
 | cont =>
  obtain⟨_,_,_,q⟩:=hs
  exact False.elim q
section
variable {X:bp} {x:af} {p aO:Pos} {e:b2} {aV:List b2} {t:gw} {id T:String} {r:List V->au->bx->Prop}
def PF(r:List V->au->bx->Prop)(t:gw):TE:=fun ab H Q=>t ab H fun vs H1=>r vs H1 Q
theorem cj(hc:js X (.builtin id) r)(aK:h5 X x)(hm:X.mg x=aw)(bl:jJ x=J (.builtin id))(ba:hx X (e::aV) t)(bc:x≠"__name__":=by decide)(iI:(x == ("__debug__":af))=ah:=by decide)
  (he:df (e::aV) X.env=(ah,eval e X.env)::df aV X.env:=by rfl) (f6:(backTo aO (df aV X.env)).any (·.1)=ah:=by rfl):bW X (.Call (.Name x p) (e::aV) [] aO) (PF r t):=by
 intro ak s ab H Q aa h
 refine qt (oF aa aK hm bl ?_ bc iI)
 refine PyProof.Rows.callWith_builtin1 (cz (ba aO ak s ab H _ aa h) fun us s1 bD=>?_) he f6
 obtain⟨vs,H1,aS,cp,cD⟩:=bD
 exact hc ak s1 ab H1 vs us Q aS cp cD
theorem u6(hc:js X (.type T) r)(aK:h5 X x)(hm:X.mg x=aw)(bl:jJ x=J (.type T))(ba:hx X (e::aV) t)(bc:x≠"__name__":=by decide)(iI:(x == ("__debug__":af))=ah:=by decide)
  (he:df (e::aV) X.env=(ah,eval e X.env)::df aV X.env:=by rfl) (f6:(backTo aO (df aV X.env)).any (·.1)=ah:=by rfl):bW X (.Call (.Name x p) (e::aV) [] aO) (PF r t):=by
 intro ak s ab H Q aa h
 refine qt (oF aa aK hm bl ?_ bc iI)
 refine PyProof.Rows.callWith_type1 (cz (ba aO ak s ab H _ aa h) fun us s1 bD=>?_) he f6
 obtain⟨vs,H1,aS,cp,cD⟩:=bD
 exact hc ak s1 ab H1 vs us Q aS cp cD
end
end dg
namespace eN
open PySem PyProof.Rows
section
open PySem.SeqAt
open PySem.AutoSeq1 (wpAny_loadPart')
open PySem.MeetsSeq PySem.MeetsSeq2 PySem.MeetsSeq3
end
section
variable {prog:cX} {w:cu} {A:da} {E:ao->aI->Prop} {s:aI}
noncomputable def gk(n d:Nat):Option Int->Nat
 | none=>d
 | some v=>if v<0 then (v+(n:Int)).toNat else min v.toNat n
theorem yK(n d:Nat):gk n d aw=d:=rfl
theorem yJ(n d k:Nat):gk n d (J (k:Int))=min k n:=by
 show (if (k:Int)<0 then ((k:Int)+(n:Int)).toNat else min (k:Int).toNat n)=min k n
 rw[if_neg (by omega),Int.toNat_natCast]
theorem Od(n d:Nat)(hd:d<=n)(o:Option Int):gk n d o<=n:=by
 cases o with
 | none=>exact hd
 | some v =>
  show (if v<0 then (v+(n:Int)).toNat else min v.toNat n)<=n
  by_cases bl:v<0
  ·rw[if_pos bl];omega
  ·rw[if_neg bl];exact Nat.min_le_right _ _
end
end eN
namespace dg
open PySem PySem.Spec PyProof.Rows
noncomputable abbrev dz:=St->au->(Option Int->au->Prop)->Prop
def w4(X:bp)(e:Option b2)(t:dz):Prop :=
 ∀ (ak:List (ae×bo)) (s:aI) (ab:St) (H:au) (Q:Option Int->au->Prop),Inv X ak ab H s->t ab H Q->
  bE (model X.prog X.w) X.A (evalPart e X.env) (fun u aF=>∃ o H',Inv X ak ab H' aF/\IsPart u o/\Q o H') X.xe s
noncomputable def agV:dz:=fun _ H Q=>Q aw H
noncomputable def agZ(t:TE):dz:=fun ab H Q=>t ab H fun x H1=>∃ i,x = .int i/\Q (J i) H1
section
variable {X:bp} {e:b2} {cn:TE} {lo aB:Option b2} {dr o6:dz} {aO hv:Pos}
theorem qP:w4 X aw agV:=by
 intro ak s ab H Q aa h
 rw[evalPart_none]
 exact dv ⟨aw,H,aa,.none,h⟩
theorem qO(h:bW X e cn):w4 X (J e) (agZ cn):=by
 intro ak s ab H Q aa hw
 rw[evalPart_some]
 refine cz (h ak s ab H _ aa hw) fun u s1 bD=>?_
 obtain⟨x,H1,aS,cp,cD⟩:=bD
 obtain⟨i,rfl,q⟩:=cD
 obtain⟨t,rfl⟩:=cp
 exact⟨J i,H1,aS,.int i t,q⟩
def qK(X:bp)(r:V->Option Int->Option Int->au->bx->Prop):Prop :=
 ∀ (ak:List (ae×bo)) (s:aI) (ab:St) (H:au) (x:V) (v m8 m9:ao) (lo aB:Option Int) (c8:ae) (Q:bx),Inv X ak ab H s->RelV x v->s.heap.IsSliceOf c8 m8 m9 .none->IsPart m8 lo->IsPart m9 aB->r x lo aB H Q->
  ∃ T id,typeLookup (.type T) "__getitem__"=pure (J (.builtin id))/\s.TypeIs v T/\bE (model X.prog X.w) X.A (getItem v (.ref c8)) (h4 X ak ab Q) X.xe s
theorem qK.or{r e2:V->Option Int->Option Int->au->bx->Prop}(h:qK X r)(h':qK X e2):qK X (fun x lo aB H Q=>r x lo aB H Q\/e2 x lo aB H Q):=by
 intro ak s ab H x v m8 m9 lo aB c8 Q aa bf hs pl pu q
 rcases q with q | q
 ·exact h ak s ab H x v m8 m9 lo aB c8 Q aa bf hs pl pu q
 ·exact h' ak s ab H x v m8 m9 lo aB c8 Q aa bf hs pl pu q
def ag2(r:V->Option Int->Option Int->au->bx->Prop)(cn:TE)(dr o6:dz):TE:=fun ab H Q=>cn ab H fun x H1=>dr ab H1 fun l ax=>o6 ab ax fun u bt=>r x l u bt Q
theorem qI{r:V->Option Int->Option Int->au->bx->Prop}(az:qK X r)(he:bW X e cn)(aC:w4 X lo dr)(dN:w4 X aB o6):bW X (.Subscript e (.Slice lo aB aw hv) aO) (ag2 r cn dr o6):=by
 intro ak s ab H Q aa h
 refine Subscript_ (cz (he ak s ab H _ aa h) fun v s1 bD=>?_)
 obtain⟨x,H1,aS,cp,cD⟩:=bD
 refine wpAny_Slice (cz (aC ak s1 ab H1 _ aS cD) fun m8 s2 ⟨l,ax,bA,pl,cE⟩=>cz (dN ak s2 ab ax _ bA cE) fun m9 hL bD=>?_)
 obtain⟨u,bt,iq,pu,fL⟩:=bD
 rw[evalPart_none]
 refine dv ?_
 have ow:Inv X ak ab bt {hL with heap:=hL.heap.push {cls := .type "slice",data := .fields #[m8,m9,.none]}}:=iq.kept (t':=hL.toks) fun b dC q=>d7 _ q
 obtain⟨T,id,b9,aW,aK⟩:=az ak {hL with heap:=hL.heap.push {cls := .type "slice",data := .fields #[m8,m9,.none]}} ab bt x v m8 m9 l u hL.heap.objs.size Q ow cp (aX.IsSliceOf.new ..) pl pu fL
 show bE (model X.prog X.w) X.A (subscriptTail e (.Slice lo aB aw hv) v (.ref hL.heap.objs.size)) (h4 X ak ab Q) X.xe {hL with heap:=hL.heap.push {cls := .type "slice",data := .fields #[m8,m9,.none]}}
 exact tail_any (ops:=[.ref hL.heap.objs.size,v]) aW b9 aK (by with_unfolding_all rfl)
noncomputable def qX(xs:List V)(lo aB:Option Int):List V:=(xs.drop (eN.gk xs.length 0 lo)).take (eN.gk xs.length xs.length aB - eN.gk xs.length 0 lo)
theorem VV(xs:List V)(lo aB:Option Int):(qX xs lo aB).length<=xs.length:=by
 unfold qX
 rw[kg,nF]
 omega
end
noncomputable def rp(n:Nat)(i:Int):Option Nat:=if 0<=i then (if i<n then J i.toNat else aw) else if -(n:Int)<=i then J (i+n).toNat else aw
noncomputable def eH{α:Type}(xs:List α)(i:Int):Option α:=(rp xs.length i).bind fun j=>xs[j]?
theorem Sa{n:Nat}{i:Int}{j:Nat}(h:rp n i=J j):seqIndex? i n=J j/\j<n/\-(n:Int)<=i/\i<n:=by
 unfold rp at h
 by_cases bu:0<=i
 ·rw[if_pos bu] at h
  by_cases aj:i<n
  ·rw[if_pos aj] at h
   have e:i.toNat=j:=gN h
   exact⟨by rw[seqIndex_of bu aj,e],by omega,by omega,aj⟩
  ·rw[if_neg aj] at h;cases h
 ·rw[if_neg bu] at h
  by_cases aj : -(n:Int)<=i
  ·rw[if_pos aj] at h
   have e:(i+n).toNat=j:=gN h
   exact⟨by rw[seqIndex_neg (by omega) aj,e],by omega,aj,by omega⟩
  ·rw[if_neg aj] at h;cases h
theorem AN{α:Type}{xs:List α}{i:Int}{v:α}(h:eH xs i=J v):∃ j,seqIndex? i xs.length=J j/\xs[j]?=J v/\j<xs.length/\-(xs.length:Int)<=i/\i<xs.length:=by
 unfold eH at h
 cases e:rp xs.length i with
 | none=>rw[e] at h;cases h
 | some j =>
  rw[e] at h
  obtain⟨aj,ar,bB,b0⟩:=Sa e
  exact⟨j,aj,h,ar,bB,b0⟩
theorem dt{α:Type}{xs:List α}{j:Nat}{v:α}(h:xs[j]?=J v):eH xs (j:Int)=J v:=by
 have cy:j<xs.length:=(kE.mp h).1
 have e:rp xs.length (j:Int)=J j:=by
  unfold rp
  rw[if_pos (by omega),if_pos (by omega)];simp
 unfold eH;rw[e];exact h
theorem Rw{α:Type}(xs:List α)(v:α):eH (xs++[v]) (-1)=J v:=by
 have aC:(xs++[v]).length=xs.length+1:=by simp
 have e:rp (xs++[v]).length (-1)=J xs.length:=by
  unfold rp
  rw[aC,if_neg (by decide),if_pos (by omega)]
  congr 1
  omega
 unfold eH
 rw[e]
 show (xs++[v])[xs.length]?=J v
 simp
def Jk(b:b2):Prop:=∀ o i,subscripted b ah o i=operate [o,i] (getItem o i)
def nu(X:bp)(r:h6):Prop :=
 ∀ (value slice:b2) (ak:List (ae×bo)) (s:aI) (ab:St) (H:au) (x y:V) (v u:ao) (Q:bx),Inv X ak ab H s->RelV x v->RelV y u->r x y H Q->
  subscripted slice ah v u=operate [v,u] (getItem v u)->bE (model X.prog X.w) X.A (subscriptTail value slice v u) (h4 X ak ab Q) X.xe s
def su(X:bp)(id:String)(r:V->List V->au->bx->Prop):Prop :=
 ∀ (ak:List (ae×bo)) (s:aI) (ab:St) (H:au) (x:V) (xs:List V) (v:ao) (us:List ao) (Q:bx),Inv X ak ab H s->RelV x v->Vals xs us->r x xs H Q->
  bE (model X.prog X.w) X.A (call (.builtin id) (v::us)) (h4 X ak ab Q) X.xe s
section
variable {X:bp} {a b:b2} {bS c9:TE} {aO:Pos}
theorem nu.or{r e2:h6}(h:nu X r)(h':nu X e2):nu X (fun x y H Q=>r x y H Q\/e2 x y H Q):=by
 intro value slice ak s ab H x y v u Q aa bf cd q hs
 rcases q with q | q
 ·exact h value slice ak s ab H x y v u Q aa bf cd q hs
 ·exact h' value slice ak s ab H x y v u Q aa bf cd q hs
theorem Tb{r:h6}(az:nu X r)(ba:bW X a bS)(aq:bW X b c9)(hs:Jk b):bW X (.Subscript a b aO) (o5 r bS c9):=by
 intro ak s ab H Q aa h
 exact Subscript_ (FN ba aq aa h fun v u s2 x y ax bA bf cd q=>az a b ak s2 ab ax x y v u Q bA bf cd q (hs _ _))
def HV(K:bO):h6:=fun x y H Q=>∃ p xs i v,x = .ref p/\y = .int i/\dQ K H p xs/\eH xs i=J v/\Q v H
def HX(K:bO):h6:=fun x y H Q=>∃ p xs i v,x = .ref p/\y = .int i/\jc K H p xs/\eH xs i=J v/\Q v H
def HW:h6:=fun x y H Q=>∃ z i c,x = .str z/\y = .int i/\z.length<=bT/\eH z.cps.toList i=J c/\Q (.str ⟨#[c]⟩) H
theorem R9:nu X (HV X.K):=by
 intro value slice ak s ab H x y v u Q aa bf cd h hs
 obtain⟨p,xs,i,z,rfl,rfl,aU,he,q⟩:=h
 cases bf
 obtain⟨t,rfl⟩:=cd
 obtain⟨bq,r,pl,bI⟩:=aa.list aU
 obtain⟨j,aj,ar,bB,b0,eB⟩:=AN he
 obtain⟨w,oK,yI⟩:=r.get ar
 have aC:=r.length
 have bc:=v3
 have cF:h4 X ak ab Q w s:=⟨z,H,aa,yI,q⟩
 by_cases bu:0<=i
 ·have cy:i.toNat=j:=by
   rw[seqIndex_of bu eB] at aj
   exact gN aj
  exact item_listR pl.isList bu (by omega) (by rw[cy];simpa using oK) cF hs
 ·have cy:(i+(bq.toArray.size:Int)).toNat=j:=by
   rw[seqIndex_neg (by omega) b0] at aj
   rw[fY,<- aC]
   exact gN aj
  exact subscriptTail_builtinR (x:=w) pl.isList.typeIs slot_list_getitem.lookup
   (wpAny_getItem_list_neg (Q:=fun r aF=>r=w/\h4 X ak ab Q r aF) pl.isList (by omega) (by rw[fY]<;>omega) (by omega) (by rw[cy];simpa using oK) ⟨rfl,cF⟩) hs
theorem SX:nu X (HX X.K):=by
 intro value slice ak s ab H x y v u Q aa bf cd h hs
 obtain⟨p,xs,i,z,rfl,rfl,aU,he,q⟩:=h
 cases bf
 obtain⟨t,rfl⟩:=cd
 obtain⟨bq,r,pl,bI⟩:=aa.tuple aU
 obtain⟨j,aj,ar,bB,b0,eB⟩:=AN he
 obtain⟨w,oK,yI⟩:=r.get ar
 have aC:=r.length
 have bc:=v3
 have cF:h4 X ak ab Q w s:=⟨z,H,aa,yI,q⟩
 exact subscriptTail_builtinR (x:=w) pl.typeIs slot_tuple_getitem.lookup
  (getItem_tuple (j:=j) (Q:=fun r aF=>r=w/\h4 X ak ab Q r aF) pl (by omega) (by omega) (by rw[fY,<- aC];exact aj) (by simpa using oK) ⟨rfl,cF⟩) hs
theorem SY:nu X HW:=by
 intro value slice ak s ab H x y v u Q aa bf cd h hs
 obtain⟨z,i,c,rfl,rfl,bI,he,q⟩:=h
 obtain⟨t,rfl⟩:=bf
 obtain⟨t',rfl⟩:=cd
 obtain⟨j,aj,ar,bB,b0,eB⟩:=AN he
 have aC:z.cps.toList.length=z.length:=by simp[af.length]
 rw[aC] at aj b0 eB
 have bc:=v3
 exact tail_any (typeIs_str s z t) slot_str_getitem.lookup (getItem_str (c:=c) (by
  have aG:decide (i < -(2 ^ 63:Int))=ah:=gM (by omega)
  have aL:decide (i>=2 ^ 63)=ah:=gM (by omega)
  rw[aG,aL,Bool.or_false]) (by rw[aj];simpa using ar) ⟨.str ⟨#[c]⟩,H,aa.tok _,⟨_,rfl⟩,q⟩) hs
theorem UW(lo aB:Option Int)(n:Nat):(sliceBounds lo aB aw n).1=((eN.gk n 0 lo:Nat):Int)/\(sliceBounds lo aB aw n).2.1=((eN.gk n n aB:Nat):Int)/\(sliceBounds lo aB aw n).2.2=1:=by
 refine⟨?_,?_,I⟩
 ·cases lo with
  | none=>simp[sliceBounds,eN.gk]
  | some i =>
   simp only[sliceBounds,eN.gk,Option.getD_none,show (1:Int) > 0 by decide,if_true]
   by_cases h:i<0
   ·simp only[h,if_true]<;>omega
   ·simp only[h,if_false]<;>omega
 ·cases aB with
  | none=>simp[sliceBounds,eN.gk]
  | some i =>
   simp only[sliceBounds,eN.gk,Option.getD_none,show (1:Int) > 0 by decide,if_true]
   by_cases h:i<0
   ·simp only[h,if_true]<;>omega
   ·simp only[h,if_false]<;>omega
theorem Ur(bq:List ao)(lo aB:Option Int):slicePick bq.toArray lo aB aw=((bq.drop (eN.gk bq.length 0 lo)).take (eN.gk bq.length bq.length aB - eN.gk bq.length 0 lo)).toArray:=by
 obtain⟨aj,ar,bB⟩:=UW lo aB bq.toArray.size
 unfold slicePick
 rw[aj,ar,bB]
 simp only[sliceRange_one,pick_run,fY]<;>rfl
noncomputable def agk(K:bO):V->Option Int->Option Int->au->bx->Prop:=fun x lo aB H Q=>∃ a xs,x = .ref a/\dQ K H a xs/\∀ p,H p=aw->Q (.ref p) (upd H p (.lst (qX xs lo aB)))
theorem RI:qK X (agk X.K):=by
 intro ak s ab H x v m8 m9 lo aB c8 Q aa bf hs pl pu h
 obtain⟨a,xs,rfl,ay,q⟩:=h
 cases bf
 obtain⟨bq,r,aW,bI⟩:=aa.list ay
 have cG:=r.length
 refine⟨"list",_,slot_list_getitem.lookup,aW.isList.typeIs,?_⟩
 refine wpAny_getItem_list_slice aW.isList hs pl pu .none (by simp) ?_ (by rw[fY]<;>omega)
 rw[Ur,<- cG]
 refine⟨.ref s.heap.objs.size,_,aa.laid (t':=s.toks) (o := .lst (qX xs lo aB)) (fun b dC q=>d7 _ q) (cx _) ?_,I,q _ (aa.aR.fresh (cx _))⟩
 exact⟨ey (VV xs lo aB) bI,_,0,(r.drop (eN.gk xs.length 0 lo)).take (eN.gk xs.length xs.length aB - eN.gk xs.length 0 lo),gU _ I⟩
noncomputable def q4:V->Bool
 | .bL=>ag
 | .aH _=>ag
 | .int _=>ag
 | .str _=>ag
 | _=>ah
noncomputable def mK:V->V->Bool
 | .bL,.bL=>ag
 | .aH a,.aH b=>a == b
 | .aH a,.int b=>(if a then 1 else 0) == b
 | .int a,.aH b=>a == (if b then 1 else 0)
 | .int a,.int b=>a == b
 | .str a,.str b=>a == b
 | _,_=>ah
theorem S1{A:da}{s:aI}{y x:V}{u v:ao}(cd:RelV y u)(bf:RelV x v)(ZL:q4 y=ag)(oM:q4 x=ag):SeqAt.EqAt A s u v (mK y x):=by
 cases y with
 | bL =>
  cases cd
  cases x with
  | bL=>cases bf;exact SeqAt.EqAt.same _
  | aH b=>cases bf;exact SeqAt.EqAt.none_bool b
  | int b=>obtain⟨t,rfl⟩:=bf;exact SeqAt.EqAt.none_int b t
  | str b=>obtain⟨t,rfl⟩:=bf;exact SeqAt.EqAt.none_str b t
  | _=>exact absurd (show ah=ag from oM) g6
 | aH a =>
  cases cd
  cases x with
  | bL=>cases bf;exact SeqAt.EqAt.bool_none a
  | aH b=>cases bf;exact SeqAt.EqAt.bool_bool a b
  | int b=>obtain⟨t,rfl⟩:=bf;exact SeqAt.EqAt.bool_int a b t
  | str b=>obtain⟨t,rfl⟩:=bf;exact SeqAt.EqAt.bool_str a b t
  | _=>exact absurd (show ah=ag from oM) g6
 | int a =>
  obtain⟨t',rfl⟩:=cd
  cases x with
  | bL=>cases bf;exact SeqAt.EqAt.int_none a t'
  | aH b=>cases bf;exact SeqAt.EqAt.int_bool a t' b
  | int b=>obtain⟨t,rfl⟩:=bf;exact SeqAt.EqAt.int_int a t' b t
  | str b=>obtain⟨t,rfl⟩:=bf;exact SeqAt.EqAt.int_str a t' b t
  | _=>exact absurd (show ah=ag from oM) g6
 | str a =>
  obtain⟨t',rfl⟩:=cd
  cases x with
  | bL=>cases bf;exact SeqAt.EqAt.str_none a t'
  | aH b=>cases bf;exact SeqAt.EqAt.str_bool a t' b
  | int b=>obtain⟨t,rfl⟩:=bf;exact SeqAt.EqAt.str_int a t' b t
  | str b=>obtain⟨t,rfl⟩:=bf;exact SeqAt.EqAt.str_str a t' b t
  | _=>exact absurd (show ah=ag from oM) g6
 | _=>exact absurd (show ah=ag from ZL) g6
noncomputable def pQ(x:V)(u:ao):Bool:=match u with
 | .none=>mK .bL x
 | .bool b=>mK (.aH b) x
 | .int i _=>mK (.int i) x
 | .str z _=>mK (.str z) x
 | _=>ah
theorem L4{x y:V}{u:ao}(r:RelV y u)(f:q4 y=ag):pQ x u=mK y x:=by
 cases y with
 | bL=>cases r;rfl
 | aH b=>cases r;rfl
 | int i=>obtain⟨t,rfl⟩:=r;rfl
 | str z=>obtain⟨t,rfl⟩:=r;rfl
 | _=>exact absurd (show ah=ag from f) g6
theorem Fo{x:V}:∀ {xs:List V} {us:List ao},Vals xs us->xs.all q4=ag->us.any (pQ x)=xs.any fun y=>mK y x
 | _,_,.nil,_=>rfl
 | y::xs,u::us,.cons r t,f=>by
  rw[List.all_cons,h7] at f
  rw[List.any_cons,List.any_cons,L4 r f.1,Fo t f.2]
theorem EU{A:da}{s:aI}{x:V}{v:ao}(bf:RelV x v)(oM:q4 x=ag):∀ {xs:List V} {us:List ao},Vals xs us->xs.all q4=ag->∀ u∈us,SeqAt.EqAt A s u v (pQ x u)
 | _,_,.nil,_=>fun u dN=>by cases dN
 | y::xs,u::us,.cons r t,f=>fun rP dN=>by
  rw[List.all_cons,h7] at f
  rcases dn.mp dN with rfl | dN
  ·rw[L4 r f.1];exact S1 r bf f.1 oM
  ·exact EU bf oM t f.2 rP dN
noncomputable def BS(x:V)(xs:List V):Bool:=xs.any fun y=>mK y x
def agf(K:bO)(neg:Bool):h6:=fun x y H Q=>∃ p xs,y = .ref p/\(dQ K H p xs\/jc K H p xs)/\q4 x=ag/\xs.all q4=ag/\Q (.aH (if neg then !BS x xs else BS x xs)) H
theorem WT:dU X (hP .In) (agf X.K ah):=by
 intro ak s ab H x y v u Q aa bf cd h
 obtain⟨p,xs,rfl,aU,oM,fs,q⟩:=h
 cases cd
 rcases aU with aU | aU
 ·obtain⟨bq,r,pl,bI⟩:=aa.list aU
  refine SeqAt.in_listAt (pQ x) pl.isList (fun w hw=>EU bf oM r fs w (by simpa using hw)) ⟨.aH _,H,aa,I,?_⟩
  rw[show bq.toArray.any (pQ x)=bq.any (pQ x) by simp,Fo r fs]
  exact q
 ·obtain⟨bq,r,pl,bI⟩:=aa.tuple aU
  refine SeqAt.in_tupleAt (pQ x) pl (fun w hw=>EU bf oM r fs w (by simpa using hw)) ⟨.aH _,H,aa,I,?_⟩
  rw[show bq.toArray.any (pQ x)=bq.any (pQ x) by simp,Fo r fs]
  exact q
theorem J4:js X (.type "tuple") (fun xs H Q=>∃ p aY,xs=[.ref p]/\((dQ X.K H p aY/\∀ l,H l=aw->Q (.ref l) (upd H l (.tup aY)))\/(jc X.K H p aY/\Q (.ref p) H))):=by
 intro ak s ab H xs us Q aa r h
 obtain⟨p,aY,rfl,h⟩:=h
 obtain⟨u,rfl,bf⟩:=vals1 r
 cases bf
 rcases h with⟨aU,q⟩ | ⟨aU,q⟩
 ·obtain⟨bq,e2,pl,bI⟩:=aa.list aU
  have cG:=e2.length
  refine call_tuple_list pl.isList (fun h' ij=>?_) (by simp only[fY]<;>omega)
  have aS:Inv X ak ab H {s with heap:=h'}:=aa.kept (t':=s.toks) ij
  have bA:Inv X ak ab (upd H h'.objs.size (.tup aY)) {s with heap:=h'.push {cls := .type "tuple",data := .seq bq.toArray}} :=
   aS.laid (t':=s.toks) (fun b o e=>d7 _ e) (cx _) (show gg X.prog X.w _ _ _ (.tup aY) from⟨bI,bq,e2,IsTup.new _ _⟩)
  exact⟨.ref h'.objs.size,_,bA,I,q _ (aS.aR.fresh (cx _))⟩
 ·obtain⟨bq,e2,pl,bI⟩:=aa.tuple aU
  exact call_tuple_same pl ⟨.ref p,H,aa,I,q⟩
def ID(K:bO)(T:String)(x:V)(H:au):Prop:=match x with
 | .str _=>T="str"
 | .int _=>T="int"
 | .ref p=>(T="list"/\∃ xs,dQ K H p xs)\/(T="tuple"/\∃ o,K.lookup p=J o/\o.cls = .type "tuple"/\o.dict=aw)\/
   (T="dict"/\((∃ fH,H p=J (.l2 fH))\/∃ fH,H p=J (.oI fH)))\/(T="set"/\∃ S n,H p=J (.set S n))
 | _=>False
theorem LR{ak:List (ae×bo)}{ab:St}{H:au}{s:aI}{T:String}{x:V}{v:ao}(aa:Inv X ak ab H s)(r:RelV x v)(ty:ID X.K T x H) :
  s.TypeIs v T/\∀ a,v = .ref a->∃ dC,s.heap.get? a=J dC/\dC.dict=aw:=by
 cases x with
 | str z =>
  obtain⟨t,rfl⟩:=r
  cases (show T="str" from ty)
  exact⟨typeIs_str s z t,fun _ e=>nomatch e⟩
 | int i =>
  obtain⟨t,rfl⟩:=r
  cases (show T="int" from ty)
  exact⟨typeIs_int s i t,fun _ e=>nomatch e⟩
 | ref p =>
  cases r
  rcases ty with⟨rfl,xs,aU⟩ | ⟨rfl,o,hk,hc,hd⟩ | ⟨rfl,hk⟩ | ⟨rfl,S,n,hk⟩
  ·obtain⟨bq,_,pl,_⟩:=aa.list aU
   refine⟨pl.isList.typeIs,fun a e=>?_⟩
   cases e
   obtain⟨o,n,e,c,hd,_⟩:=pl
   exact⟨o,e,hd⟩
  ·refine⟨⟨o,aa.es p o hk,hc⟩,fun a e=>?_⟩
   cases e
   exact⟨o,aa.es _ o hk,hd⟩
  ·have z:∃ o,s.heap.get? p=J o/\o.ExactDict:=by
    rcases hk with⟨fH,hk⟩ | ⟨fH,hk⟩
    ·obtain⟨_,_,_,_,o,_,_,e,ex,_⟩:=aa.aR p _ hk
     exact⟨o,e,ex⟩
    ·exact(show False from aa.aR p _ hk).elim
   obtain⟨o,e,ex⟩:=z
   refine⟨⟨o,e,ex.1⟩,fun a aL=>?_⟩
   cases aL
   exact⟨o,e,ex.2.1⟩
  ·obtain⟨o,_,_,_,e,ex,_⟩:=aa.aR p _ hk
   refine⟨⟨o,e,ex.1⟩,fun a aL=>?_⟩
   cases aL
   exact⟨o,e,ex.2.1⟩
 | _=>exact False.elim ty
def agK(K:bO)(T:String)(r:V->List V->au->bx->Prop)(to:TE):TE:=fun ab H Q=>to ab H fun x H1=>ID K T x H1/\r x [] H1 Q
def agJ(K:bO)(T:String)(r:V->List V->au->bx->Prop)(to:TE)(t:gw):TE:=fun ab H Q=>to ab H fun x H1=>ID K T x H1/\t ab H1 fun xs ax=>r x xs ax Q
variable {o e:b2} {aV:List b2} {to:TE} {t:gw} {name:af} {apos ll:Pos} {T id:String} {r:V->List V->au->bx->Prop}
theorem xw(m2:PlainAttrs T)(slot:Slot T name id)(yj:typeOf (.builtin id)=pure (.type "method_descriptor"))(hm:su X id r)(aJ:bW X o to)
  (GI:attributeBase o name X.env (eval o X.env)=eval o X.env:=by rfl) (G8:(apos.endLine == ll.line)=ag:=by rfl):bW X (.Call (.Attribute o name apos) [] [] ll) (agK X.K T r to):=by
 intro ak s ab H Q aa h
 refine wpAny_Call_method0_late GI G8 (cz (aJ ak s ab H _ aa h) fun v s1 bD=>?_)
 obtain⟨x,H1,aS,cp,ty,cD⟩:=bD
 obtain⟨aj,ar⟩:=LR aS cp ty
 exact⟨T,id,m2,slot,yj,aj,ar,Calls.callWith_builtin I (PySem.evalArgs_none (hm ak s1 ab H1 x [] v [] Q aS cp .nil cD))⟩
theorem jP(m2:PlainAttrs T)(slot:Slot T name id)(yj:typeOf (.builtin id)=pure (.type "method_descriptor"))(hm:su X id r)(aJ:bW X o to)(ba:hx X (e::aV) t)
  (GI:attributeBase o name X.env (eval o X.env)=eval o X.env:=by rfl)
  (aaZ:((backTo ll (df (e::aV) X.env)).all (fun x=>!x.1)&&(backToKw ll (qs [] X.env)).all (fun x=>x.1.isSome)
   && decide ((e::aV).length+([]:List Keyword).length+(if ([]:List Keyword).isEmpty then 0 else 1)<30))=ag:=by rfl)
  (G8:(apos.endLine == ll.line)=ag:=by rfl) (hs:df (e::aV) X.env=(ah,eval e X.env)::df aV X.env:=by rfl) (abK:(backTo ll (df aV X.env)).any (·.1)=ah:=by rfl) :
  bW X (.Call (.Attribute o name apos) (e::aV) [] ll) (agJ X.K T r to t):=by
 intro ak s ab H Q aa h
 refine wpAny_Call_method_late GI aaZ G8 I (cz (aJ ak s ab H _ aa h) fun v s1 bD=>?_)
 obtain⟨x,H1,aS,cp,ty,cD⟩:=bD
 obtain⟨aj,ar⟩:=LR aS cp ty
 refine⟨T,id,m2,slot,yj,aj,ar,?_⟩
 have kO:=ba ll ak s1 ab H1 _ aS cD
 rw[hs] at kO ⊢
 refine Calls.callWith_builtin (by show (ah||(backTo ll (df aV X.env)).any (·.1))=ah;rw[abK]<;>rfl) (Calls.evalArgs_plain ?_)
 refine cz kO fun us s2 bD=>?_
 obtain⟨vs,ax,bA,el,cE⟩:=bD
 exact hm ak s2 ab ax x vs v us Q bA cp el cE
end
def Ji(X:bp)(id:String)(r:V->List V->au->bx->Prop):Prop :=
 ∀ (ak:List (ae×bo)) (s:aI) (ab:St) (H:au) (x:V) (xs:List V) (v:ao) (us:List ao) (Q:bx),Inv X ak ab H s->RelV x v->Vals xs us->r x xs H Q->
  bE (model X.prog X.w) X.A (call (.builtin id) (v::us)) (h4 X ak ab Q) X.xe s
theorem Vals.one:∀ {x:V} {us:List ao},Vals [x] us->∃ u,us=[u]/\RelV x u
 | _,_,.cons r .nil=>⟨_,rfl,r⟩
theorem Vals.eraseIdx:∀ {xs:List V} {us:List ao} (i:Nat),Vals xs us->Vals (xs.eraseIdx i) (us.eraseIdx i)
 | _,_,_,.nil => .nil
 | _,_,0,.cons _ t=>t
 | _,_,i+1,.cons r t => .cons r (Vals.eraseIdx i t)
theorem Vals.rep{xs:List V}{us:List ao}(h:Vals xs us):∀ k:Nat,Vals (List.replicate k xs).flatten (List.replicate k us).flatten
 | 0 => .nil
 | k+1=>by
  rw[List.replicate_succ,List.replicate_succ,mF,mF]
  exact Vals.append h (Vals.rep h k)
theorem KO{α:Type}:∀ (l:List α) (i:Nat),(l.eraseIdx i).length<=l.length
 | [],_=>cx _
 | _::_,0=>Nat.le_succ _
 | _::r,i+1=>Nat.succ_le_succ (KO r i)
theorem KW(bq:List ao):∀ (k:Nat) (acc:List ao),
  List.foldl (fun hg gv=>hg++gv) acc.toArray (List.replicate k bq.toArray)=(acc++(List.replicate k bq).flatten).toArray
 | 0,acc=>by simp
 | k+1,acc=>by
  have e:acc.toArray++bq.toArray=(acc++bq).toArray:=by simp
  have aL:(acc++bq)++(List.replicate k bq).flatten=acc++(List.replicate (k+1) bq).flatten:=by
   rw[List.replicate_succ,mF,fA]
  rw[<- aL,<- KW bq k (acc++bq),<- e,List.replicate_succ,List.foldl_cons]
section
variable {X:bp} {ak:List (ae×bo)} {ab:St} {H:au} {s:aI} {l b:ae} {xs aY zs:List V}
theorem Inv.NP{bq its':List ao}{n:Nat}{f:Array ao->Array ao}{t':Nat}(aa:Inv X ak ab H s)(hp:H l=J (.lst xs))
  (e:s.heap.get? l=J {cls := .type "list",data := .seq bq.toArray n}) (aE:f bq.toArray=its'.toArray) (bl:Vals aY its') (bI:aY.length<=bT) :
  Inv X ak ab (upd H l (.lst aY)) {s with heap:=s.heap.update l (bo.mapSeq f),toks:=t'}:=by
 have q:=PySem.IsL.update e f
 rw[aE] at q
 refine aa.write (x:=l) (e:=l) (by rw[hp];exact trivial) (.inl I) (fun aiX u aq dN=>(aX.get?_update_other s.heap (bo.mapSeq f) (d2 aq)).trans dN) ⟨_,q⟩ ?_
 exact⟨bI,its',_,bl,q⟩
theorem Inv.NO{bq:List ao}{t':Nat}(aa:Inv X ak ab H s)(bl:Vals aY bq)(bI:aY.length<=bT) :
  Inv X ak ab (upd H s.heap.objs.size (.lst aY)) {s with heap:=s.heap.push {cls := .type "list",data := .seq bq.toArray},toks:=t'} :=
 aa.laid (fun _ _ q=>d7 _ q) (cx _) ⟨bI,bq,0,bl,gU _ rfl⟩
theorem Inv.fresh(aa:Inv X ak ab H s):H s.heap.objs.size=aw:=aa.aR.fresh (cx _)
theorem Inv.rr(aa:Inv X ak ab H s)(hp:H l=J (.lst xs)):xs.length<=bT/\∃ (bq:List ao) (n:Nat),Vals xs bq/\xs.length=bq.length/\s.heap.get? l=J {cls := .type "list",data := .seq bq.toArray n}:=by
 obtain⟨z,bq,n,r,e⟩:=aa.aR l _ hp
 exact⟨z,bq,n,r,r.length,e⟩
theorem adY{n:Nat}(h:n<=bT):c1.List.listTooLong n=ah:=by
 unfold c1.List.listTooLong
 exact gM (by omega)
end
section
variable {X:bp}
noncomputable def agc:V->List V->au->bx->Prop:=fun x vs H Q=>∃ l xs y,x = .ref l/\vs=[y]/\H l=J (.lst xs)/\xs.length<bT/\Q .bL (upd H l (.lst (xs++[y])))
theorem sl:Ji X "list.append" agc:=by
 intro ak s ab H x vs v us Q aa bf dH h
 obtain⟨l,xs,y,rfl,rfl,hp,bI,q⟩:=h
 cases bf
 obtain⟨u,rfl,gG⟩:=dH.one
 obtain⟨z,bq,n,r,aC,e⟩:=aa.rr hp
 refine call_meets F.slot_list_append ⟨_,e,I⟩ F.entry_list_append (F.args_list_append_2 _ _) (PySem.list_append l bq.toArray n u (by rw[fY];omega)) ⟨e,?_⟩
 refine⟨.bL,_,aa.NP (its':=bq++[u]) hp e (by simp) (r.append (.cons gG .nil)) ?_,I,q⟩
 rw[dI,iC]
 omega
noncomputable def agi:V->List V->au->bx->Prop:=fun x vs H Q=>∃ l xs i k y,x = .ref l/\vs=[.int i]/\H l=J (.lst xs)/\-(2 ^ 63)<=i/\i<2 ^ 63/\seqIndex? i xs.length=J k/\xs[k]?=J y/\Q y (upd H l (.lst (xs.eraseIdx k)))
theorem XZ:Ji X "list.pop" agi:=by
 intro ak s ab H x vs v us Q aa bf dH h
 obtain⟨l,xs,i,k,y,rfl,rfl,hp,aj,ar,hk,bM,q⟩:=h
 cases bf
 obtain⟨u,rfl,gG⟩:=dH.one
 obtain⟨t,rfl⟩:=gG
 obtain⟨z,bq,n,r,aC,e⟩:=aa.rr hp
 obtain⟨w,hw,yI⟩:=r.get bM
 refine call_meets F.slot_list_pop ⟨_,e,I⟩ F.entry_list_pop (F.args_list_pop_2 _ _)
  (MeetsSeq.list_pop_at l bq.toArray n i t k w (fitsIndex_both aj ar) (by rw[fY,<- aC];exact hk) (by rw[<- Array.getElem?_toList];exact hw) (by rw[fY];omega)) ⟨e,?_⟩
 refine⟨y,_,aa.NP (its':=bq.eraseIdx k) hp e ?_ (r.eraseIdx k) ?_,yI,q⟩
 ·show bq.toArray.eraseIdxIfInBounds k=(bq.eraseIdx k).toArray
  rw[List.eraseIdxIfInBounds_toArray]
 ·have:=KO xs k
  omega
def age:h6:=fun x y H Q=>∃ l b xs zs,x = .ref l/\y = .ref b/\H l=J (.lst xs)/\H b=J (.lst zs)/\xs.length+zs.length<=bT/\∀ p,H p=aw->Q (.ref p) (upd H p (.lst (xs++zs)))
theorem AU:dU X (ka .Add) age:=by
 intro ak s ab H x y v u Q aa bf cd h
 obtain⟨l,b,xs,zs,rfl,rfl,hp,xP,bI,q⟩:=h
 cases bf
 cases cd
 obtain⟨z,bq,n,r,aC,e⟩:=aa.rr hp
 obtain⟨dj,qg,dO,el,i1,aL⟩:=aa.rr xP
 refine PySem.P.add_list e aL ?_ (by rw[fY,fY];omega)
 have c7:bq.toArray++qg.toArray=(bq++qg).toArray:=by simp
 rw[c7]
 exact⟨.ref _,_,aa.NO (t':=s.toks) (r.append el) (by rw[dI];omega),I,q _ aa.fresh⟩
def agj:h6:=fun x y H Q=>∃ l k xs,x = .ref l/\y = .int k/\H l=J (.lst xs)/\-(2 ^ 63)<=k/\k<2 ^ 63/\xs.length*k.toNat<=bT/\
 ∀ p,H p=aw->Q (.ref p) (upd H p (.lst (List.replicate k.toNat xs).flatten))
theorem R6{α:Type}(xs:List α)(k:Nat):(List.replicate k xs).flatten.length=k*xs.length:=by
 induction k with
 | zero=>simp
 | succ k cA=>rw[List.replicate_succ,mF,dI,cA,Nat.succ_mul,Nat.add_comm]
theorem SN:dU X (ka .Mult) agj:=by
 intro ak s ab H x y v u Q aa bf cd h
 obtain⟨l,k,xs,rfl,rfl,hp,aj,ar,bI,q⟩:=h
 cases bf
 obtain⟨t,rfl⟩:=cd
 obtain⟨z,bq,n,r,aC,e⟩:=aa.rr hp
 have cG:bq.toArray.size*k.toNat<=bT:=by rw[fY,<- aC];exact bI
 have p3:¬bq.toArray.size*k.toNat > (2 ^ 63 - 1)/8:=by
  have:(bT:Nat)<=(2 ^ 63 - 1)/8:=by decide
  omega
 have i0:¬(!c1.List.listFitsIndex k)=ag:=by
  rw[fitsIndex_both aj ar]
  exact g6
 have abl:¬c1.List.listTooLong (bq.toArray.size*k.toNat)=ag:=by
  rw[adY cG]
  exact g6
 have aby:List.foldl (fun hg gv=>hg++gv) #[] (List.replicate (if bq.toArray.isEmpty=ag then 0 else k.toNat) bq.toArray)=(List.replicate k.toNat bq).flatten.toArray:=by
  have f0:∀ m:Nat,List.foldl (fun hg gv=>hg++gv) #[] (List.replicate m bq.toArray)=(List.replicate m bq).flatten.toArray:=fun m=>by
   have:=KW bq m []
   rw[List.nil_append] at this
   exact this
  rw[f0]
  cases bq with
  | nil=>simp
  | cons a e2=>rw[if_neg (by simp)]
 refine wpAny_binaryOp_repeat_ref (T:="list") (U:="int") (by decide) ⟨_,e,I⟩ (fun aF=>typeIs_int aF k t) noFill_list_mul F.fills_int_mul F.slot_int_rmul repeat_list F.slot_int_index.lookup
  (call_meets F.slot_int_rmul (typeIs_int s k t) F.entry_int_rmul (F.args_int_rmul_2 _ _) (int___rmul___int_list k t l bq.toArray n)
   ⟨e,rfl,⟨_,e,rfl⟩,call_meets F.slot_list_mul ⟨_,e,rfl⟩ F.entry_list_mul (F.args_list_mul_2 _ _) (AutoListH.list___mul___list_int_3 l bq.toArray n k t i0 p3 abl) ⟨e,?_⟩⟩)
 rw[aby]
 exact⟨.ref _,_,aa.NO (t':=s.toks) (r.rep k.toNat) (by rw[R6,Nat.mul_comm];exact bI),I,q _ aa.fresh⟩
end
end dg
namespace I3
open PySem PySem.W PySem.Calls PyProof.Rows
theorem T6{P:Params}{h:aX}:∀ (ns:List Int) (vs:List ao),WellAll P h vs (ns.map WData.int)->IntsAre vs ns:=by
 intro ns
 induction ns with
 | nil =>
  intro vs w
  rw[List.map_nil] at w
  cases w
  exact .nil
 | cons n ns cA =>
  intro vs w
  rw[jw] at w
  cases w with
  | cons a b =>
   cases a
   exact .cons _ _ (cA _ b)
theorem WI{l:OpenLaw}{n:Nat}(bc:l.most=J n){P:Params}{h:aX}{args:List WData}{vals:List ao}
  (BK:l.row.toRowW.claim.pre args=ag) (BQ:WellAll P h vals args) :
  ∃ a vs ns,vals=[ao.ref a]/\args=[WData.list (ns.map WData.int)]/\h.get? a=J {cls := .type "list",data := .seq vs.toArray}/\IntsAre vs ns/\ns.length<=n:=by
 have abR:WShape.hasAll [] args [.list .int]=ag:=(pre_splitW BK).1
 have hc:l.pre.holds [] {args:=args}=ag:=(pre_splitW BK).2
 obtain⟨d,r,rfl,aj,ar⟩:=hasAllW_cons abR
 obtain rfl:=hasAllW_nil ar
 obtain⟨xs,rfl,bB⟩:=hasW_list aj
 obtain⟨ns,rfl⟩:=items_int bB
 have cG:ns.length<=n:=by
  unfold OpenLaw.pre at hc
  have b0:(WTm.not (.lt (.lit (.int (n:Int))) (.len (.arg 0)))).holds [] {args:=[.list (ns.map .int)]}=ag:=by
   have b0:=(holds_andW hc).1
   rw[bc] at b0
   exact b0
  have eB:=condW_of b0 (w_not (w_lt w_lit (w_len_list (w_arg rfl))))
  rw[cM] at eB
  refine Nat.le_of_not_lt fun q=>?_
  have iA:(n:Int)<((ns.length:Nat):Int):=by omega
  first
   | (rw[ek iA] at eB;exact absurd eB (by decide))
   | (simp at eB;omega)
 cases BQ with
 | cons yX rR =>
  cases rR
  cases yX with
  | list aJ hZ=>exact⟨_,_,ns,I,I,aJ,T6 ns _ hZ,cG⟩
theorem WL(l:OpenLaw)(args:List WData):l.row.toRowW.claim.post args (.bool ag) args=ag :=
 postW_of (r:=l.row.toRowW) (X:=(ag == ag))
  (show WShape.has [] (.bool ag) .bool=ag by first | rfl | decide | simp[WShape.has,WShape.arms,WShape.armsAll])
  (show (WTm.eq .res (.lit (.bool ag))).value [] {args:=args,res:=J (.bool ag),after:=args}=J (.bool (ag == ag)) from w_eq_bool (w_res rfl) w_lit) rfl
theorem YB{l:OpenLaw}{n:Nat}{q:cX}{loose:List af}{u3:(af->Option ao)->aX->Prop}{qN:cu->aX->Prop}{d:DefRec}
  (bc:l.most=J n) (xU:d.params.defaults=[])
  (call:∀ (w:cu) (de dx:aI) (mg mX:af->Option ao) (fa:ae) (o:bo) (pm c4 doc:ao) (a:ae) (vs:List ao) (ns:List Int),
   Ground q loose [] u3 w de mg mX dx.heap->qN w dx.heap->
   dx.heap.get? fa=J o->o.data = .func (docDef d.name d.params d.body d.scope pm c4 doc)->dx.heap.CodeRec c4 d.name->mg d.name=J (.ref fa)->
   dx.heap.get? a=J {cls := .type "list",data := .seq vs.toArray}->IntsAre vs ns->ns.length<=n->dx.gens=#[]->
   kA (model l.prog w) callerA (.call (.ref fa) ⟨[.ref a],[]⟩) (fun r aF=>r = .ok (.ret (.bool ag))/\OldK dx.heap aF.heap/\aF.os=dx.os/\AllBare aF.gens) dx) :
  WalkO q loose u3 qN l.row.toRowW d [] (fun f vs=>PySem.call f vs):=by
 intro w de dx mg mX G Y fa o pm c4 doc A6 gr aJ hd j0 dB hmg aK args vals as BK ajr Nv BQ ajt
 obtain rfl:A6 = .none:=Dflts.none dB xU
 obtain rfl:gr = .none:=Dflts.noKw dB
 obtain⟨a,vs,ns,rfl,rfl,Hd,hints,cG⟩:=WI bc BK BQ
 refine enter_call (lP (call w de dx mg mX fa o pm c4 doc a vs ns G Y aJ (fd_plain hd) j0 hmg Hd hints cG aK) fun r aF aU=>?_)
 obtain⟨rfl,ar,bB,b0⟩:=aU
 exact⟨.inl ⟨.bool ag,.bool ag,[],I,fun _=>I,.bool ag,WL l _,fun _=>⟨List.Pairwise.nil,fun _ hm=>(nomatch hm)⟩⟩,ar,bB,b0⟩
section
variable {prog:cX} {w:cu} {A:da} {E:ao->aI->Prop} {s:aI} {K:Frag}
noncomputable def ajN(h:aX)(L d:ae):List (ae×bo):=(List.range h.objs.size).filterMap fun a=>if a=L\/a=d then aw else (h.get? a).map fun o=>(a,o)
end
end I3
namespace dg
open PySem PySem.Spec PyProof.Rows
theorem Kw:∀ {vs:List ao} {ns:List Int},IntsAre vs ns->Vals (ns.map V.int) vs
 | _,_,.nil => .nil
 | _,_,.cons n t h => .cons ⟨t,rfl⟩ (Kw h)
def Di(H:au):Prop:=∀ b,H b=aw\/∃ o xs,H b=J (.iG o (.lst xs))
theorem adb{P:cX}{w:cu}{K:bO}{mg mX:af->Option ao}{CX:k0}{k:Nat}{fa a:ae}{fd:fu}{x:af}{sp:b5}{dx:aI}{vs:List ao}{ns:List Int}
  (KX:K.In dx.heap) (Nl:dx.heap.Ns d5 mg) (aq:dx.heap.Ns builtinsNs mX) (GJ:∀ x:af,x≠"__name__"->mX x=jJ x) (abj:dx.heap.NoLimit) (aK:dx.gens=#[])
  (ba:dx.heap.get? a=J {cls := .type "list",data := .seq vs.toArray}) (aB:IntsAre vs ns) (aC:ns.length<=bT) (az:e4 k callerA)
  (F:∀ base:aX,K.In base->base.Ns d5 mg->cg P w K mg base CX k fa fd [x] sp) (aaI:∀ (s:aI) (u:ao),BindsTo s fd ⟨[u],[]⟩ [(x,u)])
  (n5:∀ H:au,Di H->dQ K H a (ns.map V.int)->sp [.ref a] H (fun v _=>v = .aH ag) fun _ _ _=>False)
  (Gp:∀ H e aF,CX [] H dx (fun _ _ _=>False) e aF->False) :
  kA (model P w) callerA (.call (.ref fa) ⟨[.ref a],[]⟩) (fun r aF=>r = .ok (.ret (.bool ag))/\OldK dx.heap aF.heap/\aF.os=dx.os/\AllBare aF.gens) dx:=by
 have dH:=Kw aB
 have adf:=aB.length
 have core:∀ H:au,Di H->dQ K H a (ns.map V.int)->fh P w H dx.heap->(∀ b,H b≠aw->b=a)->(H a≠aw->K.lookup a=aw)->
   kA (model P w) callerA (.call (.ref fa) ⟨[.ref a],[]⟩) (fun r aF=>r = .ok (.ret (.bool ag))/\OldK dx.heap aF.heap/\aF.os=dx.os/\AllBare aF.gens) dx:=by
  intro H Bq b7 aR kO gQ
  have base_of:∀ {b:ae} {o:bo},dx.heap.get? b=J o->H b=aw->(p8 dx.heap H).get? b=J o:=fun e n=>X4 e n
  have yw:∀ {b:ae} {o:bo} {aV:Array DictEntry} {fV:Nat},dx.heap.get? b=J o->o.data = .dict aV fV->H b=aw:=fun {b o aV fV} e d=>by
   cases q:H b with
   | none=>rfl
   | some u =>
    have e':b=a:=kO b (by rw[q];simp)
    subst e'
    rw[ba] at e;cases e
    have d':Data.seq vs.toArray _=Data.dict aV fV:=d
    cases d'
  have tJ:∀ {b:ae} {m:af->Option ao},dx.heap.Ns b m->(p8 dx.heap H).Ns b m:=fun {b m} ⟨o,aV,fV,e,d,r⟩=>⟨o,aV,fV,base_of e (yw e d),d,r⟩
  have MU:K.In (p8 dx.heap H):=fun b o e=>base_of (KX b o e) (by
   cases q:H b with
   | none=>rfl
   | some u =>
    have e':b=a:=kO b (by rw[q];simp)
    subst e'
    rw[gQ (by rw[q];simp)] at e;cases e)
  have mP:Mod K mg (p8 dx.heap H):=⟨MU,tJ Nl,⟨mX,tJ aq,GJ⟩,let ⟨adu,aj,ar⟩:=abj;⟨adu,tJ aj,ar⟩⟩
  have eL:se P w K mg (p8 dx.heap H) callerA [] dx H:=⟨rfl,mP,fun b o e=>R2 e,Nat.le_of_eq (W3 _ _),trivial,fun b aq=>absurd (show b∈([]:List ae) from aq) (by simp),aR,.of_eq aK⟩
  refine lP ((F _ MU (tJ Nl)).run callerA [] dx H ⟨[.ref a],[]⟩ [.ref a] [.ref a] _ _ az eL (aaI dx (.ref a)) (.cons I .nil) (n5 H Bq b7)) fun r aF h=>?_
  cases r with
  | error e=>exact(Gp H e aF h).elim
  | ok dq =>
   cases dq with
   | next=>exact False.elim h
   | brk=>exact False.elim h
   | cont=>exact False.elim h
   | ret u =>
    obtain⟨v,H',os,bare,un,abF,e2,q⟩:=h
    have iA:v = .aH ag:=q
    subst iA
    obtain rfl:u=ao.bool ag:=e2
    refine⟨I,OldK.of_keep fun b o e=>?_,os,bare⟩
    cases q:H b with
    | none=>exact un.keep b o e q (by intro z;exact absurd (show b∈([]:List ae) from z) (by simp)) (by simp)
    | some u =>
     rcases Bq b with z | ⟨dC,xs,z⟩
     ·rw[q] at z;cases z
     ·have dj:=un.kM b dC _ z
      obtain⟨aG,_⟩:=aR b _ z
      obtain⟨aL,_⟩:=abF b _ dj
      rw[e] at aG;cases aG
      exact aL
 cases hk:K.lookup a with
 | some o =>
  have e:=KX a o hk
  rw[ba] at e
  cases e
  refine core (fun _=>aw) (fun _ => .inl I) (.inr ⟨_,vs.toArray,_,hk,I,I,I,by rw[fY,adf];exact aC,by simpa using dH⟩) (fun b u z=>by have oi:(aw:Option cv)=J u:=z;cases oi) (fun b z=>absurd rfl z) fun z=>absurd rfl z
 | none =>
  refine core (fun b=>if b=a then J (.iG {cls := .type "list",data := .seq vs.toArray} (.lst (ns.map V.int))) else aw) (fun b=>?_) (.inl (.inr ⟨{cls := .type "list",data := .seq vs.toArray},if_pos rfl⟩)) (fun b u z=>?_) (fun b z=>?_) fun _=>hk
  ·by_cases aq:b=a
   ·exact .inr ⟨_,_,if_pos aq⟩
   ·exact .inl (if_neg aq)
  ·by_cases aq:b=a
   ·have oi:=(if_pos aq).symm.trans z
    cases oi
    subst aq
    exact⟨ba,by rw[cM];exact aC,vs,_,dH,ba⟩
   ·have oi:=(if_neg aq).symm.trans z
    cases oi
  ·by_cases aq:b=a
   ·exact aq
   ·exact absurd (if_neg aq) z
theorem RE{l:PySem.W.OpenLaw}{n k:Nat}{q:cX}{loose:List af}{u3:(af->Option ao)->aX->Prop}{qN:cu->aX->Prop}{d:DefRec}{K:Params->bO}{CX:cu->k0}{sp:cu->b5}{x:af}
  (bc:l.most=J n) (kR:n<=bT) (xU:d.params.defaults=[]) (az:e4 k callerA)
  (GC:∀ (w:cu) (h:aX),qN w h->(K w.params).In h)
  (F:∀ (w:cu) (mg:af->Option ao) (fa:ae) (h:aX),(K w.params).In h->h.Ns d5 mg->mg d.name=J (.ref fa)->
   ∃ fd:fu,(∀ (s:aI) (u:ao),BindsTo s fd ⟨[u],[]⟩ [(x,u)])/\
    ∀ base:aX,(K w.params).In base->base.Ns d5 mg->cg l.prog w (K w.params) mg base (CX w) k fa fd [x] (sp w))
  (n5:∀ (w:cu) (H:au) (a:ae) (ns:List Int),ns.length<=n->Di H->dQ (K w.params) H a (ns.map V.int)->sp w [.ref a] H (fun v _=>v = .aH ag) fun _ _ _=>False)
  (Gp:∀ (w:cu) (H:au) (s:aI) (e:ao) (aF:aI),CX w [] H s (fun _ _ _=>False) e aF->False) :
  PySem.W.WalkO q loose u3 qN l.row.toRowW d [] (fun f vs=>PySem.call f vs):=by
 refine I3.YB bc xU fun w de dx mg mX fa o pm c4 doc a vs ns G Y aJ hd j0 hmg Hd hints cG aK=>?_
 have KX:=GC w _ Y
 obtain⟨fd,aq,b6⟩:=F w mg fa _ KX G.T.g hmg
 exact adb KX G.T.g G.T.b G.T.builtins G.T.nolimit aK Hd hints (ey cG kR) az b6 aq (fun H Bq b7=>n5 w H a ns cG Bq b7) fun H e aF=>Gp w H dx e aF
noncomputable def dp(s:bj)(j:Nat):bj:=match s with
 | .ClassDef _ _ _ body _ _ _ _ _ _ _=>body.getD j (.Pass ⟨0,0,0,0⟩)
 | _ => .Pass ⟨0,0,0,0⟩
noncomputable def l4(s:bj):Arguments:=match s with
 | .FunctionDef _ a _ _ _ _ _ _ _ _=>a
 | _=>{posonlyargs:=[],args:=[],vararg:=aw,kwonlyargs:=[],kw_defaults:=[],kwarg:=aw,defaults:=[]}
noncomputable def iw(s:bj):List bj:=match s with
 | .FunctionDef _ _ b _ _ _ _ _ _ _=>b
 | _=>[]
noncomputable def bF(s:bj):Scope:=match s with
 | .FunctionDef _ _ _ _ _ _ sc _ _ _=>sc
 | _=>{kind := .function,names:=[],isGenerator:=ah,isCoroutine:=ah}
noncomputable abbrev dk:k0:=fun _ _ _ _ _ _=>False
abbrev il:bP:=fun _ _ _=>False
theorem yD{X:bp}:Passes dk X il:=fun _ _ _ _ _ _ _ h=>h.elim
structure c2(K:bO)(x dy:af)(st:bj)(f:ae)(fd:fu):Prop where
 ex:∃ (ik:ao) (od:Option ae) (gr doc pm:ao) (an:Option ae) (bb ct:ao) (mi:Array (Option ao)),
  fd=lO x dy (l4 st) (iw st) (bF st) .none gr doc pm an bb ct/\K.lookup f=J ⟨ik,od,.func fd,mi⟩/\ug K bb dy=ag
 ij:j9 K (.ref f)=ag
section
variable {P:cX} {w:cu} {K:bO} {mg:af->Option ao} {base:aX}
theorem c2.ok{x dy:af}{st:bj}{f:ae}{fd:fu}{N ps:List af}{k:Nat}{sp:b5}(F:c2 K x dy st f fd)(S:bZ N ps (bF st))(len:∀ vs H Q E,sp vs H Q E->vs.length=ps.length)
  (jj:∀ (bb:ao) (A:da) (outer:List Env) (s:aI) (H:au) (vs:List V) (Q:bx) (E:bP),e4 k (A.deeper (envOfC dy (bF st) s.heap.objs.size f bb))->sp vs H Q E->
   ∃ t,hj (jV dk P w K mg base N dy (bF st) f bb A outer s H E).rA (iw st) t/\t {nx:=fun _ H'=>Q .bL H',rt:=Q} (start N vs) H):cg P w K mg base dk (k+1) f fd ps sp:=by
 obtain⟨ik,od,gr,doc,pm,an,bb,ct,mi,rfl,oW,j0⟩:=F.ex
 refine JK oW j0 S len fun A outer s H vs Q E az n5=>?_
 obtain⟨t,h,q⟩:=jj bb A outer s H vs Q E az n5
 exact⟨t,h.rA,q⟩
theorem c2.binds{x dy:af}{st:bj}{f:ae}{fd:fu}{ps:List af}(F:c2 K x dy st f fd)
  (h:∀ (gr doc pm:ao) (an:Option ae) (bb ct:ao) (us:List ao),us.length=ps.length->bindArgs (lO x dy (l4 st) (iw st) (bF st) .none gr doc pm an bb ct) ⟨us,[]⟩=pure (ps.zip us)):Binds K fd ps []:=by
 obtain⟨ik,od,gr,doc,pm,an,bb,ct,mi,rfl,oW,j0⟩:=F.ex
 exact .all (h gr doc pm an bb ct)
theorem xA{x dy:af}{st:bj}{f:ae}{ik:ao}{od an:Option ae}{mi:Array (Option ao)}{gr doc pm bb ct:ao}(l:K.lookup f=J ⟨ik,od,.func (lO x dy (l4 st) (iw st) (bF st) .none gr doc pm an bb ct),mi⟩)
  (c:ug K bb dy=ag) (k:j9 K (.ref f)=ag):c2 K x dy st f (lO x dy (l4 st) (iw st) (bF st) .none gr doc pm an bb ct):=⟨⟨ik,od,gr,doc,pm,an,bb,ct,mi,rfl,l,c⟩,k⟩
end
section
variable {X:bp}
theorem ai(i:Nat){x:af}{aO:Pos}(bU:X.N[i]?=J x:=by rfl)(bl:zR X.env.scope x:=by first | exact Or.inl I | exact Or.inr (Or.inl I) | exact Or.inr (Or.inr I))(hd:(x == ("__debug__":af))=ah:=by decide)
  (j0:(x == ("__classdict__":af))=ah:=by decide):bW X (.Name x aO) (wz i):=SK bU bl hd j0
end
theorem eb{A B:Prop}(h:B):if ah=ag then A else B:=by
 rw[if_neg g6]
 exact h
theorem gD{A B:Prop}(h:A):if ag=ag then A else B:=by
 rw[if_pos rfl]
 exact h
theorem ym{c A B:Prop}[Decidable c](hc:c)(h:B):if (!decide c)=ag then A else B:=by
 rw[ek hc]
 exact eb h
def er(H H':au):Prop:=∀ b o,H b=J o->H' b=J o
theorem er.refl(H:au):er H H:=fun _ _ h=>h
theorem er.trans{H H1 ax:au}(a:er H H1)(b:er H1 ax):er H ax:=fun c o h=>b c o (a c o h)
theorem er.free{H H':au}(e:er H H'){l:ae}(h:H' l=Option.none):H l=Option.none:=by
 cases q:H l with
 | none=>rfl
 | some o =>
  rw[e l o q] at h
  cases h
theorem er.seq{K:bO}{H H':au}{a:ae}{xs:List V}(e:er H H')(h:dQ K H a xs):dQ K H' a xs:=by
 rcases h with(h | ⟨o,h⟩) | h
 ·exact .inl (.inl (e _ _ h))
 ·exact .inl (.inr ⟨o,e _ _ h⟩)
 ·exact .inr h
end dg
section
namespace dg
open PySem PySem.Spec PyProof.Rows
section
variable {X:bp}
theorem xh:su X "int.bit_length" (fun x xs H Q=>∃ i,x = .int i/\xs=[]/\Q (.int ((c1.Int.intBits i:Nat):Int)) H):=by
 intro ak s ab H x xs v us Q aa bf dH h
 obtain⟨i,rfl,rfl,q⟩:=h
 obtain⟨t,rfl⟩:=bf
 cases dH
 exact call_gives F.slot_int_bit_length (typeIs_int s i t) F.entry_int_bit_length (F.args_int_bit_length_1 _) (AutoIntG2.int_bit_length_int_0 i t) ⟨.int _,H,aa.tok _,⟨_,I⟩,q⟩
theorem UN:su X "str.startswith" (fun x xs H Q=>∃ y z,x = .str y/\xs=[.str z]/\Q (.aH (Txt.startswith y z)) H):=by
 intro ak s ab H x xs v us Q aa bf dH h
 obtain⟨y,z,rfl,rfl,q⟩:=h
 obtain⟨t,rfl⟩:=bf
 obtain⟨u,rfl,t',rfl⟩:=dH.one
 exact call_gives F.slot_str_startswith (typeIs_str s y t) F.entry_str_startswith (F.args_str_startswith_2 _ _) (gives_str_startswith y z t t') ⟨.aH _,H,aa,I,q⟩
theorem Lv:∀ {aY:List af} {bq:List ao},Vals (aY.map V.str) bq->StrsAre bq aY
 | [],_,.nil => .nil
 | _::_,_,.cons ⟨_,e⟩ r=>by subst e;exact .cons _ _ (Lv r)
theorem vh:su X "str.join" (fun x xs H Q=>∃ y a aY,x = .str y/\xs=[.ref a]/\dQ X.K H a (aY.map V.str)/\(aY.map (·.length)).sum+aY.length*y.length<=16777216/\Q (.str (Txt.join y aY)) H):=by
 intro ak s ab H x xs v us Q aa bf dH h
 obtain⟨y,a,aY,rfl,rfl,aU,bI,q⟩:=h
 obtain⟨t,rfl⟩:=bf
 obtain⟨u,rfl,gG⟩:=dH.one
 cases gG
 obtain⟨bq,r,pl,_⟩:=aa.list aU
 exact join_list pl.isList (by simpa using Lv r) bI fun t' k=>⟨.str _,H,aa.tok _,⟨_,I⟩,q⟩
theorem Wc:dU X (ka .Mult) (fun x y H Q=>∃ z i,x = .str z/\y = .int i/\i<2 ^ 40/\-(2 ^ 40)<i/\z.length*i.toNat<=bT/\Q (.str (Txt.mul z i)) H):=by
 intro ak s ab H x y v u Q aa bf cd h
 obtain⟨z,i,rfl,rfl,aj,ar,bB,q⟩:=h
 obtain⟨t,rfl⟩:=bf
 obtain⟨t',rfl⟩:=cd
 refine SB.mul ⟨?_,fun b0 _=>?_,fun b0 _=>?_⟩ fun t' k=>⟨.str _,H,aa.tok _,⟨_,I⟩,q⟩
 ·simp only[Bool.or_eq_false_iff,decide_eq_false_iff_not];omega
 ·intro c
  have bc:(0:Int)<i:=by omega
  have aje:=v3
  have e:(z.length:Int)*i<=2 ^ 63 - 1:=by
   have:((z.length*i.toNat:Nat):Int)=(z.length:Int)*i:=by rw[Int.natCast_mul];congr 1;omega
   omega
  have:=(Int.le_ediv_iff_mul_le bc).mpr e
  omega
 ·unfold c1.Str.tooLong;simpa using bB
theorem UR:js X (.type "int") (fun xs H Q=>∃ x n,xs=[.str x]/\PySem.intText? x=J n/\x.length<=640/\Q (.int n) H):=by
 intro ak s ab H xs us Q aa r h
 obtain⟨x,n,rfl,bc,aC,q⟩:=h
 obtain⟨u,rfl,t,rfl⟩:=vals1 r
 exact PySem.W.KIN.call_text bc aC ⟨.int n,H,aa.tok _,⟨_,I⟩,q⟩
theorem SE:qK X (fun x lo aB H Q=>∃ z,x = .str z/\z.length<=bT/\Q (.str (Txt.slice z lo aB)) H):=by
 intro ak s ab H x v m8 m9 lo aB c8 Q aa bf hs pl pu h
 obtain⟨z,rfl,bI,q⟩:=h
 obtain⟨t,rfl⟩:=bf
 refine⟨"str",_,F.slot_str_getitem.lookup,typeIs_str s z t,?_⟩
 have cF:∀ (t':Tok) (k:Nat),h4 X ak ab Q (.str (Txt.slice z lo aB) t') {s with toks:=k}:=fun t' k=>⟨.str _,H,aa.tok _,⟨_,rfl⟩,q⟩
 obtain⟨o,aJ,hc,hd⟩:=hs
 cases pl with
 | none =>
  cases pu with
  | none=>exact CP (l:=aw) (u:=aw) (st:=aw) ⟨o,aJ,hc,hd⟩ I (post_val_or_str ⟨ey (Txt.slice_le z _ _) bI,cF⟩)
  | int j IE=>exact CP (l:=aw) (u:=J (j,IE)) (st:=aw) ⟨o,aJ,hc,hd⟩ I (post_val_or_str ⟨ey (Txt.slice_le z _ _) bI,cF⟩)
 | int i PR =>
  cases pu with
  | none=>exact CP (l:=J (i,PR)) (u:=aw) (st:=aw) ⟨o,aJ,hc,hd⟩ I (post_val_or_str ⟨ey (Txt.slice_le z _ _) bI,cF⟩)
  | int j IE=>exact CP (l:=J (i,PR)) (u:=J (j,IE)) (st:=aw) ⟨o,aJ,hc,hd⟩ I (post_val_or_str ⟨ey (Txt.slice_le z _ _) bI,cF⟩)
theorem VW:js X (.builtin "isinstance") (fun xs H Q=>∃ x T t b,xs=[x,.ty T]/\kD X.K H x t/\eU X.K t (.type T)=J b/\Q (.aH b) H):=by
 intro ak s ab H xs us Q aa r h
 obtain⟨x,T,t,b,rfl,ty,e,q⟩:=h
 obtain⟨u,hN,rfl,cp,el⟩:=vals2 r
 cases (show hN=ao.type T from el)
 exact KU aa cp ty e fun cf=>⟨.aH b,H,aa.tok _,I,q⟩
theorem Vp:js X (.builtin "isinstance") (fun xs H Q=>∃ x C t b,xs=[x,.ref C]/\kD X.K H x t/\eU X.K t (.ref C)=J b/\Q (.aH b) H):=by
 intro ak s ab H xs us Q aa r h
 obtain⟨x,C,t,b,rfl,ty,e,q⟩:=h
 obtain⟨u,hN,rfl,cp,el⟩:=vals2 r
 cases (show hN=ao.ref C from el)
 exact KU aa cp ty e fun cf=>⟨.aH b,H,aa.tok _,I,q⟩
end
noncomputable def wX(lo c:Int)(n:Nat):kd:=⟨fun i _=>i<n,fun i H x H'=>H'=H/\x = .int (lo+i*c),fun i _=>n<=i⟩
theorem Vr{P:cX}{w:cu}{K:bO}{en:b2}(it:ae)(lo c:Int)(n:Nat):Turn P w K en (wX lo c n) [it] it (fun i h=>IsRangeIter h it (lo+(i:Nat)*c) ((n:Int) - (i:Nat)) c) where
 mem:=by simp
 obj:=fun i h st b aq=>by
  have e:b=it:=by simpa using aq
  subst e
  exact⟨_,st,fun v z=>by
   have oi:Data.fields _=Data.cell v:=z
   cases oi⟩
 keep:=fun i h h' st k=>k it (by simp) _ st
 item:=by
  intro X ck hw gQ hc i ak s ab H E aa aE st aK
  subst ck hw gQ
  obtain⟨f0,f1,f2,ha,f4,hD⟩:=aE it (by simp)
  have W:=Walks.range (prog:=X.prog) (w:=X.w) (aa.ok.hd hc) it lo c n
  refine W.item i s _ _ aK st fun v h' cf bl i5 ft=>?_
  obtain⟨t,rfl⟩:=bl
  have aS:Inv X ak ab H {s with heap:=h',toks:=cf}:=aa.turned (fun b o aq e=>ft b o (by simpa using aq) e) f0 f1 ha f4 hD
  exact⟨_,I,xC (s:={s with heap:=h',toks:=cf}) (n:="range_iterator") i5 I I (by decide) ⟨.int (lo+i*c),H,aS,⟨t,I⟩,⟨I,I⟩,i5,fun b aq=>(aE b aq).1⟩⟩
 done:=by
  intro X ck hw gQ hc i ak s ab H E aa aE st aK
  subst ck hw gQ
  obtain⟨f0,f1,f2,ha,f4,hD⟩:=aE it (by simp)
  exact wpAny_pyNext_range_end (aa.ok.hd hc) st (by have:n<=i:=aK;omega) fun h' ho=>⟨I,aa.turned (t':=s.toks) (fun b o aq e=>ho b o aq e) f0 f1 ha f4 hD⟩
 self:=fun _ _ _ _ _ st h=>wpAny_pyIter_rangeiter st h
section
variable {X:bp} {en:b2}
def acu(bS:gw):dW:=fun ab H R=>bS ab H fun vs H1=>∃ i j:Int,vs=[.int i,.int j,.int (-1)]/\(-(2 ^ 61)<=i/\i<2 ^ 61/\-(2 ^ 61)<=j/\j<2 ^ 61)/\R (wX i (-1) (i - j).toNat) H1
end
section
variable {X:bp} {en:b2}
theorem V3{a b:Int}(ba : -(2 ^ 61)<=a)(Bu:a<2 ^ 61)(aq : -(2 ^ 61)<=b)(iZ:b<2 ^ 61):c1.Range.small a b (-1)=ag:=by
 unfold c1.Range.small c1.Range.rangeSize
 simp only[c1.Range.rangeFitsLong,h7,Bool.or_eq_true,jQ,beq_iff_eq,show ¬((-1:Int) > 0) by decide,if_false,Int.neg_neg,Int.ediv_one]
 split<;>omega
theorem Ul(a b:Int):c1.Range.rangeSize a b (-1)=(((a - b).toNat:Nat):Int):=by
 unfold c1.Range.rangeSize
 rw[if_neg (by decide)]
 simp only[Int.neg_neg,Int.ediv_one]
 split<;>omega
theorem KG{a b c:b2}{bS:gw}{p aO:Pos}(aK:h5 X "range")(hm:X.mg "range"=aw)(ba:hx X [a,b,c] bS)
  (hs:df [a,b,c] X.env=[(ah,eval a X.env),(ah,eval b X.env),(ah,eval c X.env)]:=by rfl) (hF:df [b,c] X.env=[(ah,eval b X.env),(ah,eval c X.env)]:=by rfl) :
  iO X en (.Call (.Name "range" p) [a,b,c] [] aO) (acu bS):=by
 intro ak s ab H R aa h
 refine Call_ (oF aa aK hm boot_range (PyProof.Rows.callWith_type1 (cz (ba aO ak s ab H _ aa h) fun us s1 ⟨vs,H1,aS,cp,cD⟩=>?_) (by rw[hs,hF]) (by rw[hF];rfl)))
 obtain⟨i,j,e,⟨cD,cE,fL,wh⟩,q⟩:=cD
 subst e
 cases cp with
 | cons r lH =>
  cases lH with
  | cons e2 lH =>
   cases lH with
   | cons af8 lH =>
    cases lH
    obtain⟨t,rfl⟩:=r
    obtain⟨t',rfl⟩:=e2
    obtain⟨agG,rfl⟩:=af8
    refine call_range_3 (by decide) ?_ (.inl (PyProof.noPylong_small (by decide)))
    refine wpAny_pyIter_range (IsRange.new ..) (V3 cD cE fL wh) ?_
    have bA:Inv X ak ab H1 {s1 with heap:=s1.heap.push {cls := .type "range",data := .fields #[.int i t,.int j t',.int (-1) agG]}}:=aS.kept (t':=s1.toks) fun b o e=>d7 _ e
    refine⟨_,[_],_,_,H1,I,bA.kept (t':=s1.toks) fun b o e=>d7 _ e,Vr _ i (-1) (i - j).toNat,?_,fun b aq=>?_,q⟩
    ·have aG:i+((0:Nat):Int)*(-1)=i:=by simp
     have aL:(((i - j).toNat:Nat):Int) - ((0:Nat):Int)=c1.Range.rangeSize i j (-1):=by rw[Ul];simp
     show IsRangeIter _ _ (i+((0:Nat):Int)*(-1)) ((((i - j).toNat:Nat):Int) - ((0:Nat):Int)) (-1)
     rw[aG,aL]
     exact gU _ I
    ·have e:=fy.mp aq
     subst e
     exact bA.pS (cx _) (bA.aR.fresh (cx _))
end
noncomputable def uD(x:af):kd:=⟨fun i _=>i<x.cps.size,fun i H v H'=>H'=H/\∃ c,x.cps[i]?=J c/\v = .str ⟨#[c]⟩,fun i _=>x.cps.size<=i⟩
section
variable {X:bp} {en:b2}
theorem K7{P:cX}{w:cu}{K:bO}{en:b2}(x:af)(it:ae)(n:String)(t:Tok)(W:∀ uj:da,uj.handled=aw->Walks P w uj it [it] [it] x.cps.size (SignAt x) (fun i h=>h.IsStrIter it n x t i))
  (bc:["enumerate","zip","dict_itemiterator","dict_reverseitemiterator","odict_iterator","itertools.zip_longest","itertools.pairwise"].contains n=ah)
  (aaP:∀ (A:da) (i:Nat) (s:aI) (Q:Option ao->aI->Prop) (E:ao->aI->Prop),A.handled=aw->s.heap.IsStrIter it n x t i->x.cps.size<=i->(∀ h',(∀ b o,b≠it->s.heap.get? b=J o->h'.get? b=J o)->Q aw {s with heap:=h'})->bE (model P w) A (pyNext (.ref it)) Q E s)
  (abQ:∀ (A:da) (i:Nat) (s:aI) (Q:ao->aI->Prop) (E:ao->aI->Prop),s.heap.IsStrIter it n x t i->Q (.ref it) s->bE (model P w) A (pyIter (.ref it)) Q E s) :
  Turn P w K en (uD x) [it] it (fun i h=>h.IsStrIter it n x t i) where
 mem:=by simp
 obj:=fun i h st b aq=>by
  have e:b=it:=by simpa using aq
  subst e
  obtain⟨o,aJ,hc,hd⟩:=st
  exact⟨o,aJ,fun v z=>by rw[hd] at z;cases z⟩
 keep:=fun i h h' st k=>by
  obtain⟨o,aJ,r⟩:=st
  exact⟨o,k it (by simp) o aJ,r⟩
 item:=by
  intro X ck hw gQ hc i ak s ab H E aa aE st aK
  subst ck hw gQ
  obtain⟨f0,f1,f2,ha,f4,hD⟩:=aE it (by simp)
  refine(W X.A (aa.ok.hd hc)).item i s _ _ aK st fun v h' cf bl i5 ft=>?_
  obtain⟨c,u,oR,rfl⟩:=bl
  have aS:Inv X ak ab H {s with heap:=h',toks:=cf}:=aa.turned (fun b o aq e=>ft b o (by simpa using aq) e) f0 f1 ha f4 hD
  obtain⟨o,aJ,p4,hd⟩:=id i5
  exact⟨_,I,xC (s:={s with heap:=h',toks:=cf}) (n:=n) aJ p4 hd bc ⟨.str ⟨#[c]⟩,H,aS,⟨u,I⟩,⟨I,c,oR,I⟩,i5,fun b aq=>(aE b aq).1⟩⟩
 done:=by
  intro X ck hw gQ hc i ak s ab H E aa aE st aK
  subst ck hw gQ
  obtain⟨f0,f1,f2,ha,f4,hD⟩:=aE it (by simp)
  exact aaP X.A i s _ _ (aa.ok.hd hc) st aK fun h' ho=>⟨I,aa.turned (t':=s.toks) (fun b o aq e=>ho b o aq e) f0 f1 ha f4 hD⟩
 self:=fun A i s Q E st h=>abQ A i s Q E st h
def NF(dr:TE):dW:=fun ab H R=>dr ab H fun x H1=>∃ y,x = .str y/\R (uD y) H1
theorem SI{l:b2}{dr:TE}(aC:bW X l dr):iO X en l (NF dr):=by
 intro ak s ab H R aa h
 refine cz (aC ak s ab H _ aa h) fun v s1 bD=>?_
 obtain⟨x,H1,aS,cp,cD⟩:=bD
 obtain⟨y,e,q⟩:=cD
 subst e
 obtain⟨t,rfl⟩:=cp
 have cF:∀ (o:bo) (cH:Nat->aX->Prop),Turn X.prog X.w X.K en (uD y) [s1.heap.objs.size] s1.heap.objs.size cH->cH 0 (s1.heap.push o)->Dj X ak ab en R (.ref s1.heap.objs.size) {s1 with heap:=s1.heap.push o}:=fun o cH T bu=>by
  refine⟨s1.heap.objs.size,[s1.heap.objs.size],cH,uD y,H1,I,aS.kept (t':=s1.toks) fun b o e=>d7 _ e,T,bu,fun b aq=>?_,q⟩
  have e:=fy.mp aq
  subst e
  exact aS.pS (cx _) (aS.aR.fresh (cx _))
 cases ba:y.cps.all (· < 128)
 ·refine wpAny_pyIter_wide ba (cF _ _ (K7 y _ "str_iterator" t (fun uj kO=>Walks.strWide kO _ y t) (by decide) (fun A i s Q E fp st aB fF=>?_) fun A i s Q E st aU=>wpAny_pyIter_striter_wide st aU) ⟨_,gU _ I,I,I⟩)
  exact wpAny_pyNext_wide_end fp st (by simpa using aB) fun h' tk=>fF h' fun b o aq e=>tk b o aq e
 ·refine wpAny_pyIter_ascii ba (cF _ _ (K7 y _ "str_ascii_iterator" t (fun uj kO=>Walks.strAscii kO _ y t) (by decide) (fun A i s Q E fp st aB fF=>?_) fun A i s Q E st aU=>wpAny_pyIter_striter_ascii st aU) ⟨_,gU _ I,I,I⟩)
  exact wpAny_pyNext_ascii_end fp st (by simpa using aB) fun h' tk=>fF h' fun b o aq e=>tk b o aq e
end
noncomputable def xH(sc:Scope)(cs:List af):Bool :=
 sc.kind == .function&&sc.names.all (fun y=>y.2 != .cell)&&sc.names.all (fun y=>y.2 != .local||sc.names.lookup y.1 == J .local) &&
  sc.names.all (fun y=>y.2 != .free||cs.contains y.1)&&cs.all (fun x=>sc.names.lookup x == J .free)
noncomputable def qv(X:bp):List (Nat×af)->Prop
 | []=>True
 | (j,x)::r=>X.N[j]?=J x/\(X.env.kindOf x=J .cell\/X.env.kindOf x=J .free)/\qv X r
theorem qv.at{X:bp}:∀ {cs:List (Nat×af)},qv X cs->∀ p∈cs,X.N[p.1]?=J p.2/\(X.env.kindOf p.2=J .cell\/X.env.kindOf p.2=J .free)
 | [],_,_,h=>nomatch h
 | (j,x)::r,⟨aj,ar,bB⟩,p,h=>by
  rcases dn.mp h with e | e
  ·subst e;exact⟨aj,ar⟩
  ·exact qv.at bB p e
noncomputable def FR(X:bp)(cI:Scope)(cl:List (af×ae))(C:ae)(N:List af)(s2:aI)(ax:au)(bH:List ae):bp where
 prog:=X.prog
 w:=X.w
 K:=X.K
 mg:=X.mg
 base:=X.base
 A:=X.A
 N:=N
 de:=s2
 g4:=ax
 env:=compEnvC cI cl C X.env
 outer:=X.stack
 stack:=X.stack
 ex:=bH
 calm:=X.calm
 fn:=fun _=>ah
 pn:=[]
 xe:=fun _ _=>False
theorem Ew{env:Env}:∀ (names:List (af×jo)),(∀ y∈names,y.2 = .free->∃ c,env.cells.lookup y.1=J c)->
  ∀ acc:List (af×ae),(∀ x c,acc.lookup x=J c->env.cells.lookup x=J c)->∃ cl,
  (forIn names acc fun(x:af×jo) r=>do
   if x.2 == .free then pure (ForInStep.yield ((x.1,<- cellOf env x.1)::r)) else pure (ForInStep.yield r):Sem (List (af×ae)))=pure cl/\
  (∀ x c,cl.lookup x=J c->env.cells.lookup x=J c)/\(∀ y∈names,y.2 = .free->∃ c,cl.lookup y.1=J c)/\∀ x c,acc.lookup x=J c->∃ ia,cl.lookup x=J ia
 | [],_,acc,ba=>⟨acc,rfl,ba,(fun _ h=>nomatch h),fun _ c h=>⟨c,h⟩⟩
 | (n,k)::r,bc,acc,ba=>by
  by_cases hk:k = .free
  ·subst hk
   obtain⟨c,hc⟩:=bc _ hz rfl
   have Bu:∀ x ia,((n,c)::acc).lookup x=J ia->env.cells.lookup x=J ia:=fun x ia e=>by
    rw[List.lookup_cons] at e
    by_cases ay:x=n
    ·subst ay
     rw[beq_self_eq_true] at e
     cases e
     exact hc
    ·rw[beq_false_of_ne ay] at e
     exact ba x ia e
   obtain⟨cl,e,aj,ar,bB⟩:=Ew r (fun y bM=>bc y (fk _ bM)) ((n,c)::acc) Bu
   refine⟨cl,?_,aj,fun y bM aE=>?_,fun x ia ay=>?_⟩
   ·rw[List.forIn_cons]
    simp only[cellOf,hc,beq_self_eq_true,if_true]
    exact e
   ·rcases dn.mp bM with e' | e'
    ·subst e'
     exact bB n c (by rw[List.lookup_cons,beq_self_eq_true])
    ·exact ar y e' aE
   ·by_cases Nz:x=n
    ·subst Nz
     exact bB x c (by rw[List.lookup_cons,beq_self_eq_true])
    ·exact bB x ia (by rw[List.lookup_cons,beq_false_of_ne Nz];exact ay)
  ·obtain⟨cl,e,aj,ar,bB⟩:=Ew r (fun y bM=>bc y (fk _ bM)) acc ba
   refine⟨cl,?_,aj,fun y bM aE=>?_,bB⟩
   ·rw[List.forIn_cons]
    have aq:(k == jo.free)=ah:=by simpa using hk
    simp only[aq,Bool.false_eq_true,if_false]
    exact e
   ·rcases dn.mp bM with e' | e'
    ·subst e'
     exact absurd aE hk
    ·exact ar y e' aE
def ot(dD:kd)(g:gK)(fM:gL)(cn:TE)(Q:bx)(fO:St)(H1:au)(D:ae):Prop :=
 ∃ W:Nat->Nat->St->au->Prop,(∃ m,W 0 m fO (upd H1 D (.lst [])))/\∀ i m b8 ax,W i m b8 ax->
  (dD.stop i ax/\Q (.ref D) ax)\/
  (dD.go i ax/\∀ x bt,dD.pa i ax x bt->g x b8 bt fun bR g0=>fM bR g0 fun b fg =>
   if b=ag then cn bR fg fun y e3=>∃ xs b1,e3 D=J (.lst xs)/\xs.length<bT/\b1<m/\W (i+1) b1 bR (upd e3 D (.lst (xs++[y])))
   else ∃ b1,b1<m/\W (i+1) b1 bR fg)
def Ct(hO:dW)(g:gK)(fM:gL)(cn:TE)(fO:St->St):TE:=fun ab H Q=>hO ab H fun dD H1=>∀ D,H1 D=aw->ot dD g fM cn Q (fO ab) H1 D
def rN:gL:=fun _ H Q=>Q ag H
def sx(X:bp)(ifs:List b2)(t:gL):Prop :=
 ∀ (ak:List (ae×bo)) (s:aI) (ab:St) (H:au) (Q:Bool->au->Prop),Inv X ak ab H s->t ab H Q->
  bE (model X.prog X.w) X.A (forIn ifs ag fun c r=>if r=ag then do let ok <- isTrue c X.env (eval c X.env);pure (ForInStep.yield ok) else pure (ForInStep.yield r)) (zM X ak ab Q) X.xe s
theorem iE{X:bp}:sx X [] rN:=fun _ _ _ H _ aa h=>wpAny_tests_nil ⟨H,aa,h⟩
theorem RN{X:bp}{c:b2}{t:gL}(h:jO X c t):sx X [c] t:=fun ak s ab H Q aa q=>wpAny_tests_one (h ak s ab H Q aa q)
section
variable {prog:cX} {w:cu} {A:da} {E:ao->aI->Prop} {R:Result->aI->Prop} {s:aI}
theorem Vo{elt hQ iter:b2}{ifs:List b2}{cI:Scope}{aO:Pos}{it acc:ao}{env:Env}(aa:Nat->aI->Prop)
  (turn:∀ n s,aa n s->bE (model prog w) A (pyNext it) (fun r dx=>match r with
   | none=>R (.ok .next) dx
   | some v=>bE (model prog w) A (letOwnedTupleGo hQ it v) (fun _ PB=>bE (model prog w) A (assign hQ env v) (fun _ m5 =>
     bE (model prog w) A (forIn ifs ag fun c r=>if r=ag then do let ok <- isTrue c env (eval c env);pure (ForInStep.yield ok) else pure (ForInStep.yield r)) (fun ok rM =>
      if ok=ag then bE (model prog w) A (eval elt env) (fun x PC =>
       bE (model prog w) A (call (.builtin "list.append") [acc,x]) (fun _ PD=>∃ m,m<n/\aa m PD) (notedBy (model prog w) A env fun e aF=>R (.error e) aF) PC) (notedBy (model prog w) A env fun e aF=>R (.error e) aF) rM
      else ∃ m,m<n/\aa m rM) (notedBy (model prog w) A env fun e aF=>R (.error e) aF) m5) (notedBy (model prog w) A env fun e aF=>R (.error e) aF) PB) (notedBy (model prog w) A env fun e aF=>R (.error e) aF) dx) (notedBy (model prog w) A env fun e aF=>R (.error e) aF) s)
  (n:Nat) (h:aa n s) :
  kA (model prog w) A (.compLoop (.ListComp elt [⟨hQ,iter,ifs,0⟩] cI aO) 0 it acc env) R s:=by
 refine codeAny_loop I aa (fun n s ef=>?_) n h
 show bE _ A ((compTurn (.ListComp elt [⟨hQ,iter,ifs,0⟩] cI aO) 0 it acc env).onRaise (fun x=>do noteFrame x env;theTreesLotGoes x)) _ _ s
 refine wpAny_noted ?_
 rw[compTurn_list]
 refine bC (wpAny_standAt (bC (ja (turn n s ef) (fun r dx hr=>?_) fun _ _ h'=>h')))
 cases r with
 | none=>exact dv hr
 | some v =>
  refine bC (ja hr (fun _ PB ach=>?_) fun _ _ h'=>h')
  refine bC (ja ach (fun _ m5 aci=>bC (ja aci (fun ok rM BR=>?_) fun _ _ h'=>h')) fun _ _ h'=>h')
  cases ok with
  | false=>exact dv ⟨I,BR⟩
  | true =>
   exact bC (bC (ja BR (fun x PC acj=>bC (ja acj (fun _ PD ack=>dv (dv ⟨I,ack⟩)) fun _ _ h'=>h')) fun _ _ h'=>h'))
end
section
variable {X:bp} {elt hQ iter:b2} {ifs:List b2} {cI:Scope} {aO p:Pos} {eP:List (Nat×af)} {fN:List af} {hO:dW} {g:gK} {fM:gL} {cn:TE}
noncomputable def nN(fN:List af)(eP:List (Nat×af)):St->St:=fun ab=>List.replicate fN.length aw++eP.map fun p=>(ab[p.1]?).join
theorem J9{env:Env}:∀ {names:List (af×jo)} {x:af},names.lookup x=J .free->
  ((names.map fun(n,k)=>if (k == jo.free&&env.scope.kind == .function&&env.kindOf n == J .cell) then (n,jo.cell) else (n,k)).lookup x=J .cell\/
   (names.map fun(n,k)=>if (k == jo.free&&env.scope.kind == .function&&env.kindOf n == J .cell) then (n,jo.cell) else (n,k)).lookup x=J .free)
 | [],_,h=>by cases h
 | (n,k)::r,x,h=>by
  rw[List.lookup_cons] at h
  rw[jw]
  by_cases ay:x=n
  ·subst ay
   rw[beq_self_eq_true] at h
   cases h
   dsimp only
   split
   ·exact .inl (by rw[List.lookup_cons,beq_self_eq_true])
   ·exact .inr (by rw[List.lookup_cons,beq_self_eq_true])
  ·rw[beq_false_of_ne ay] at h
   have cA:=J9 (env:=env) h
   dsimp only
   split<;>(rw[List.lookup_cons,beq_false_of_ne ay];exact cA)
theorem Ka{env:Env}:∀ {names:List (af×jo)} {x:af},((names.map fun(n,k)=>if (k == jo.free&&env.scope.kind == .function&&env.kindOf n == J .cell) then (n,jo.cell) else (n,k)).lookup x=J .cell\/
   (names.map fun(n,k)=>if (k == jo.free&&env.scope.kind == .function&&env.kindOf n == J .cell) then (n,jo.cell) else (n,k)).lookup x=J .free)->(∀ y∈names,y.2≠.cell)->names.lookup x=J .free
 | [],_,h,_=>by rcases h with h | h<;>cases h
 | (n,k)::r,x,h,bc=>by
  rw[List.lookup_cons]
  by_cases ay:x=n
  ·subst ay
   rw[beq_self_eq_true]
   have hk:=bc _ hz
   rw[jw] at h
   dsimp only at h
   split at h
   ·rename_i c
    simp only[h7,beq_iff_eq] at c
    exact congrArg J c.1.1
   ·rw[List.lookup_cons,beq_self_eq_true] at h
    rcases h with h | h
    ·cases h;exact absurd I hk
    ·exact h
  ·rw[beq_false_of_ne ay]
   refine Ka (env:=env) ?_ fun y bM=>bc y (fk _ bM)
   rw[jw] at h
   dsimp only at h
   split at h<;>(rw[List.lookup_cons,beq_false_of_ne ay] at h;exact h)
theorem Dm:∀ {names:List (af×jo)} {x:af} {k:jo},names.lookup x=J k->(x,k)∈names
 | [],_,_,h=>by cases h
 | (n,eD)::r,x,k,h=>by
  rw[List.lookup_cons] at h
  by_cases ay:x=n
  ·subst ay
   rw[beq_self_eq_true] at h
   cases h
   exact hz
  ·rw[beq_false_of_ne ay] at h
   exact fk _ (Dm h)
set_option maxHeartbeats 1000000
noncomputable abbrev uk(α:Type):=List (af×ae)->ae->aI->au->List ae->α
end
noncomputable def mB(H:au)(a:ae):cv->Prop
 | .ins _ al _=>H al=J (.own a)
 | .iG _ u=>mB H a u
 | _=>True
def kb(H:au):Prop:=∀ a o,H a=J o->mB H a o
theorem mB.of{P:cX}{w:cu}{H:au}{h:aX}{a:ae}{o:cv}(x:gg P w H h a o):mB H a o:=by
 induction o with
 | ins C al fs=>exact x.1
 | iG dC u cA=>exact cA x.2
 | _=>trivial
theorem fh.closed{P:cX}{w:cu}{H:au}{h:aX}(x:fh P w H h):kb H:=fun a o e=>mB.of (x a o e)
theorem mB.mono{H H':au}{a:ae}{o:cv}(s:∀ b u,H b=J u->H' b=J u)(x:mB H a o):mB H' a o:=by
 induction o with
 | ins C al fs=>exact s _ _ x
 | iG dC u cA=>exact cA x
 | _=>trivial
theorem gg.sub{P:cX}{w:cu}{H H':au}{h:aX}{a:ae}{o:cv}(x:gg P w H' h a o)(tN:mB H a o):gg P w H h a o:=by
 induction o with
 | ins C al fs=>exact⟨tN,x.2⟩
 | iG dC u cA=>exact⟨x.1,cA x.2 tN⟩
 | lst _=>exact x
 | tup _=>exact x
 | l2 _=>exact x
 | oI _=>exact x
 | set _ _=>exact x
 | own _=>exact x
 | iL _=>exact x
 | met _ _=>exact x
 | yF _ _=>exact x
 | qp _=>exact x
 | ext _=>exact x
structure Sub(H bY H':au):Prop where
 le:er bY H'
 ge:∀ b o,H b=J o->∃ u,bY b=J u
 cl:kb H->kb bY
theorem Sub.refl{H H':au}(h:er H H'):Sub H H H':=⟨h,fun _ o e=>⟨o,e⟩,id⟩
theorem Sub.all{H H':au}(h:∀ b o,H b=J o->∃ u,H' b=J u)(c:kb H->kb H'):Sub H H' H':=⟨er.refl _,h,c⟩
theorem cL{H:au}{p:ae}{o:cv}(h:H p=aw):er H (upd H p o):=fun b u q=>by rw[bJ (eO q h)];exact q
theorem sj{H:au}{p:ae}{o:cv}(c:kb H)(h:H p=aw)(aJ:mB (upd H p o) p o):kb (upd H p o):=fun a u e=>by
 by_cases z:a=p
 ·subst z;rw[aM] at e;cases e;exact aJ
 ·rw[bJ z] at e
  exact(c a u e).mono (cL h)
theorem Sub.new{H H':au}{p:ae}{o:cv}(h:H p=aw)(hs:er H H')(e:H' p=J o)(aJ:mB (upd H p o) p o):Sub H (upd H p o) H' :=
 ⟨fun b u q=>by
  by_cases z:b=p
  ·subst z;rw[aM] at q;cases q;exact e
  ·rw[bJ z] at q;exact hs b u q,fun b u q=>⟨u,cL h b u q⟩,fun c=>sj c h aJ⟩
theorem Sub.ins{H H':au}{p C al:ae}{fs tc:List (af×V)}(h:H p=J (.ins C al fs))(hs:∀ b u,b≠p->H b=J u->H' b=J u)(e:H' p=J (.ins C al tc)):Sub H (upd H p (.ins C al tc)) H' :=
 ⟨fun b u q=>by
  by_cases z:b=p
  ·subst z;rw[aM] at q;cases q;exact e
  ·rw[bJ z] at q;exact hs b u z q,fun b u q=>by
  by_cases z:b=p
  ·subst z;exact⟨_,aM⟩
  ·exact⟨u,by rw[bJ z];exact q⟩,fun c a u q=>by
  have hd:H al=J (.own p):=c p _ h
  have br:al≠p:=fun z=>by rw[z,h] at hd;cases hd
  by_cases z:a=p
  ·subst z;rw[aM] at q;cases q
   show upd H a _ al=_
   rw[bJ br];exact hd
  ·rw[bJ z] at q
   have x:=c a u q
   revert x
   generalize u=o
   clear q
   induction o with
   | ins wL d' ai5 =>
    intro (x:H d'=J (.own a))
    show upd H p _ d'=_
    rw[bJ (fun y=>by rw[y,h] at x;cases x)];exact x
   | iG dC u cA=>intro x;exact cA x
   | _=>intro _;trivial⟩
section
variable {X:bp} {ak:List (ae×bo)} {ab:St} {H H' bY:au} {s s0:aI}
theorem fB.sub{fs ex:List ae}{C6:au}{h aj ar:aX}(rQ:fB fs ex C6 H h aj)(u:fB fs ex C6 H' h ar)(d:Sub H bY H'):fB fs ex C6 bY h ar:=by
 refine⟨u.keep,u.slot,fun b o e n ay=>?_,u.there,fun b xs e=>?_,fun b o v e=>?_,fun b ps e=>?_⟩
 ·cases q:bY b with
  | none=>rfl
  | some v=>have:=d.le b v q;rw[u.free b o e n ay] at this;cases this
 ·obtain⟨v,bl⟩:=d.ge b _ (rQ.lL b xs e)
  have:=d.le b v bl;rw[u.lL b xs e] at this;cases this;exact bl
 ·obtain⟨z,bl⟩:=d.ge b _ (rQ.kM b o v e)
  have:=d.le b z bl;rw[u.kM b o v e] at this;cases this;exact bl
 ·obtain⟨m0,eL⟩:=rQ.lK b ps e
  obtain⟨z,bl⟩:=d.ge b _ eL
  obtain⟨m,aG⟩:=u.lK b ps e
  have:=d.le b z bl;rw[aG] at this;cases this;exact⟨m,bl⟩
theorem fh.sub{P:cX}{w:cu}{h:aX}(x:fh P w H' h)(c:kb bY)(d:er bY H'):fh P w bY h:=fun a o e=>(x a o (d a o e)).sub (c a o e)
theorem Inv.sub{fO:St}(Je:Inv X ak fO H s0)(aa:Inv X ak ab H' s)(d:Sub H bY H'):Inv X ak ab bY s :=
 ⟨aa.ok,aa.os,aa.bare,Je.base.sub aa.base d,aa.loc,aa.cell,d.le.free aa.free,fun x c e=>d.le.free (aa.jY x c e),
  fun p bh=>let ⟨a,b,c⟩:=aa.pin p bh;⟨a,d.le.free b,c⟩,aa.aR.sub (d.cl Je.aR.closed) d.le,aa.len⟩
end
theorem cg.keep{P:cX}{w:cu}{K:bO}{mg:af->Option ao}{base:aX}{k:Nat}{f:ae}{fd:fu}{ps:List af}{sp rI:b5}(F:cg P w K mg base dk k f fd ps sp)
  (h:∀ vs H Q E,rI vs H Q E->sp vs H (fun v H'=>∃ bY,Sub H bY H'/\Q v bY) E):cg P w K mg base dk k f fd ps rI:=by
 refine⟨fun vs H Q E q=>F.len vs H _ E (h vs H Q E q),fun A outer s H args us vs Q E az eL aq r q=>lP (F.run A outer s H args us vs _ E az eL aq r (h vs H Q E q)) fun rs aF c=>?_⟩
 cases rs with
 | error e=>exact c
 | ok dq =>
  cases dq with
  | ret u =>
   obtain⟨v,H',os,bare,un,aR,dH,bY,d,iA⟩:=c
   exact⟨v,bY,os,bare,fB.sub (fB.refl (h:=s.heap)) un d,aR.sub (d.cl eL.aR.closed) d.le,dH,iA⟩
  | next=>exact c
  | brk=>exact c
  | cont=>exact c
theorem c2.N3{P:cX}{w:cu}{K:bO}{mg:af->Option ao}{base:aX}{x dy:af}{st:bj}{f:ae}{fd:fu}{N ps:List af}{k:Nat}{sp:b5}(F:c2 K x dy st f fd)(S:bZ N ps (bF st))(len:∀ vs H Q E,sp vs H Q E->vs.length=ps.length)
  (jj:∀ (bb:ao) (A:da) (outer:List Env) (s:aI) (H:au) (vs:List V) (Q:bx) (E:bP),e4 k (A.deeper (envOfC dy (bF st) s.heap.objs.size f bb))->sp vs H Q E->
   ∃ t,hj (jV dk P w K mg base N dy (bF st) f bb A outer s H E).rA (iw st) t/\t {nx:=fun _ H'=>∃ bY,Sub H bY H'/\Q .bL bY,rt:=fun v H'=>∃ bY,Sub H bY H'/\Q v bY} (start N vs) H):cg P w K mg base dk (k+1) f fd ps sp :=
 (F.ok (sp:=fun vs H Q E=>∃ fX,Q=(fun v H'=>∃ bY,Sub H bY H'/\fX v bY)/\sp vs H fX E) S (fun vs H Q E ⟨fX,_,h⟩=>len vs H fX E h) (fun bb A outer s H vs Q E az ⟨fX,e,h⟩=>by
  subst e
  exact jj bb A outer s H vs fX E az h)).keep fun vs H Q E h=>⟨Q,rfl,h⟩
end dg
end
section
namespace gf
noncomputable def d4(n:Nat):Nat->List Bool
 | 0=>[]
 | w+1=>n.testBit w::d4 n w
noncomputable def aZ(n:Nat):Nat:=if n=0 then 0 else n.log2+1
noncomputable def lq(n:Nat):List Bool:=d4 n (aZ n)
theorem kF(n w:Nat):(d4 n w).length=w:=by
 induction w with
 | zero=>rfl
 | succ w cA=>simp[d4,cA]
theorem Ah(n:Nat):(lq n).length=aZ n:=kF _ _
theorem qS(n:Nat):n<2 ^ aZ n:=by
 unfold aZ
 split
 ·omega
 ·exact Nat.lt_log2_self
theorem hn{n w:Nat}(h:n<2 ^ w):aZ n<=w:=by
 unfold aZ
 split
 ·omega
 ·rename_i bu
  exact(Nat.log2_lt bu).mpr h
theorem pB{n:Nat}(h:n≠0):0<aZ n:=by unfold aZ;rw[if_neg h];omega
theorem LN{n:Nat}(h:n≠0):2 ^ (aZ n - 1)<=n:=by
 unfold aZ;rw[if_neg h];exact Nat.log2_self_le h
theorem Sr{n k:Nat}(aj:2 ^ k<=n)(ar:n<2 ^ (k+1)):aZ n=k+1:=by
 have bu:n≠0:=by have:0<2 ^ k:=Nat.two_pow_pos k;omega
 have a:=hn ar
 have b:=qS n
 have:¬aZ n<=k:=fun q=>by
  have:=Nat.pow_le_pow_right (n:=2) (by decide) q
  omega
 omega
theorem J5(n:Nat)(b:Bool):(2*n+b.toNat).testBit 0=b:=by
 cases b<;>simp[Nat.testBit_zero]<;>omega
theorem Kq(n k:Nat)(b:Bool):(2*n+b.toNat).testBit (k+1)=n.testBit k:=by
 rw[Nat.testBit_succ]
 congr 1
 cases b<;>simp<;>omega
theorem WA(n w:Nat)(b:Bool):d4 (2*n+b.toNat) (w+1)=d4 n w++[b]:=by
 induction w with
 | zero=>simp only[d4,List.nil_append,J5]
 | succ w cA =>
  rw[d4,cA,Kq]
  rfl
theorem Kv{n:Nat}(h:n≠0)(b:Bool):aZ (2*n+b.toNat)=aZ n+1:=by
 have aj:=LN h
 have ar:=qS n
 have bB:=pB h
 obtain⟨k,e⟩:∃ k,aZ n=k+1:=⟨aZ n - 1,by omega⟩
 rw[e] at aj ar ⊢
 have aq:b.toNat<=1:=by cases b<;>simp
 have q5:2 ^ k<=n:=aj
 have aG:2 ^ (k+1)=2 ^ k*2:=Nat.pow_succ ..
 have aL:2 ^ (k+1+1)=2 ^ (k+1)*2:=Nat.pow_succ ..
 exact Sr (k:=k+1) (by omega) (by omega)
theorem Xk{n:Nat}(h:n≠0)(b:Bool):lq (2*n+b.toNat)=lq n++[b]:=by
 unfold lq;rw[Kv h,WA]
theorem Xi:lq 0=[]:=rfl
theorem Xj{n:Nat}(h:n≠0):lq n=lq (n/2)++[decide (n%2=1)]:=by
 have e:n=2*(n/2)+(decide (n%2=1)).toNat:=by
  by_cases q:n%2=1
  ·simp[q];omega
  ·simp[q];omega
 by_cases bu:n/2=0
 ·have:n=1:=by omega
  subst this
  decide
 ·conv=>lhs;rw[e]
  exact Xk bu _
noncomputable def mm(a:Nat)(l:List Bool):Nat:=l.foldl (fun x b=>2*x+b.toNat) a
theorem aiM(a:Nat):mm a []=a:=rfl
theorem E8(a:Nat)(b:Bool)(l:List Bool):mm a (b::l)=mm (2*a+b.toNat) l:=rfl
theorem RL(a n w:Nat):mm a (d4 n w)=a*2 ^ w+n%2 ^ w:=by
 induction w generalizing a with
 | zero=>simp[d4,mm,Nat.mod_one]
 | succ w cA =>
  rw[d4,E8,cA]
  have h:n%2 ^ (w+1)=(n.testBit w).toNat*2 ^ w+n%2 ^ w:=by
   rw[Nat.pow_succ,Nat.mod_mul,Nat.testBit_eq_decide_div_mod_eq,Nat.add_comm,Nat.mul_comm]
   congr 1
   have:n/2 ^ w%2<2:=Nat.mod_lt _ (by decide)
   by_cases q:n/2 ^ w%2=1
   ·simp[q]
   ·have:n/2 ^ w%2=0:=by omega
    simp[this]
  rw[h,Nat.pow_succ,Nat.add_mul]
  have e:2*a*2 ^ w=a*(2 ^ w*2):=by rw[Nat.mul_comm 2 a,Nat.mul_assoc,Nat.mul_comm 2 (2 ^ w)]
  omega
theorem LW{n:Nat}(h:n≠0):mm 1 (d4 n (aZ n - 1))=n:=by
 rw[RL,Nat.one_mul]
 have aj:=LN h
 have ar:=qS n
 have bB:=pB h
 have e:2 ^ aZ n=2 ^ (aZ n - 1)*2:=by rw[<- Nat.pow_succ];congr 1;omega
 have:n%2 ^ (aZ n - 1)=n - 2 ^ (aZ n - 1):=by
  rw[Nat.mod_eq_sub_mod aj,Nat.mod_eq_of_lt (by omega)]
 omega
noncomputable def jU(e:Nat):List Bool:=if e=8 then [] else [ah]
noncomputable def cnt(n:Nat):List Bool :=
 List.replicate (aZ (aZ (n+1)) - 1) ag++(jU (aZ (aZ (n+1)))++(d4 (aZ (n+1)) (aZ (aZ (n+1)) - 1)++d4 (n+1) (aZ (n+1) - 1)))
theorem Ap{n:Nat}(h:n+1<2 ^ 255):(cnt n).length<=aZ (n+1)+14:=by
 unfold cnt
 have hd:aZ (n+1)<=255:=hn h
 have he:aZ (aZ (n+1))<=8:=hn (by omega)
 have aU:0<aZ (n+1):=pB (by omega)
 simp only[dI,List.length_replicate,kF]
 have:(jU (aZ (aZ (n+1)))).length<=if aZ (aZ (n+1))=8 then 0 else 1:=by
  unfold jU;split<;>simp
 split at this<;>omega
noncomputable def iB(n:Int):List Bool:=if n<0 then ah::(cnt (-1 - n).toNat).map (!·) else ag::cnt n.toNat
end gf
end
section
namespace gf
open PySem dg
noncomputable def pM(b:Bool):Nat:=if b then 49 else 48
noncomputable def bw(l:List Bool):af:=⟨(l.map pM).toArray⟩
theorem xo{a b:af}(h:a.cps.toList=b.cps.toList):a=b:=by
 obtain⟨x⟩:=a;obtain⟨y⟩:=b
 exact congrArg af.mk (Array.ext' h)
theorem lh(l:List Bool):(bw l).cps.toList=l.map pM:=by simp[bw]
theorem dA(l:List Bool):(bw l).length=l.length:=by simp[bw,af.length]
theorem JE{a b:Bool}(h:pM a=pM b):a=b:=by cases a<;>cases b<;>first | rfl | (revert h;decide)
theorem XK{a b:List Bool}(h:bw a=bw b):a=b:=by
 have:=congrArg (fun x:af=>x.cps.toList) h
 simp only[lh] at this
 exact List.map_inj_right (fun _ _=>JE) |>.mp this
theorem kl(a b:List Bool):bw a++bw b=bw (a++b):=by
 apply xo
 show ((bw a).cps++(bw b).cps).toList=_
 rw[Array.toList_append,lh,lh,lh,fz]
theorem s1:(af.ofString "1")=bw [ag]:=by decide +kernel
theorem s0:(af.ofString "0")=bw [ah]:=by decide +kernel
theorem Oc:(af.ofString "")=bw []:=by decide +kernel
theorem XM(a b:List Bool):decide (V.str (bw a)=V.str (bw b))=decide (a=b):=by
 by_cases h:a=b
 ·subst h;simp
 ·have:¬V.str (bw a)=V.str (bw b):=fun q=>h (XK (V.str.inj q))
  rw[gM h,gM this]
theorem Vl:∀ aY:List af,(Txt.join (af.ofString "") aY).cps.toList=(aY.map (·.cps.toList)).flatten:=by
 have e:(af.ofString "").cps=#[]:=by decide +kernel
 have key:∀ (aY:List af) (acc:Array Nat),(aY.foldl (fun acc p=>acc++(af.ofString "").cps++p.cps) acc).toList=acc.toList++(aY.map (·.cps.toList)).flatten:=by
  intro aY
  induction aY with
  | nil=>intro acc;simp
  | cons y r cA=>intro acc;rw[List.foldl_cons,cA,e];simp
 intro aY
 cases aY with
 | nil=>rfl
 | cons y r =>
  show ((r.foldl (fun acc p=>acc++(af.ofString "").cps++p.cps) y.cps)).toList=_
  rw[key];simp
theorem sm(ls:List (List Bool)):Txt.join (af.ofString "") (ls.map bw)=bw ls.flatten:=by
 apply xo
 rw[Vl,lh,ir,List.map_flatten]
 exact congrArg List.flatten (pE fun l _=>lh l)
theorem Xb(l:List Bool):(l.map fun b=>[b]).flatten=l:=by
 induction l with
 | nil=>rfl
 | cons b r cA=>rw[jw,mF,cA];rfl
theorem KS(l:List Bool):Txt.join (af.ofString "") (l.map fun b=>bw [b])=bw l:=by
 have:=sm (l.map fun b=>[b])
 rw[ir] at this
 rw[show (fun b=>bw [b])=bw ∘ (fun b=>[b]) from rfl,this]
 exact congrArg bw (Xb l)
theorem AJ(b:Bool)(n:Int):Txt.mul (bw [b]) n=bw (List.replicate n.toNat b):=by
 unfold Txt.mul
 by_cases h:n<1
 ·rw[if_pos h,show n.toNat=0 by omega];rfl
 ·rw[if_neg h]
  by_cases aj:n=1
  ·subst aj;rfl
  ·have:(n == 1||(bw [b]).length == 0)=ah:=by simp[dA,aj]
   rw[this,if_neg (by decide)]
   apply xo
   have key:∀ (k:Nat) (acc:Array Nat),((List.replicate k (bw [b]).cps).foldl (· ++ ·) acc).toList=acc.toList++(List.replicate k b).map pM:=by
    intro k
    induction k with
    | zero=>intro acc;simp
    | succ k cA=>intro acc;rw[List.replicate_succ,List.foldl_cons,cA,List.replicate_succ];simp[bw]
   rw[lh]
   simpa using key n.toNat #[]
theorem agB(lo aB:Option Int)(n:Nat):c1.Str.strSliceIndices lo aB 1 n=(List.range (eN.gk n n aB - eN.gk n 0 lo)).map (eN.gk n 0 lo+·):=by
 unfold c1.Str.strSliceIndices
 rw[<- sliceRange_one]
 simp only[show ((1:Int) > 0)=True from eq_true (by decide),if_true]
 congr 1
 ·cases lo with
  | none=>rfl
  | some i =>
   simp only[eN.gk]
   by_cases h:i<0
   ·simp only[h,if_true];omega
   ·simp only[h,if_false];omega
 ·cases aB with
  | none=>rfl
  | some i =>
   simp only[eN.gk]
   by_cases h:i<0
   ·simp only[h,if_true];omega
   ·simp only[h,if_false];omega
theorem u5(x:af)(lo aB:Option Int):(Txt.slice x lo aB).cps.toList=(x.cps.toList.drop (eN.gk x.length 0 lo)).take (eN.gk x.length x.length aB - eN.gk x.length 0 lo):=by
 have aC:x.cps.toList.length=x.length:=by simp[af.length]
 have aj:=eN.Od x.length x.length (cx _) aB
 have ar:=eN.Od x.length 0 (UF _) lo
 unfold Txt.slice
 rw[agB]
 split
 ·rename_i c
  simp only[cM,lW,h7,beq_iff_eq] at c
  have a0:eN.gk x.length 0 lo=0\/x.length=0:=by omega
  rcases a0 with a0 | a0
  ·rw[a0,List.drop_zero,UV (by omega)]
  ·have:x.cps.toList=[]:=List.length_eq_zero_iff.mp (by omega)
   rw[this];simp
 ·rw[pick_run]
theorem WG(l:List Bool)(lo aB:Option Int):Txt.slice (bw l) lo aB=bw ((l.drop (eN.gk l.length 0 lo)).take (eN.gk l.length l.length aB - eN.gk l.length 0 lo)):=by
 apply xo
 rw[u5,lh,lh,dA,List.map_take,List.map_drop]
theorem V2(a b:List Bool):Txt.startswith (bw a) (bw b)=decide (b <+: a):=by
 unfold Txt.startswith c1.Str.subAt
 rw[dA,dA,Nat.zero_add]
 by_cases h:b.length<=a.length
 ·have e:((bw a).cps.extract 0 b.length == (bw b).cps)=decide (b <+: a):=by
   have key:((bw a).cps.extract 0 b.length).toList=(a.take b.length).map pM:=by
    rw[Array.toList_extract,lh]
    simp[List.extract,List.map_take]
   by_cases bh:b <+: a
   ·rw[ek bh,beq_iff_eq]
    apply Array.ext'
    rw[key,lh,<- List.prefix_iff_eq_take.mp bh]
   ·rw[gM bh]
    rw[beq_eq_false_iff_ne]
    intro q
    have iA:=congrArg Array.toList q
    rw[key,lh] at iA
    have:=List.map_inj_right (fun _ _=>JE) |>.mp iA
    exact bh (List.prefix_iff_eq_take.mpr this.symm)
  simp only[ek h,Bool.true_and]
  exact e
 ·have bh:¬b <+: a:=fun q=>h q.length_le
  simp[h,bh]
theorem XJ{l:List Bool}{i:Nat}{b:Bool}(h:l[i]?=J b):(bw l).cps.toList[i]?=J (pM b):=by rw[lh,fT,h];rfl
theorem XF(b:Bool):PySem.intText? (bw [b])=J (b.toNat:Int):=by cases b<;>decide +kernel
theorem vl(n:Nat):c1.Int.intBits ((n:Nat):Int)=aZ n:=by
 unfold c1.Int.intBits aZ
 by_cases h:n=0
 ·subst h;rfl
 ·have:(((n:Nat):Int) == 0)=ah:=by simpa using h
  rw[this,if_neg (by decide),if_neg h]
  simp
theorem XI{l:List Bool}{i c:Nat}(h:(bw l).cps[i]?=J c):V.str ⟨#[c]⟩=V.str (bw [l.getD i ah]):=by
 have h':(bw l).cps.toList[i]?=J c:=by simpa using h
 rw[lh,fT] at h'
 rw[e9]
 cases e:l[i]? with
 | none=>rw[e] at h';cases h'
 | some b =>
  rw[e] at h'
  have:pM b=c:=gN h'
  rw[<- this];rfl
end gf
end
section
namespace dg
open PySem PySem.Spec PyProof.Rows
section
variable {X:bp}
noncomputable def eh:=dU.or (SQ (X:=X)) Wd
theorem gb:dU X (ka .Sub) (ml fun i j => .int (i - j)):=SM
noncomputable def kr:=dU.or (SO (X:=X)) Wc
noncomputable def oa:=dU.or (Td (X:=X)) WR
noncomputable def cP:=nu.or (nu.or (R9 (X:=X)) SX) SY
noncomputable def rH:=qK.or (RI (X:=X)) SE
theorem iO.or{en it:b2}{hO PU:dW}(h:iO X en it hO)(h':iO X en it PU):iO X en it (fun ab H R=>hO ab H R\/PU ab H R):=fun ak s ab H R aa q=>q.elim (h ak s ab H R aa) (h' ak s ab H R aa)
theorem j7{en l:b2}{dr:TE}(aC:bW X l dr):iO X en l (fun ab H R=>ND X.K dr ab H R\/NF dr ab H R):=(RP aC).or (SI aC)
end
def dF(K:bO)(mg:af->Option ao)(x:af)(st:bj)(ps:List af)(f:ae)(fd:fu):Prop:=c2 K x x st f fd/\Binds K fd ps []/\mg x=J (.ref f)
def bK(P:cX)(w:cu)(K:bO)(mg:af->Option ao)(base:aX)(k:Nat)(x:af)(ps:List af)(sp:b5):Prop :=
 ∃ f fd,cg P w K mg base dk k f fd ps sp/\Binds K fd ps []/\j9 K (.ref f)=ag/\mg x=J (.ref f)
def lS(P:cX)(w:cu)(K:bO)(mg:af->Option ao)(base:aX)(k:Nat)(C:ae)(m:af)(ps:List af)(sp:b5):Prop :=
 ∃ f fd,cg P w K mg base dk k f fd ps sp/\Binds K fd ps []/\sr K C m f
def ju(P:cX)(w:cu)(K:bO)(mg:af->Option ao)(base:aX)(k:Nat)(x:af)(C:ae)(ps:List af)(sp:b5):Prop :=
 ∃ f fd,Dg K C f/\cg P w K mg base dk k f fd ps sp/\Binds K fd ps []/\mg x=J (.ref C)
def ej(mg:af->Option ao)(x:af)(v:V):Prop:=∃ u,mg x=J u/\RelV v u
section
variable {X:bp} {k eD:Nat} {x m:af} {C:ae} {ps:List af} {sp:b5} {e o:b2} {aV:List b2} {t:gw} {bS:TE} {p aO apos:Pos} {v:V}
theorem iv(h:ej X.mg x v)(aK:h5 X x:=by rfl)(hd:(x == ("__debug__":af))=ah:=by decide +kernel):bW X (.Name x p) (o4 v):=by
 obtain⟨u,aj,ar⟩:=h
 exact RT aK aj ar hd
theorem cq(h:bK X.prog X.w X.K X.mg X.base k x ps sp)(az:e4 eD X.A)(ba:hx X (e::aV) t)(hk:k<=eD:=by decide)(aK:h5 X x:=by rfl)(iI:(x == ("__debug__":af))=ah:=by decide +kernel)
  (he:df (e::aV) X.env=(ah,eval e X.env)::df aV X.env:=by rfl) (f6:(backTo aO (df aV X.env)).any (·.1)=ah:=by rfl):bW X (.Call (.Name x p) (e::aV) [] aO) (Iv sp [] il t):=by
 obtain⟨f,fd,F,aq,ij,hm⟩:=h
 exact RU F (az.mono hk) aK hm ij aq .nil yD ba iI he f6
theorem EM{pl:Sem Bool}(h:lS X.prog X.w X.K X.mg X.base k C m ps sp)(c:fe X.K C)(az:e4 eD X.A)(he:bW X o bS)(ba:hx X (e::aV) t)(hk:k<=eD:=by decide)
  (j1:df (e::aV) X.env=(ah,eval e X.env)::df aV X.env:=by rfl) (f6:(backTo aO (df aV X.env)).any (·.1)=ah:=by rfl)
  (aW:eval (.Call (.Attribute o m apos) (e::aV) [] aO) X.env=(do
   let ov <- eval o X.env
   standAt apos.atName
   let (f,first) <- holding [ov] (getMethod ov m pl)
   callWith aO f first (backTo aO (df (e::aV) X.env)) (backToKw aO (qs [] X.env))):=by rfl) :
  bW X (.Call (.Attribute o m apos) (e::aV) [] aO) (Cu C m sp [] il bS t):=by
 obtain⟨f,fd,F,aq,hm⟩:=h
 exact RR he c hm F (az.mono hk) aq .nil yD ba j1 f6 aW
theorem sk{pl:Sem Bool}(h:lS X.prog X.w X.K X.mg X.base k C m ps sp)(c:fe X.K C)(az:e4 eD X.A)(he:bW X o bS)(hk:k<=eD:=by decide)
  (aW:eval (.Call (.Attribute o m apos) [] [] aO) X.env=(do
   let ov <- eval o X.env
   standAt apos.atName
   let (f,first) <- holding [ov] (getMethod ov m pl)
   callWith aO f first (backTo aO (df [] X.env)) (backToKw aO (qs [] X.env))):=by rfl) :
  bW X (.Call (.Attribute o m apos) [] [] aO) (Cu C m sp [] il bS Cv):=by
 obtain⟨f,fd,F,aq,hm⟩:=h
 exact XQ he c hm F (az.mono hk) aq .nil yD aW
theorem pz(h:ju X.prog X.w X.K X.mg X.base k x C ps sp)(az:e4 eD X.A)(ba:hx X (e::aV) t)(hk:k+1<=eD:=by decide)(aK:h5 X x:=by rfl)(iI:(x == ("__debug__":af))=ah:=by decide +kernel)
  (he:df (e::aV) X.env=(ah,eval e X.env)::df aV X.env:=by rfl) (f6:(backTo aO (df aV X.env)).any (·.1)=ah:=by rfl):bW X (.Call (.Name x p) (e::aV) [] aO) (PH C sp [] il t):=by
 obtain⟨f,fd,M,F,aq,hm⟩:=h
 exact RS M F (az.mono hk) aK hm aq .nil yD ba iI he f6
end
theorem dF.ok{P:cX}{w:cu}{K:bO}{mg:af->Option ao}{base:aX}{x:af}{st:bj}{f:ae}{fd:fu}{N ps:List af}{k:Nat}{sp:b5}(F:dF K mg x st ps f fd)(S:bZ N ps (bF st))(len:∀ vs H Q E,sp vs H Q E->vs.length=ps.length)
  (jj:∀ (bb:ao) (A:da) (outer:List Env) (s:aI) (H:au) (vs:List V) (Q:bx) (E:bP),e4 k (A.deeper (envOfC x (bF st) s.heap.objs.size f bb))->sp vs H Q E->
   ∃ t,hj (jV dk P w K mg base N x (bF st) f bb A outer s H E).rA (iw st) t/\t {nx:=fun _ H'=>∃ bY,Sub H bY H'/\Q .bL bY,rt:=fun v H'=>∃ bY,Sub H bY H'/\Q v bY} (start N vs) H):bK P w K mg base (k+1) x ps sp :=
 ⟨f,fd,F.1.N3 S len jj,F.2.1,F.1.ij,F.2.2⟩
section
variable {X:bp} {e:b2} {aO:Pos}
theorem dd:dU X (hP .Eq) Cd:=Th
theorem wd:dU X (hP .NotEq) N7:=Tc
theorem yz:dU X (hP .LtE) (ml fun i j => .aH (decide (i<=j))):=Te
theorem kS:dU X (hP .Gt) (ml fun i j => .aH (decide (j<i))):=Tf
theorem HL:dU X (hP .GtE) (ml fun i j => .aH (decide (j<=i))):=Tg
theorem js.or'{f:ao}{r e2:List V->au->bx->Prop}(h:js X f r)(h':js X f e2):js X f (fun xs H Q=>r xs H Q\/e2 xs H Q):=fun ak s ab H xs us Q aa dH q=>q.elim (h ak s ab H xs us Q aa dH) (h' ak s ab H xs us Q aa dH)
noncomputable def Ay:=js.or' (Xr (X:=X)) UR
noncomputable def jd:=js.or' (VW (X:=X)) Vp
theorem Fb{bS:TE}(ba:bW X e bS):bW X (.UnaryOp .Not e aO) (fun ab H Q=>bS ab H fun x H'=>∃ k,zO X.K x H' k/\Q (.aH (!k)) H'):=by
 intro ak s ab H Q aa h
 refine UnaryOp_ (cz (ba ak s ab H _ aa h) fun v s1 bD=>?_)
 obtain⟨x,H1,aS,cp,k,m7,cD⟩:=bD
 exact not_of (cz (LS ak s1 ab H1 x v (fun b H'=>b=k/\Q (.aH (!k)) H') aS cp ⟨k,m7,I,cD⟩) fun b s2 ⟨ax,bA,e,cE⟩=>by subst e;exact⟨.aH (!b),ax,bA,I,cE⟩)
end
end dg
namespace dg
open PySem
theorem sS:jJ "int"=J (.type "int"):=by decide +kernel
theorem FG:jJ "str"=J (.type "str"):=by decide +kernel
theorem AM:jJ "bool"=J (.type "bool"):=by decide +kernel
theorem qJ:jJ "tuple"=J (.type "tuple"):=by decide +kernel
theorem Fn:jJ "list"=J (.type "list"):=by decide +kernel
theorem d3:jJ "len"=J (.builtin "len"):=by decide +kernel
theorem gx:jJ "isinstance"=J (.builtin "isinstance"):=by decide +kernel
theorem FH:jJ "min"=J (.builtin "min"):=by decide +kernel
theorem S7:jJ "abs"=J (.builtin "abs"):=by decide +kernel
theorem vp:jJ "all"=J (.builtin "all"):=by decide +kernel
end dg
end
section
namespace dg
open PySem PySem.Spec PyProof.Rows gf
theorem h8{H:au}{a:ae}{o u:cv}:upd (upd H a o) a u=upd H a u:=by
 funext b
 unfold upd
 split<;>rfl
theorem E1{dD:kd}{g:gK}{cn:TE}{Q:bx}{H:au}{D:ae}{fO:St}(n:Nat)(xs jg:Nat->V)(S:St->Prop)(bc:n<=bT)(bu:S fO)
  (x2:∀ i H,i<n->dD.go i H) (Hj:∀ H,dD.stop n H) (bM:∀ i H x H',i<n->dD.pa i H x H'->H'=H/\x=xs i)
  (aW:∀ i b8 H1,i<n->S b8->∀ R:St->V->au->Prop,(∀ bR,S bR->R bR (jg i) H1)->g (xs i) b8 H1 fun bR ax=>cn bR ax fun y bt=>R bR y bt)
  (aU:Q (.ref D) (upd H D (.lst ((List.range n).map jg)))) :
  ot dD g rN cn Q fO H D:=by
 refine⟨fun i m b8 ax=>i<=n/\m=n - i/\S b8/\ax=upd H D (.lst ((List.range i).map jg)),⟨n,UF _,I,bu,I⟩,?_⟩
 rintro i m b8 ax ⟨aj,rfl,ar,rfl⟩
 rcases jx i n with z | z
 ·refine .inr ⟨x2 i _ z,fun x bt y=>?_⟩
  obtain⟨rfl,rfl⟩:=bM i _ x bt z y
  refine aW i b8 _ z ar (fun bR y e3=>∃ xs b1,e3 D=J (.lst xs)/\xs.length<bT/\b1<n - i/\(i+1<=n/\b1=n - (i+1)/\S bR/\upd e3 D (.lst (xs++[y]))=upd H D (.lst ((List.range (i+1)).map jg)))) fun bR fL=>?_
  refine⟨_,n - (i+1),aM,?_,by omega,by omega,rfl,fL,?_⟩
  ·rw[cM,lW];omega
  ·rw[h8,List.range_succ,fz];rfl
 ·have e:i=n:=by omega
  subst e
  exact .inl ⟨Hj _,aU⟩
theorem Wv{lo c:Int}{n:Nat}{g:gK}{c9:eK}{D:Ends}{ab:St}{H:au}(Pv:Nat->St->au->Prop)(bu:Pv 0 ab H)
  (hs:∀ i ab H,i<n->Pv i ab H->g (.int (lo+i*c)) ab H fun bR ax=>c9 {D with nx:=Pv (i+1),ct:=Pv (i+1),bk:=D.nx} bR ax) (hd:∀ ab H,Pv n ab H->D.nx ab H) :
  ∃ W:Nat->Nat->St->au->Prop,(∃ m,W 0 m ab H)/\∀ i m ab H,W i m ab H->
   ((wX lo c n).stop i H/\D.nx ab H)\/((wX lo c n).go i H/\∃ N:St->au->Prop,(∀ bQ H',N bQ H'->∃ b1,b1<m/\W (i+1) b1 bQ H')/\∀ x H',(wX lo c n).pa i H x H'->g x ab H' fun bR ax=>c9 {D with nx:=N,ct:=N,bk:=D.nx} bR ax):=by
 refine⟨fun i m ab H=>i<=n/\m=n - i/\Pv i ab H,⟨n,UF _,I,bu⟩,?_⟩
 rintro i m ab H ⟨aj,rfl,ar⟩
 rcases jx i n with z | z
 ·refine .inr ⟨z,Pv (i+1),fun bQ H' q=>⟨n - (i+1),by omega,by omega,rfl,q⟩,?_⟩
  rintro x H' ⟨rfl,rfl⟩
  exact hs i ab _ z ar
 ·have e:i=n:=by omega
  subst e
  exact .inl ⟨cx _,hd ab H ar⟩
end dg
namespace dg
open PySem
theorem Kx{H:au}{a:ae}{o:cv}(h:H a=J o):upd H a o=H:=by
 funext b
 unfold upd
 split
 ·rename_i e;rw[e,h]
 ·rfl
end dg
namespace gf
theorem xl(l:List Bool):l.map (xor ah)=l:=by
 rw[show (xor ah)=(id:Bool->Bool) from funext fun b=>by cases b<;>rfl,List.map_id]
end gf
namespace dg
open PySem
theorem EV(K:bO)(t:ao):eU K t t=J ag:=by
 unfold eU;rw[beq_self_eq_true,if_pos rfl]
end dg
namespace gf
open PySem dg
theorem SD(m:Nat):eH [V.str (af.ofString "0"),V.str (af.ofString "1")] ((m:Int)%2)=J (.str (bw [decide (m%2=1)])):=by
 have h:m%2=0\/m%2=1:=by omega
 rcases h with h | h
 ·have e:((m:Int)%2)=((0:Nat):Int):=by omega
  rw[e,h]
  exact dt (by rw[s0];rfl)
 ·have e:((m:Int)%2)=((1:Nat):Int):=by omega
  rw[e,h]
  exact dt (by rw[s1];rfl)
end gf
namespace gf
theorem Kp{n:Int}(aj : -(2 ^ 255)<n)(ar:n<2 ^ 255 - 1):(iB n).length<=270:=by
 have c:∀ m:Nat,m+1<2 ^ 255->(cnt m).length<=269:=fun m h=>by
  have:=Ap h
  have:=hn h
  omega
 unfold iB
 split
 ·rw[ed,cM];have:=c (-1 - n).toNat (by omega);omega
 ·rw[ed];have:=c n.toNat (by omega);omega
end gf
end
section
namespace dg
open PySem PySem.Spec PyProof.Rows
def wQ(e:ae)(o:Option ae)(c:Option ao)(d:Option ae):Prop:=(o=d/\(d=aw\/c=J .none))\/(d=J e/\o=aw/\c=J .none)
def kc(h:aX)(e:ae)(cls:ao)(d:Option ae)(T:ae)(dq:ao):Prop :=
 ∃ ec vs jE i7,h.get? e=J ec/\ec.cls=cls/\wQ e ec.dict vs[2]? d/\ec.data = .fields vs/\vs[1]?=J (.ref T)/\T≠e/\h.get? T=J jE/\jE.data = .fields i7/\i7[3]?=J dq/\True
structure uZ(fs:List ae)(e:ae)(T:Option ae)(h h':aX):Prop where
 keep:∀ b o,b≠e->J b≠T->b∉fs->h.get? b=J o->h'.get? b=J o
 slot:∀ b o,b≠e->J b≠T->h.get? b=J o->∃ c8,h'.get? b=J {o with slots:=c8}
section
variable {M:Model} {A:da} {E:ao->aI->Prop} {s:aI} {base:aX} {env:Env} {outer:List Env} {L e T:ae} {ec:bo} {vs:Array ao} {head:ao} {aaF:Bool} {Q:Unit->aI->Prop} {cls:ao} {d:Option ae} {dq:ao}
theorem J0(o:bo)(f):(o.mapFields f).dict=o.dict:=by
 obtain⟨c,d,YV,c8⟩:=o;cases YV<;>rfl
theorem FZ(l8:A.frames=J (env::outer))(aC:s.heap.FunFrames base (env::outer))(aE:env.frame=J L)(he:s.heap.get? e=J ec)(hd:ec.data = .fields vs)(f7:1<vs.size)(jD:wQ e ec.dict vs[2]? d)
  (h:∀ h' dw,kc h' e ec.cls d dw (rawInt L)->s.heap.get? dw=aw->h'.FunFrames base (env::outer)->uZ ((env::outer).filterMap (·.frame)) e aw s.heap h'->Q () {s with heap:=h'}) :
  bE M A (do let a <- frameOf env;let pl <- entryPlaceOf L aaF;let b <- EntryCells.newEntry head a .none (rawInt L) .none pl;setField (.ref e) 1 b) Q E s:=by
 have aaU:e∉(env::outer).filterMap (·.frame):=fun hm=>by
  obtain⟨_,o,aJ,jk⟩:=aC.mem hm
  rw[he] at aJ;injection aJ with aJ;subst aJ;exact jk vs hd
 refine bC (wpAny_frameOf_fun l8 aC aE fun hr yh=>?_)
 refine bC (wpAny_entryPlaceOf fun pl f6=>?_)
 unfold EntryCells.newEntry newFields
 refine bC (wpAny_newObj_type ?_ (f6.sizeOk5 _ _ _ _ _))
 have vP:hr.get? e=J ec:=(yh.2.1 e aaU).trans he
 generalize Np:({cls := .type "traceback",dict:=aw,data := .fields ([head,.ref L,.none,rawInt L,.none]++(if pl.isEmpty then List.replicate 6 ao.none else pl)).toArray}:bo)=jE
 have Nc:=d7 (h:=hr) jE vP
 refine rZ Nc hd f7 ?_
 have lA:hr.objs.size≠e:=Nat.ne_of_gt (dX vP)
 have mR:=bo.data_mapFields hd (·.setIfInBounds 1 (ao.ref hr.objs.size))
 have By:=aX.get?_update_self (bo.mapFields (·.setIfInBounds 1 (ao.ref hr.objs.size))) Nc (bo.isFreed_of_fields mR)
 have GA:((hr.push jE).update e (bo.mapFields (·.setIfInBounds 1 (ao.ref hr.objs.size)))).get? hr.objs.size=J jE :=
  (aX.get?_update_other _ _ (d2 lA)).trans (gU hr (by rw[<- Np];rfl))
 have keep:∀ b o,b≠e->hr.get? b=J o->((hr.push jE).update e (bo.mapFields (·.setIfInBounds 1 (ao.ref hr.objs.size)))).get? b=J o:=fun b o l7 aq=>by
  rw[aX.get?_update_other _ _ (d2 l7)];exact d7 _ aq
 have tH:∀ b o,s.heap.get? b=J o->(∀ vs,o.data≠.fields vs)->b≠e:=fun b o aq jk q=>by
  rw[q,he] at aq;injection aq with aq;subst aq;exact jk vs hd
 refine h _ hr.objs.size ⟨_,_,jE,_,By,bo.cls_mapFields _ _,(by rw[J0,Array.getElem?_setIfInBounds_ne (by decide)];exact jD),mR,by simp[f7],lA,GA,by rw[<- Np],?_,trivial⟩ ?_ (aC.of_keeps fun b o aq jk=>?_) ⟨fun b o l7 _ p1 aq=>keep b o l7 ((yh.2.1 b p1).trans aq),fun b o l7 _ aq=>?_⟩
 ·first | (simp;done) | (rcases f6 with rfl | ⟨_,_,_,_,_,_,_,rfl⟩<;>simp)
 ·exact aX.get?_none_of_le (by rw[yh.1];exact cx _)
 ·obtain⟨c8,hs⟩:=yh.2.2 b o aq
  exact⟨_,keep b _ (tH b o aq jk) hs,I⟩
 ·obtain⟨c8,hs⟩:=yh.2.2 b o aq
  exact⟨c8,keep b _ l7 hs⟩
theorem yr(aC:s.heap.FunFrames base outer)(aW:kc s.heap e cls d T dq)
  (h:∀ h',kc h' e cls d T .none->h'.FunFrames base outer->(∀ b o,b≠T->s.heap.get? b=J o->h'.get? b=J o)->Q () {s with heap:=h'}):bE M A (setFlight (.ref e) aw) Q E s:=by
 obtain⟨ec,vs,jE,i7,he,hc,hE,hd,aj,lA,b9,h0,bB,jD⟩:=aW
 have yg:3<i7.size:=(Array.getElem?_eq_some_iff.mp bB).1
 unfold setFlight
 refine bC (iM he hd aj ?_)
 rw[if_pos (show (ao.ref T != ao.none)=ag from by simp)]
 have other:∀ b,b≠T->(s.heap.update T (bo.mapFields (·.setIfInBounds 3 ((aw:Option ae).elim ao.none fun f=>rawInt f)))).get? b=s.heap.get? b:=fun b aq=>aX.get?_update_other _ _ (d2 aq)
 have tH:∀ b o,s.heap.get? b=J o->(∀ vs,o.data≠.fields vs)->b≠T:=fun b o aq jk q=>by
  rw[q,b9] at aq;injection aq with aq;subst aq;exact jk i7 h0
 refine rZ b9 h0 yg (h _ ⟨ec,vs,_,_,(other e (d2 lA)).trans he,hc,hE,hd,aj,lA,aX.get?_update_self _ b9 (bo.isFreed_of_fields (bo.data_mapFields h0 _)),bo.data_mapFields h0 _,by simp[yg],jD⟩
  (aC.of_keeps fun b o aq jk=>⟨o,(other b (tH b o aq jk)).trans aq,rfl⟩) fun b o aq q=>(other b aq).trans q)
theorem HJ(l8:A.frames=J (env::outer))(aC:s.heap.FunFrames base (env::outer))(aE:env.frame=J L)(aW:kc s.heap e cls d T .none)
  (h:∀ h' dw,kc h' e cls d dw (rawInt L)->s.heap.get? dw=aw->h'.FunFrames base (env::outer)->uZ ((env::outer).filterMap (·.frame)) e (J T) s.heap h'->Q () {s with heap:=h'}):bE M A (noteFrame (.ref e) env) Q E s:=by
 obtain⟨ec,vs,jE,i7,he,hc,hE,hd,aj,lA,b9,h0,bB,jD⟩:=aW
 unfold noteFrame
 simp only[aE]
 refine bC (iM he hd aj ?_)
 rw[if_pos (show (ao.ref T != ao.none)=ag from by simp)]
 refine bC (iM b9 h0 bB ?_)
 rw[if_neg (show ¬((ao.none == rawInt L)=ag) from by simp[rawInt])]
 refine bC (rZ b9 h0 (Array.getElem?_eq_some_iff.mp bB).1 ?_)
 have other:∀ b,b≠T->(s.heap.update T (bo.mapFields (·.setIfInBounds 3 ao.none))).get? b=s.heap.get? b:=fun b aq=>aX.get?_update_other _ _ (d2 aq)
 have tH:∀ b o,s.heap.get? b=J o->(∀ vs,o.data≠.fields vs)->b≠T:=fun b o aq jk q=>by
  rw[q,b9] at aq;injection aq with aq;subst aq;exact jk i7 h0
 have back:∀ b,(s.heap.update T (bo.mapFields (·.setIfInBounds 3 ao.none))).get? b=aw->s.heap.get? b=aw:=fun b aq=>by
  by_cases z:b=T
  ·subst z
   rw[aX.get?_update_self _ b9 (bo.isFreed_of_fields (bo.data_mapFields h0 _))] at aq;cases aq
  ·rw[other b z] at aq;exact aq
 subst hc
 refine FZ (s:={s with heap:=s.heap.update T (bo.mapFields (·.setIfInBounds 3 ao.none))}) l8 (aC.of_keeps fun b o aq jk=>⟨o,(other b (tH b o aq jk)).trans aq,I⟩) aE ((other e (d2 lA)).trans he) hd (Array.getElem?_eq_some_iff.mp aj).1 hE fun h' dw hg gv kX jI=>?_
 exact h h' dw hg (back _ gv) kX ⟨fun b o aj ar bB b0=>jI.keep b o aj (by simp) bB ((other b (fun z=>ar (by rw[z]))).trans b0),fun b o aj ar b0=>jI.slot b o aj (by simp) ((other b (fun z=>ar (by rw[z]))).trans b0)⟩
theorem VN(l8:A.frames=J (env::outer))(aC:s.heap.FunFrames base (env::outer))(aE:env.frame=J L)(aW:kc s.heap e cls d T .none)
  (h:∀ h' dw,kc h' e cls d dw .none->s.heap.get? dw=aw->uZ ((env::outer).filterMap (·.frame)) e (J T) s.heap h'->Q () {s with heap:=h'}):bE M A (leaving env (.ref e)) Q E s:=by
 unfold leaving
 refine bC (HJ l8 aC aE aW fun aj dw hg gv kX jI=>?_)
 refine yr kX hg fun ar j8 _ nd=>h ar dw j8 gv ⟨fun b o aj ar bB b0=>nd b o (fun z=>by rw[z,gv] at b0;cases b0) (jI.keep b o aj ar bB b0),fun b o aj ar b0=>?_⟩
 obtain⟨c8,e⟩:=jI.slot b o aj ar b0
 exact⟨c8,nd b _ (fun z=>by rw[z,gv] at b0;cases b0) e⟩
theorem Vk(l8:A.frames=J (env::outer))(aC:s.heap.FunFrames base (env::outer))(aE:env.frame=J L)(he:s.heap.get? e=J ec)(hd:ec.data = .fields vs)(aj:vs[1]?=J .none)(jD:wQ e ec.dict vs[2]? d)
  (h:∀ h' dw,kc h' e ec.cls d dw .none->s.heap.get? dw=aw->uZ ((env::outer).filterMap (·.frame)) e aw s.heap h'->Q () {s with heap:=h'}):bE M A (leaving env (.ref e)) Q E s:=by
 unfold leaving noteFrame
 simp only[aE]
 refine bC (bC (iM he hd aj ?_))
 rw[if_neg (by decide)]
 refine FZ l8 aC aE he hd (Array.getElem?_eq_some_iff.mp aj).1 jD fun aj dw hg gv kX jI=>?_
 refine yr kX hg fun ar j8 _ nd=>h ar dw j8 gv ⟨fun b o aj ar bB b0=>nd b o (fun z=>by rw[z,gv] at b0;cases b0) (jI.keep b o aj ar bB b0),fun b o aj ar b0=>?_⟩
 obtain⟨c8,e⟩:=jI.slot b o aj ar b0
 exact⟨c8,nd b _ (fun z=>by rw[z,gv] at b0;cases b0) e⟩
end
noncomputable def fv(P:cX)(w:cu):k0:=fun outer H s E e aF=>∃ a C d H' T,e = .ref a/\aF.os=s.os/\AllBare aF.gens/\fB (iy outer) [] H H' s.heap aF.heap/\fh P w H' aF.heap/\
 kc aF.heap a (.ref C) d T .none/\H' a=aw/\H' T=aw/\s.heap.get? a=aw/\s.heap.get? T=aw/\E (.ref C) d H'
theorem fh.there{P:cX}{w:cu}{H:au}{h:aX}(ok:fh P w H h){a:ae}{o:cv}(e:H a=J o):∃ u,h.get? a=J u:=by
 have x:=ok a o e
 cases o with
 | lst xs=>obtain⟨_,_,_,_,e⟩:=x;exact⟨_,e⟩
 | tup xs=>obtain⟨_,_,_,p⟩:=x;obtain⟨o,e,_⟩:=p;exact⟨_,e⟩
 | l2 fH=>obtain⟨_,_,_,_,o,_,_,e,_⟩:=x;exact⟨_,e⟩
 | oI fH=>exact(show False from x).elim
 | set S n=>obtain⟨o,_,_,_,e,_⟩:=x;exact⟨_,e⟩
 | ins C al fs=>obtain⟨_,_,_,e,_⟩:=x;exact⟨_,e⟩
 | own y=>exact x
 | iL fs=>obtain⟨_,⟨_,_,_,e,_⟩,_⟩:=x;exact⟨_,e⟩
 | yF lo aB=>obtain⟨_,_,_,e⟩:=x;exact⟨_,e⟩
 | iG dC u=>obtain⟨e,_⟩:=x;exact⟨_,e⟩
 | qp ps=>exact⟨_,x⟩
 | met f y=>exact⟨_,x⟩
 | ext uf=>exact x.2.1
theorem fh.none{P:cX}{w:cu}{H:au}{h:aX}(ok:fh P w H h){a:ae}(e:h.get? a=aw):H a=aw:=by
 cases q:H a with
 | none=>rfl
 | some o=>obtain⟨u,z⟩:=ok.there q;rw[e] at z;cases z
section
variable {P:cX} {w:cu} {K:bO} {mg:af->Option ao} {base:aX} {N:List af} {dy:af} {cI:Scope} {f:ae} {bb:ao} {A:da} {outer:List Env} {s:aI} {H:au} {E:bP}
theorem LV{X:bp}{ak:List (ae×bo)}{ab:St}{H1:au}{s1:aI}{h':aX}{a:ae}{T:Option ae}(aa:Inv X ak ab H1 s1)(ay:X.ex=[])(hs:X.stack=X.env::X.outer)(S:uZ (iy X.stack) a T s1.heap h')
  (iK:X.de.heap.get? a=aw) (h3:∀ t,T=J t->X.de.heap.get? t=aw) (fa:H1 a=aw) (jC:∀ t,T=J t->H1 t=aw):fB (iy X.outer) [] X.g4 H1 X.de.heap h'/\fh X.prog X.w H1 h':=by
 have B:=aa.base
 rw[ay] at B
 have HE:∀ b o,X.de.heap.get? b=J o->b≠a:=fun b o e z=>by rw[z,iK] at e;cases e
 have neT:∀ b o,X.de.heap.get? b=J o->J b≠T:=fun b o e z=>by have:=h3 b z.symm;rw[e] at this;cases this
 have rz:∀ b o,X.de.heap.get? b=J o->b≠X.env.locals:=fun b o e=>fj (fi (dX e) aa.ok.above)
 refine⟨⟨fun b o e n aq ay=>?_,fun b o e n aq ay=>?_,B.free,fun b o e ay=>?_,B.lL,B.kM,B.lK⟩,fun b u e=>(aa.aR b u e).mn (fun c v hc q=>?_) (fun _ q=>q) fun _ _ q=>q⟩
 ·refine S.keep b o (HE b o e) (neT b o e) (fun z=>?_) (B.keep b o e n aq ay)
  exact(dn.mp (aa.rL b z)).elim (rz b o e) aq
 ·obtain⟨c8,aG⟩:=B.slot b o e n aq ay
  obtain⟨kU,aL⟩:=S.slot b _ (HE b o e) (neT b o e) aG
  exact⟨kU,aL⟩
 ·obtain⟨d0,aG⟩:=B.there b o e ay
  obtain⟨kU,aL⟩:=S.slot b _ (HE b o e) (neT b o e) aG
  exact⟨_,aL⟩
 ·have p5:∃ z,H1 c=J z:=by
   rcases hc with rfl | hc
   ·exact⟨_,e⟩
   ·exact⟨_,hc⟩
  obtain⟨z,bI⟩:=p5
  refine S.keep c v (fun y=>?_) (fun y=>?_) (fun y=>?_) q
  ·rw[y,fa] at bI;cases bI
  ·rw[jC c y.symm] at bI;cases bI
  ·rw[aa.yU c y] at bI;cases bI
end
section
variable {P:cX} {w:cu} {K:bO} {mg:af->Option ao} {base:aX} {N:List af} {dy:af} {cI:Scope} {f:ae} {bb:ao} {A:da} {outer:List Env} {s:aI} {H:au} {E:bP}
def Ju(X:bp)(E:bP):Prop:=∀ (ak:List (ae×bo)) (ab:St) (H1:au) (s1:aI) (a C:ae) (ec:bo) (vs:Array ao) (d:Option ae),Inv X ak ab H1 s1->s1.heap.get? a=J ec->ec.cls = .ref C->ec.data = .fields vs->vs[1]?=J .none->wQ a ec.dict vs[2]? d->
 H1 a=aw->X.de.heap.get? a=aw->E (.ref C) d H1->X.xe (.ref a) s1
theorem Ex:Ju (jV (fv P w) P w K mg base N dy cI f bb A outer s H E) E:=by
 intro ak ab H1 s1 a C ec vs d aa he hc hd aj jD fa iK q
 refine Vk (base:=base) aa.ok.frames aa.stack I he hd aj jD fun h' dw hg gv kX=>?_
 have jC:=aa.aR.none gv
 obtain⟨u,hk⟩:=LV (T:=aw) aa rfl rfl kX iK (fun t z=>by cases z) fa (fun t z=>by cases z)
 refine⟨a,C,d,H1,dw,I,aa.os,aa.bare,u,hk,hc ▸ hg,fa,jC,iK,?_,q⟩
 cases z:s.heap.get? dw with
 | none=>rfl
 | some o =>
  obtain⟨d0,e⟩:=aa.base.there dw o z (show dw∉([]:List ae) by simp)
  rw[gv] at e;cases e
theorem gs:Passes (fv P w) (jV (fv P w) P w K mg base N dy cI f bb A outer s H E) E:=by
 intro ak ab H1 s1 e s2 aa h
 obtain⟨a,C,d,ax,T,rfl,os,bare,un,aR,kL,fa,jC,iK,h3,q⟩:=h
 have bA:Inv (jV (fv P w) P w K mg base N dy cI f bb A outer s H E) ak ab ax s2:=aa.xE (ch:=[]) os un aR bare (fun b z=>absurd z (by simp))
 have old:∀ b,s1.heap.get? b=aw->s.heap.get? b=aw:=fun b aq=>by
  cases z:s.heap.get? b with
  | none=>rfl
  | some o =>
   obtain⟨d0,e⟩:=aa.base.there b o z (show b∉([]:List ae) by simp)
   rw[aq] at e;cases e
 refine VN (base:=base) bA.ok.frames bA.stack I kL fun h' dw hg gv kX=>?_
 obtain⟨u,hk⟩:=LV (T:=J T) bA rfl rfl kX (old a iK) (fun t z=>by cases z;exact old T h3) fa (fun t z=>by cases z;exact jC)
 refine⟨a,C,d,ax,dw,I,bA.os,bA.bare,u,hk,hg,fa,bA.aR.none gv,old a iK,?_,q⟩
 cases z:s.heap.get? dw with
 | none=>rfl
 | some o =>
  obtain⟨d0,e⟩:=bA.base.there dw o z (show dw∉([]:List ae) by simp)
  rw[gv] at e;cases e
end
end dg
end
section
namespace dg
open PySem PySem.W PySem.Spec PyProof.Rows
structure ExcC(K:Frag)(C:ae):Prop where
 ga:findIn K (.ref C) "__getattribute__"=J (J (.builtin "BaseException.__getattribute__"))
 gt:findIn K (.ref C) "__getattr__"=J aw
 cl:findIn K (.ref C) "__class__"=J (J (.builtin "object.__class__"))
 dC:mroIn K C (.type "object")=J ag
 be:mroIn K C (.type "BaseException")=J ag
 is:isClsIn K C=ag
 bc:specialIn K (.builtin "object.__class__") "__get__"=J (J (.builtin "getset_descriptor.__get__"))
 cf:takesIn K (.builtin "object.__class__")=J ag
section
variable {K:Frag} {prog:cX} {w:cu} {A:da} {E:ao->aI->Prop} {h:aX} {g:Array GenState} {d:Drawn} {t:Nat} {os:OsState} {x C:ae} {ox:bo} {lG:Option bo} {name:af}
theorem Yd{cf:Tok}{R:Result->aI->Prop}(X:K.In h)(aa:InstAt h x ox C lG)(c:ExcC K C)
  (aU:bE (model prog w) A.in1 (c1.«object.__getattribute__» ⟨[.ref x,.str name cf],[]⟩) (fun cF aF=>match cF with | .done (.ret v)=>R (.ok (.ret v)) aF | _=>False) (fun _ _=>False) ⟨h,g,d,t,os⟩) :
  kA (model prog w) A (.call (.builtin "BaseException.__getattribute__") ⟨[.ref x,.str name cf],[]⟩) R ⟨h,g,d,t,os⟩:=by
 have so:=aa.type (M:=model prog w)
 have nv:=looks_mroIn (M:=model prog w) X c.be
 refine y5 F.attr_ValueError.ga.plain F.entry_bexc_ga (check_slot (i:="BaseException.__getattribute__") (owner:="BaseException") (n:="__getattribute__") (by decide +kernel) (by decide +kernel) (so.andThen nv) (F.args_bexc_ga _ _) ?_)
 refine ja aU (fun cF aF z=>?_) fun _ _ z=>False.elim z
 rcases cF with(_ | _ | _ | _) | _<;>first | exact z | exact z.elim
theorem L3{cf:Tok}{fill expr:Bool}{Q:ao->aI->Prop}(X:K.In h)(aa:InstAt h x ox C lG)(c:ExcC K C)
  (aU:∀ A:da,bE (model prog w) A (c1.«object.__getattribute__» ⟨[.ref x,.str name cf],[]⟩) (fun cF aF=>match cF with | .done (.ret v)=>Q v aF/\handedIn v=ag | _=>False) (fun _ _=>False) ⟨h,g,d,t,os⟩) :
  bE (model prog w) A (getAttrBy (.ref x) (.str name cf) fill expr) Q E ⟨h,g,d,t,os⟩:=by
 have so:=aa.type (M:=model prog w)
 have nv:=looks_findIn (M:=model prog w) X c.ga
 have dg:=looks_findIn (M:=model prog w) X c.gt
 have ha:=F.attr_ValueError.ga.bind (.ref x)
 have Ny:(expr&&onTheHeap (ao.builtin "BaseException.__getattribute__"))=ah:=by cases expr<;>rfl
 have tw:(ao.builtin "BaseException.__getattribute__" == ao.builtin "object.__getattribute__")=ah:=by decide +kernel
 have j3:(onTheHeap (ao.ref C)&&ao.builtin "BaseException.__getattribute__" == ao.builtin "object.__getattribute__")=ah:=by rw[tw];rfl
 unfold getAttrBy
 refine wpAny_holding (bC (so.at (bC (nv.at ?_))))
 dsimp only
 rw[if_neg (by rw[j3];decide)]
 have rest:∀ A:da,kA (model prog w) A (.call (.builtin "BaseException.__getattribute__") ⟨[.ref x,.str name cf],[]⟩) (fun r aF=>match r with | .ok (.ret v)=>Q v aF/\handedIn v=ag | _=>False) ⟨h,g,d,t,os⟩:=fun A=>Yd X aa c (ja (aU A.in1) (fun cF aF z=>by rcases cF with(_ | _ | _ | _) | _<;>first | exact z | exact z.elim) fun _ _ z=>z.elim)
 repeat (any_goals (first | assumption | with_reducible refine dg.at ?_ | wp_step))
 refine lP (rest A) fun r aF z=>?_
 cases r with
 | error e=>exact z.elim
 | ok dq=>cases dq with
  | ret v=>exact handed_on z.2 z.1
  | next=>exact z.elim
  | brk=>exact z.elim
  | cont=>exact z.elim
theorem T8{cf:Tok}{Q:Fin->aI->Prop}(X:K.In h)(aa:InstAt h x ox C lG)(c:ExcC K C)(aU:Q (.done (.ret (.ref C))) ⟨h,g,d,t,os⟩) :
  bE (model prog w) A (c1.«object.__getattribute__» ⟨[.ref x,.str "__class__" cf],[]⟩) Q E ⟨h,g,d,t,os⟩:=by
 have so:=aa.type (M:=model prog w)
 obtain⟨c4,hc⟩:=Option.isSome_iff_exists.mp (show (clsIn K C).isSome=ag from c.is)
 have aE:findObj K C lG "__class__"=J (.bind (.builtin "getset_descriptor.__get__") (.builtin "object.__class__")):=by
  unfold findObj
  rw[hc,Option.bind_some,c.cl,Option.bind_some]
  simp[c.bc,c.cf]
 have nv:=looks_find (M:=model prog w) X aa aE
 repeat (any_goals (first | assumption | with_reducible refine so.at ?_ | with_reducible refine nv.at ?_ | wp_step))
 refine class_get (s:=⟨h,g,d,t,os⟩) (ox:=ox) (od:=lG) X aa c.dC ?_
 repeat (any_goals (first | assumption | wp_step))
theorem T7{cf:Tok}{v:ao}{Q:Fin->aI->Prop}(X:K.In h)(aa:InstAt h x ox C lG)(aE:findObj K C lG name=J (.value v))(aU:Q (.done (.ret v)) ⟨h,g,d,t,os⟩) :
  bE (model prog w) A (c1.«object.__getattribute__» ⟨[.ref x,.str name cf],[]⟩) Q E ⟨h,g,d,t,os⟩:=by
 have so:=aa.type (M:=model prog w)
 have nv:=looks_find (M:=model prog w) X aa aE
 repeat (any_goals (first | assumption | with_reducible refine so.at ?_ | with_reducible refine nv.at ?_ | wp_step))
theorem Xd{Q:Option ao->aI->Prop}{s:aI}(X:K.In s.heap)(aa:InstAt s.heap x ox C lG)(c:ExcC K C)(aU:Q (J (.ref C)) {s with toks:=s.toks+1}):bE (model prog w) A (getAttr? (.ref x) "__class__") Q E s:=by
 obtain⟨h,g,d,t,os⟩:=s
 unfold getAttr? getAttrBy?
 refine bC (wpAny_mkText (bC (wpAny_attempt ?_)))
 exact L3 X aa c fun A=>T8 X aa c ⟨dv aU,I⟩
theorem Xc{Q:ao->aI->Prop}{expr:Bool}{v:ao}{s:aI}(X:K.In s.heap)(aa:InstAt s.heap x ox C lG)(c:ExcC K C)(aE:findObj K C lG name=J (.value v))(bl:handedIn v=ag)(aU:Q v {s with toks:=s.toks+1}):bE (model prog w) A (getAttr (.ref x) name expr) Q E s:=by
 obtain⟨h,g,d,t,os⟩:=s
 unfold getAttr
 refine bC (wpAny_mkText ?_)
 exact L3 X aa c fun A=>T7 X aa aE ⟨aU,bl⟩
theorem Le(c:ExcC K C):KitX K (.ref x) (.ref C) (fun h=>∃ ox lG,InstAt h x ox C lG) where
 ty:=fun _ _ _ ⟨_,_,aa⟩=>aa.type
 it:=fun _ _ X _=>by
  obtain⟨Mf,kP⟩:=Option.isSome_iff_exists.mp (show (clsIn K C).isSome=ag from c.is)
  unfold clsIn at kP
  split at kP
  ·rename_i ia d' Me kU aJ
   intro uj fX qB aF k q
   unfold isType loadHead
   exact bC (wpAny_loadPart (k _ _ (X _ _ aJ)) (dv q))
  ·cases kP
 ne:=fun h ahx eI bq n c8 X ab1=>by
  obtain⟨Mf,kP⟩:=Option.isSome_iff_exists.mp (show (clsIn K C).isSome=ag from c.is)
  refine Bool.eq_false_iff.mpr fun q=>?_
  have e:C=ahx:=ao.ref.inj (beq_iff_eq.mp q)
  subst e
  unfold clsIn at kP
  split at kP
  ·rename_i ia d' Me kU aJ
   have z:=(X _ _ aJ).symm.trans ab1
   cases z
  ·cases kP
 ca:=fun X ⟨_,_,aa⟩ k=>Xd X aa c k
end
section
variable {P:cX} {w:cu} {K:bO} {mg:af->Option ao} {base:aX}
def lr(H:au)(E:bP):bP:=fun c d H'=>∃ bY,Sub H bY H'/\E c d bY
theorem cg.acJ{k:Nat}{f:ae}{fd:fu}{ps:List af}{sp rI:b5}(F:cg P w K mg base (fv P w) k f fd ps sp)
  (h:∀ vs H Q E,rI vs H Q E->sp vs H (fun v H'=>∃ bY,Sub H bY H'/\Q v bY) (lr H E)):cg P w K mg base (fv P w) k f fd ps rI:=by
 refine⟨fun vs H Q E q=>F.len vs H _ _ (h vs H Q E q),fun A outer s H args us vs Q E az eL aq r q=>lP (F.run A outer s H args us vs _ _ az eL aq r (h vs H Q E q)) fun rs aF c=>?_⟩
 cases rs with
 | error e =>
  obtain⟨a,C,d,H',T,rfl,os,bare,un,aR,kL,fa,jC,iK,h3,bY,eI,iA⟩:=c
  have nn:∀ b,H' b=aw->bY b=aw:=fun b aq=>by
   cases z:bY b with
   | none=>rfl
   | some o=>have:=eI.le b o z;rw[aq] at this;cases this
  exact⟨a,C,d,bY,T,I,os,bare,fB.sub (fB.refl (h:=s.heap)) un eI,aR.sub (eI.cl eL.aR.closed) eI.le,kL,nn a fa,nn T jC,iK,h3,iA⟩
 | ok dq =>
  cases dq with
  | ret u =>
   obtain⟨v,H',os,bare,un,aR,dH,bY,d,iA⟩:=c
   exact⟨v,bY,os,bare,fB.sub (fB.refl (h:=s.heap)) un d,aR.sub (d.cl eL.aR.closed) d.le,dH,iA⟩
  | next=>exact c
  | brk=>exact c
  | cont=>exact c
theorem c2.B6{x dy:af}{st:bj}{f:ae}{fd:fu}{N ps:List af}{k:Nat}{sp:b5}(F:c2 K x dy st f fd)(S:bZ N ps (bF st))(len:∀ vs H Q E,sp vs H Q E->vs.length=ps.length)
  (jj:∀ (bb:ao) (A:da) (outer:List Env) (s:aI) (H:au) (vs:List V) (Q:bx) (E:bP),e4 k (A.deeper (envOfC dy (bF st) s.heap.objs.size f bb))->sp vs H Q E->
   ∃ t,hj (jV (fv P w) P w K mg base N dy (bF st) f bb A outer s H (lr H E)) (iw st) t/\t {nx:=fun _ H'=>∃ bY,Sub H bY H'/\Q .bL bY,rt:=fun v H'=>∃ bY,Sub H bY H'/\Q v bY} (start N vs) H):cg P w K mg base (fv P w) (k+1) f fd ps sp:=by
 refine cg.acJ (sp:=fun vs H Q E=>∃ fX qB,Q=(fun v H'=>∃ bY,Sub H bY H'/\fX v bY)/\E=lr H qB/\sp vs H fX qB) ?_ fun vs H Q E h=>⟨Q,E,I,I,h⟩
 obtain⟨ik,od,gr,doc,pm,an,bb,ct,mi,rfl,oW,j0⟩:=F.ex
 refine JK oW j0 S (fun vs H Q E ⟨fX,qB,_,_,h⟩=>len vs H fX qB h) fun A outer s H vs Q E az bD=>?_
 obtain⟨fX,qB,aG,aL,n5⟩:=bD
 subst aG aL
 exact jj bb A outer s H vs fX qB az n5
def gH(P:cX)(w:cu)(K:bO)(mg:af->Option ao)(base:aX)(k:Nat)(x:af)(ps:List af)(sp:b5):Prop :=
 ∃ f fd,cg P w K mg base (fv P w) k f fd ps sp/\Binds K fd ps []/\j9 K (.ref f)=ag/\mg x=J (.ref f)
theorem dF.B6{x:af}{st:bj}{f:ae}{fd:fu}{N ps:List af}{k:Nat}{sp:b5}(F:dF K mg x st ps f fd)(S:bZ N ps (bF st))(len:∀ vs H Q E,sp vs H Q E->vs.length=ps.length)
  (jj:∀ (bb:ao) (A:da) (outer:List Env) (s:aI) (H:au) (vs:List V) (Q:bx) (E:bP),e4 k (A.deeper (envOfC x (bF st) s.heap.objs.size f bb))->sp vs H Q E->
   ∃ t,hj (jV (fv P w) P w K mg base N x (bF st) f bb A outer s H (lr H E)) (iw st) t/\t {nx:=fun _ H'=>∃ bY,Sub H bY H'/\Q .bL bY,rt:=fun v H'=>∃ bY,Sub H bY H'/\Q v bY} (start N vs) H):gH P w K mg base (k+1) x ps sp :=
 ⟨f,fd,F.1.B6 S len jj,F.2.1,F.1.ij,F.2.2⟩
end
def uW(CX:k0)(X:bp)(E:St->bP):Prop:=∀ (ak:List (ae×bo)) (ab:St) (H:au) (s:aI) (e:ao) (aF:aI),Inv X ak ab H s->CX X.stack H s (E ab) e aF->X.xe e aF
theorem Passes.x{CX:k0}{X:bp}{E:bP}(h:Passes CX X E):uW CX X fun _=>E:=h
def agL(sp:b5)(E:St->bP)(t:gw):TE:=fun ab H Q=>t ab H fun vs H1=>sp vs H1 Q (E ab)
section
variable {X:bp} {k eD:Nat} {x:af} {ps:List af} {sp:b5} {e:b2} {aV:List b2} {t:gw} {p aO:Pos} {E:St->bP}
theorem kH(h:gH X.prog X.w X.K X.mg X.base k x ps sp)(az:e4 eD X.A)(ay:uW (fv X.prog X.w) X E)(ba:hx X (e::aV) t)(hk:k<=eD:=by decide)(aK:h5 X x:=by rfl)(iI:(x == ("__debug__":af))=ah:=by decide +kernel)
  (he:df (e::aV) X.env=(ah,eval e X.env)::df aV X.env:=by rfl) (f6:(backTo aO (df aV X.env)).any (·.1)=ah:=by rfl):bW X (.Call (.Name x p) (e::aV) [] aO) (agL sp E t):=by
 obtain⟨f,fd,F,aq,ij,hm⟩:=h
 intro ak s ab H Q aa h
 refine qt (qR aa aK hm ?_ iI)
 refine wG (h₀:=X.base) aa.ok.mod.qi ij (cz (ba aO ak s ab H _ aa h) fun us s1 bD=>?_) he f6
 obtain⟨vs,H1,aS,r,q⟩:=bD
 refine ⟨aS.es,?_⟩
 have aC:us.length=ps.length:=by rw[<- r.length];exact F.len _ _ _ _ q
 have iZ:=aq s1 us aS.es (by rw[List.append_nil];exact aC)
 rw[List.append_nil] at iZ
 refine pd (lP (F.run X.A X.stack s1 H1 ⟨us,[]⟩ us vs Q (E ab) (az.mono hk) aS.vw iZ r q) fun r aF aU=>?_)
 cases r with
 | error e=>exact ay ak ab H1 s1 e aF aS aU
 | ok dq =>
  cases dq with
  | ret u=>exact aS.after aU
  | next=>exact False.elim aU
  | brk=>exact False.elim aU
  | cont=>exact False.elim aU
end
abbrev l0:List ao:=[.type "ValueError",.type "Exception",.type "BaseException",.type "object"]
noncomputable def k2(a C:ae)(d:Option ae):cv := .ext fun h=>∃ o vs,h.get? a=J o/\o.cls = .ref C/\wQ a o.dict vs[2]? d/\o.data = .fields vs/\True
theorem Sh{P:cX}{w:cu}{H:au}{h:aX}{a C T:ae}{d:Option ae}{dq:ao}(f:kc h a (.ref C) d T dq):gg P w H h a (k2 a C d):=by
 obtain⟨ec,vs,jE,i7,he,hc,hE,hd,_,_,_,_,_,jD⟩:=f
 exact⟨⟨ec,vs,he,hc,hE,hd,jD⟩,⟨ec,he⟩,fun aj ar ⟨o,vs,aG,aL,dE,eJ,nQ⟩ k=>⟨o,vs,k o aG,aL,dE,eJ,nQ⟩⟩
theorem VQ{M:Model}{A:da}{E:ao->aI->Prop}{K:Frag}{s:aI}{a C D:ae}{o:bo}{b:Bool}{Q:Bool->aI->Prop}(X:K.In s.heap)(he:s.heap.get? a=J o)(hc:o.cls = .ref C)(xD:ExcC K D)(qq:typeIn K (.ref D)=J (.type "type"))
  (hm:mroIn K C (.ref D)=J b) (aU:Q b s):bE M A (excMatches (.ref a) (.ref D)) Q E s:=by
 obtain⟨h,g,d,t,os⟩:=s
 have nv:=looks_typeIn (M:=M) X qq
 have dg:=looks_mroIn (M:=M) X xD.be
 have De:=looks_mroIn (M:=M) X hm
 have aiC:=(Le (x:=a) xD).it M h X
 have Q0:Looks M h (isType (.ref D)) ag:=by
  obtain⟨Mf,kP⟩:=Option.isSome_iff_exists.mp (show (clsIn K D).isSome=ag from xD.is)
  unfold clsIn at kP
  split at kP
  ·rename_i ia d' Me kU aJ
   intro uj fX qB aF k q
   unfold isType loadHead
   exact bC (wpAny_loadPart (k _ _ (X _ _ aJ)) (dv q))
  ·cases kP
 have f:=tc_notTuple
 unfold excMatches isExcClass isInstance
 repeat (first | (with_reducible refine wH he ?_;rw[hc]) | with_reducible refine nv.at ?_ | with_reducible refine Q0.at ?_ | with_reducible refine dg.at ?_ | with_reducible refine De.at ?_ | wp_step)
 cases b
 ·repeat (first | exact aU | wp_step)
 ·repeat (first | exact aU | wp_step)
section
variable {X:bp} {ak:List (ae×bo)} {ab:St} {H1 ax:au} {s1 s2:aI} {h':aX} {a C T dw:ae} {d:Option ae}
theorem Inv.Md{t':Nat}(aS:Inv X ak ab H1 s1)(bA:Inv X ak ab ax s2)(hex:X.ex=[])(iK:s1.heap.get? a=aw)(h3:s1.heap.get? T=aw)(fa:ax a=aw)(jC:ax T=aw)
  (keep:∀ b o,b≠a->b≠T->b∉iy X.stack->s2.heap.get? b=J o->h'.get? b=J o)
  (slot:∀ b o,b≠a->b≠T->s2.heap.get? b=J o->∃ c8,h'.get? b=J {o with slots:=c8}) (kL:kc h' a (.ref C) d dw .none):Inv X ak ab (upd ax a (k2 a C d)) {s2 with heap:=h',toks:=t'}:=by
 have ne:∀ b o,s1.heap.get? b=J o->b≠a/\b≠T:=fun b o e=>⟨fun z=>(by rw[z,iK] at e;cases e),fun z=>(by rw[z,h3] at e;cases e)⟩
 have tG:∀ b o,X.de.heap.get? b=J o->b≠a/\b≠T:=fun b o e=>by
  obtain⟨d0,e'⟩:=aS.base.there b o e (by rw[hex];simp)
  exact ne b d0 e'
 have rz:∀ b o,X.de.heap.get? b=J o->b≠X.env.locals:=fun b o e=>fj (fi (dX e) bA.ok.above)
 have oY:X.env.locals≠a/\X.env.locals≠T:=by
  obtain⟨m,⟨o,_,_,aJ,_⟩,_⟩:=aS.loc
  exact ne _ o aJ
 have yv:∀ x c,X.env.cells.lookup x=J c->c≠a/\c≠T:=fun x c e=>by
  obtain⟨v,o,aJ,_⟩:=aS.cell x c e
  exact ne c o aJ
 have cellK:∀ x c,X.env.cells.lookup x=J c->∀ v,s2.heap.IsCell c v->h'.IsCell c v:=fun x c e v ⟨o,aJ,hd⟩=>by
  obtain⟨c8,q⟩:=slot c o (yv x c e).1 (yv x c e).2 aJ
  exact⟨_,q,hd⟩
 refine⟨bA.ok,bA.os,bA.bare,⟨fun b o e n aq ay=>?_,fun b o e n aq ay=>?_,fun b o e n ay=>?_,fun b o e ay=>?_,fun b xs e=>?_,fun b o u e=>?_,fun b ps e=>?_⟩,?_,fun x c e=>?_,?_,fun x c e=>?_,fun p bh=>?_,fun b u e=>?_,bA.len⟩
 ·refine keep b o (tG b o e).1 (tG b o e).2 (fun z=>?_) (bA.base.keep b o e n aq ay)
  exact(dn.mp (bA.rL b z)).elim (rz b o e) aq
 ·obtain⟨c8,aG⟩:=bA.base.slot b o e n aq ay
  obtain⟨kU,aL⟩:=slot b _ (tG b o e).1 (tG b o e).2 aG
  exact⟨kU,aL⟩
 ·rw[bJ (tG b o e).1];exact bA.base.free b o e n ay
 ·obtain⟨d0,aG⟩:=bA.base.there b o e ay
  obtain⟨kU,aL⟩:=slot b _ (tG b o e).1 (tG b o e).2 aG
  exact⟨_,aL⟩
 ·have:=bA.base.lL b xs e
  rw[bJ (eO this fa)];exact this
 ·have:=bA.base.kM b o u e
  rw[bJ (eO this fa)];exact this
 ·obtain⟨more,this⟩:=bA.base.lK b ps e
  exact⟨more,by rw[bJ (eO this fa)];exact this⟩
 ·obtain⟨m,⟨o,aV,fV,aJ,r⟩,aC⟩:=bA.loc
  obtain⟨c8,q⟩:=slot _ o oY.1 oY.2 aJ
  refine⟨m,⟨_,aV,fV,q,r⟩,fun i x v aG aL dE=>?_⟩
  obtain⟨u,r,l⟩:=aC i x v aG aL dE
  refine⟨u,r,?_⟩
  rcases l with l | ⟨k,c,e,z⟩
  ·exact .inl l
  ·exact .inr ⟨k,c,e,cellK x c e _ z⟩
 ·obtain⟨v,z⟩:=bA.cell x c e
  exact⟨v,cellK x c e v z⟩
 ·rw[bJ oY.1];exact bA.free
 ·rw[bJ (yv x c e).1];exact bA.jY x c e
 ·obtain⟨e,n,ne',kq,eI⟩:=bA.pin p bh
  obtain⟨aG,_⟩:=aS.pin p bh
  refine⟨keep p.1 p.2 (ne _ _ aG).1 (ne _ _ aG).2 (fun z=>(dn.mp (bA.rL _ z)).elim ne' kq) e,?_,ne',kq,eI⟩
  rw[bJ (ne _ _ aG).1];exact n
 ·by_cases aq:b=a
  ·subst aq
   rw[aM] at e;cases e
   exact Sh kL
  ·rw[bJ aq] at e
   refine(bA.aR b u e).mn (fun c v hc q=>?_) (fun c r=>by rw[bJ (eO r fa)];exact r) fun c xs r=>by rw[bJ (eO r fa)];exact r
   have p5:∃ z,ax c=J z:=by
    rcases hc with rfl | hc
    ·exact⟨_,e⟩
    ·exact⟨_,hc⟩
   obtain⟨z,bI⟩:=p5
   refine keep c v (eO bI fa) (eO bI jC) (fun y=>?_) q
   rw[bA.yU c y] at bI;cases bI
end
def ahC(X:bp)(pn:List (ae×bo))(Eh:St->bP)(e:ao)(aF:aI):Prop:=∃ a C d T bQ H1 H' s1,e = .ref a/\Inv {X with pn:=pn} [] bQ H1 s1/\Inv {X with pn:=pn} [] bQ H' aF/\kc aF.heap a (.ref C) d T .none/\
 H' a=aw/\H' T=aw/\s1.heap.get? a=aw/\s1.heap.get? T=aw/\Eh bQ (.ref C) d H'
noncomputable def bp.PM(X:bp)(pn:List (ae×bo))(Eh:St->bP):bp:={X with pn:=pn,xe:=ahC X pn Eh}
noncomputable def bp.vO(X:bp)(pn:List (ae×bo))(e:ae):bp:={X with pn:=pn,A:=X.A.mark (J (.ref e)),calm:=ah,xe:=fun _ _=>False}
theorem Ks{X:bp}{pn:List (ae×bo)}{Eh:St->bP}:uW (fv X.prog X.w) (X.PM pn Eh) Eh:=by
 intro ak ab H1 s1 e s2 aa h
 obtain⟨a,C,d,ax,T,rfl,os,bare,un,aR,kL,fa,jC,iK,h3,q⟩:=h
 have aS:Inv {X with pn:=pn} [] ab H1 s1:=Inv.lN (X:={X with pn:=pn}) (Inv.HR (pins':=[]) aa (by simp))
 exact⟨a,C,d,T,ab,H1,ax,s1,I,aS,aS.xE (ch:=[]) os un aR bare (fun b z=>absurd z (by simp)),kL,fa,jC,iK,h3,q⟩
def ag3(K:Frag)(D:ae)(i:Nat)(Eh:St->bP)(c9 o6:eK):eK:=fun qA ab H=>c9 qA ab H/\∀ bQ C d H' a,Eh bQ (.ref C) d H'->H' a=aw->mroIn K C (.ref D)=J ag/\
 o6 {nx:=fun ab H=>qA.nx (ab.set i aw) H,rt:=qA.rt,bk:=fun ab H=>qA.bk (ab.set i aw) H,ct:=fun ab H=>qA.ct (ab.set i aw) H} (bQ.set i (J (.ref a))) (upd H' a (k2 a C d))
theorem bp.Ok.aet{X:bp}(ok:X.Ok)(pn:List (ae×bo)):bp.Ok {X with pn:=pn} :=
 ⟨ok.mod,ok.kind,ok.glob,ok.blt,ok.above,ok.inj,ok.has,ok.s6,ok.hd,ok.frames,ok.wt,ok.Be,ok.bs,ok.nL,ok.tI,ok.vy,ok.ly,ok.pU⟩
theorem bp.Ok.hand{X:bp}{pn:List (ae×bo)}(ok:bp.Ok {X with pn:=pn})(e:ae):bp.Ok (X.vO pn e) :=
 ⟨ok.mod,ok.kind,ok.glob,ok.blt,ok.above,ok.inj,ok.has,ok.s6,fun z=>Bool.noConfusion z,ok.frames,ok.wt,ok.Be,ok.bs,ok.nL,ok.tI,ok.vy,ok.ly,ok.pU⟩
theorem Inv.hand{X:bp}{pn:List (ae×bo)}{ab:St}{H:au}{s:aI}(aa:Inv {X with pn:=pn} [] ab H s)(e:ae):Inv (X.vO pn e) [] ab H s :=
 ⟨aa.ok.hand e,aa.os,aa.bare,aa.base,aa.loc,aa.cell,aa.free,aa.jY,aa.pin,aa.aR,aa.len⟩
theorem Inv.ins{X:bp}{ak:List (ae×bo)}{ab:St}{H:au}{s:aI}(aa:Inv X ak ab H s):Inv {X with pn:=X.pn++ak} [] ab H s :=
 ⟨aa.ok.aet _,aa.os,aa.bare,aa.base,aa.loc,aa.cell,aa.free,aa.jY,fun p bh=>aa.pin p (by simpa using bh),aa.aR,aa.len⟩
theorem Inv.Ca{X Y:bp}{ak:List (ae×bo)}{ab:St}{H:au}{s:aI}(ok:X.Ok)(aa:Inv {X with pn:=X.pn++ak} [] ab H s):Inv X ak ab H s :=
 ⟨ok,aa.os,aa.bare,aa.base,aa.loc,aa.cell,aa.free,aa.jY,fun p bh=>aa.pin p (by simpa using bh),aa.aR,aa.len⟩
theorem Inv.CB{X:bp}{ak:List (ae×bo)}{ab:St}{H:au}{s:aI}{e:ae}(ok:X.Ok)(aa:Inv (X.vO (X.pn++ak) e) [] ab H s):Inv X ak ab H s :=
 ⟨ok,aa.os,aa.bare,aa.base,aa.loc,aa.cell,aa.free,aa.jY,fun p bh=>aa.pin p (by simpa [bp.vO] using bh),aa.aR,aa.len⟩
theorem Inv.gone{X:bp}{M:Model}{A:da}{E:ao->aI->Prop}{ak:List (ae×bo)}{ab:St}{H:au}{s:aI}{n:af}{i:Nat}{aO:Pos}{Q:Unit->aI->Prop}(aa:Inv X ak ab H s)(bU:X.N.Nodup)(aB:X.N[i]?=J n)(aC:X.env.scope.names.lookup n=J .local)
  (h:∀ aF,Inv X ak (ab.set i aw) H aF->Q () aF):bE M A (do bindName X.env n .none;unbindBehindTheSuite X.env n aO) Q E s:=by
 obtain⟨m,bc,abk⟩:=id aa.loc
 have GO:(X.env.scope.kind == .class||(X.env.scope.kind == .module&&X.env.locals != X.env.globals))=ah:=by rw[aa.ok.kind];rfl
 have BB:i<ab.length:=by rw[aa.len];exact(kE.mp aB).1
 refine wpAny_nameGoes_keeps aC bc GO fun h' v mS hs=>?_
 obtain⟨N1,_,_,Nn,_⟩:=id bc
 have tracked:fh X.prog X.w H h':=fun b dC e=>by
  refine(aa.aR b dC e).mn (fun c hN hc q=>(hs.2 c ?_).trans q) (fun _ q=>q) fun _ _ q=>q
  rintro rfl
  rcases hc with rfl | hc
  ·rw[aa.free] at e;cases e
  ·rw[aa.free] at hc;cases hc
 refine h _ ⟨aa.ok,aa.os,aa.bare,⟨fun b o e n aq ay=>?_,fun b o e n aq ay=>?_,aa.base.free,fun b o e ay=>?_,aa.base.lL,aa.base.kM,aa.base.lK⟩,⟨_,mS,fun j y jm aG aL dE=>?_⟩,fun y c e=>?_,aa.free,aa.jY,fun p bh=>?_,tracked,by simpa using aa.len⟩
 ·exact(hs.2 b (fj (fi (dX e) aa.ok.above))).trans (aa.base.keep b o e n aq ay)
 ·obtain⟨c8,aG⟩:=aa.base.slot b o e n aq ay
  exact⟨c8,(hs.2 b (fj (fi (dX e) aa.ok.above))).trans aG⟩
 ·obtain⟨d0,aG⟩:=aa.base.there b o e ay
  exact⟨d0,(hs.2 b (fj (fi (dX e) aa.ok.above))).trans aG⟩
 ·by_cases cy:j=i
  ·subst cy
   rw[List.getElem?_set_self BB] at aL
   cases aL
  ·rw[List.getElem?_set_ne (d2 cy)] at aL
   obtain⟨rP,e2,q⟩:=abk j y jm aG aL dE
   refine⟨rP,e2,?_⟩
   rcases q with⟨k,e⟩ | ⟨k,c,e,z⟩
   ·refine .inl ⟨k,?_⟩
    have:y≠n:=fun e=>cy (ER bU aG (e ▸ aB))
    simp[this,e]
   ·exact .inr ⟨k,c,e,z.sameBut hs (aa.pN y c e)⟩
 ·obtain⟨hN,z⟩:=aa.cell y c e
  exact⟨hN,z.sameBut hs (aa.pN y c e)⟩
 ·obtain⟨e,n,ne,kq,d⟩:=aa.pin p bh
  exact⟨(hs.2 p.1 ne).trans e,n,ne,kq,d⟩
theorem SF{X:bp}{body PA:List bj}{Ma:bj}{x n:af}{i:Nat}{D:ae}{np aO wA:Pos}{c9 o6:eK}{Eh:St->bP}(aq:∀ pn,hj (X.PM pn Eh) body c9)(fp:∀ pn e,hj (X.vO pn e) (Ma::PA) o6)
  (hm:X.mg x=J (.ref D)) (xD:ExcC X.K D) (qq:typeIn X.K (.ref D)=J (.type "type")) (bU:X.N.Nodup) (aB:X.N[i]?=J n:=by rfl) (aC:X.env.scope.names.lookup n=J .local:=by rfl)
  (hs:X.stack=X.env::X.outer:=by rfl) (aE:X.env.frame=J X.env.locals:=by rfl) (hex:X.ex=[]:=by rfl) (aK:h5 X x:=by rfl) (iI:(x == ("__debug__":af))=ah:=by decide +kernel) :
  jv X (.Try body [.ExceptHandler (J (.Name x np)) (J n) (Ma::PA) aO] [] [] wA) (ag3 X.K D i Eh c9 o6):=by
 intro ak s ab H qA aa ⟨aj,ar⟩
 have ok:=aa.ok
 refine wpAny_Try_except (ja (aq (X.pn++ak) [] s ab H qA (aa.ins.na _) aj) (fun f s1 z=>?_) (fun e s1 z=>?_))
 ·cases f with
  | next =>
   obtain⟨bQ,H',gS,q⟩:=z
   exact cQ (X:=X) ak s1 bQ H' qA (Inv.Ca (Y:=X) ok (Inv.lN (X:={X with pn:=X.pn++ak}) gS)) q
  | brk=>obtain⟨bQ,H',gS,q⟩:=z;exact⟨bQ,H',Inv.Ca (Y:=X) ok (Inv.lN (X:={X with pn:=X.pn++ak}) gS),q⟩
  | cont=>obtain⟨bQ,H',gS,q⟩:=z;exact⟨bQ,H',Inv.Ca (Y:=X) ok (Inv.lN (X:={X with pn:=X.pn++ak}) gS),q⟩
  | ret u=>obtain⟨v,bQ,H',gS,r,q⟩:=z;exact⟨v,bQ,H',Inv.Ca (Y:=X) ok (Inv.lN (X:={X with pn:=X.pn++ak}) gS),r,q⟩
 obtain⟨a,C,d,T,bQ,H1,H',s0,rfl,aS,bA,kL,fa,jC,iK,h3,q⟩:=z
 obtain⟨abt,aW⟩:=ar bQ C d H' a q fa
 have fr:X.A.frames=J (X.env::X.outer):=ok.frames.trans (congrArg J hs)
 have fst:s1.heap.FunFrames X.base (X.env::X.outer):=hs ▸ bA.stack
 refine HJ fr fst aE kL fun h' dw hg gv kX jI=>?_
 refine yr (s:={s1 with heap:=h'}) kX hg fun ar j8 i8 nd=>?_
 have oZ:∀ b o,s1.heap.get? b=J o->b≠dw:=fun b o e z=>by rw[z,gv] at e;cases e
 have e1:∀ b o,b≠a->b≠T->b∉iy X.stack->s1.heap.get? b=J o->ar.get? b=J o:=fun b o aG aL dE eJ=>nd b o (oZ b o eJ) (jI.keep b o aG (fun z=>aL (gN z)) (fun z=>dE (by rw[hs];exact z)) eJ)
 have et:∀ b o,b≠a->b≠T->s1.heap.get? b=J o->∃ c8,ar.get? b=J {o with slots:=c8}:=fun b o aG aL eJ=>by
  obtain⟨c8,e⟩:=jI.slot b o aG (fun z=>aL (gN z)) eJ
  exact⟨c8,nd b _ (oZ b o eJ) e⟩
 have Jf:=(aS.Md (h':=ar) (t':=s1.toks) bA hex iK h3 fa jC e1 et j8).hand a
 refine wpAny_handleBy_cons (codeAny_handlers_test (qR Jf aK hm ?_ iI)) (by intro q;cases q)
 obtain⟨ec,vs,jE,i7,he,hc,hE,hd,_⟩:=id j8
 refine VQ (K:=X.K) Jf.es he hc xD qq abt ?_
 refine codeAny_handlers_suite_as (yr (s:={s1 with heap:=ar}) i8 j8 fun bB yX rR mq=>?_)
 have dO:∀ b o,b≠dw->ar.get? b=J o->bB.get? b=J o:=mq
 have QY:=(aS.Md (h':=bB) (t':=s1.toks) bA hex iK h3 fa jC (fun b o aG aL dE eJ=>mq b o (oZ b o eJ) (e1 b o aG aL dE eJ)) (fun b o aG aL eJ=>by
  obtain⟨c8,e⟩:=et b o aG aL eJ
  exact⟨c8,mq b _ (oZ b o eJ) e⟩) yX).hand a
 refine EK (X:=X.vO (X.pn++ak) a) (v := .ref a) QY bU aB (.inl aC) I (fun qm ow=>?_) (.inr aC)
 refine ja (fp (X.pn++ak) a [] qm _ _ _ ow aW) (fun f wi z=>?_) fun _ _ z=>False.elim z
 cases f with
 | next =>
  obtain⟨y2,fg,nr,m3⟩:=z
  exact Inv.gone (nr.CB ok) bU aB aC fun t4 nt=>⟨_,fg,nt,m3⟩
 | brk =>
  obtain⟨y2,fg,nr,m3⟩:=z
  exact Inv.gone (nr.CB ok) bU aB aC fun t4 nt=>⟨_,fg,nt,m3⟩
 | cont =>
  obtain⟨y2,fg,nr,m3⟩:=z
  exact Inv.gone (nr.CB ok) bU aB aC fun t4 nt=>⟨_,fg,nt,m3⟩
 | ret u =>
  obtain⟨v,y2,fg,nr,t2,m3⟩:=z
  exact Inv.gone (nr.CB ok) bU aB aC fun t4 nt=>⟨v,_,fg,nt,t2,m3⟩
section
variable {X:bp}
theorem nK:js X (.builtin "isinstance") (fun xs H Q=>∃ a C d c b,xs=[.ref a,c]/\H a=J (k2 a C d)/\ExcC X.K C/\(d=aw\/∃ al fs,d=J al/\H al=J (.iL fs))/\(∀ mI,RelV c mI->eU X.K (.ref C) mI=J b)/\Q (.aH b) H):=by
 intro ak s ab H xs us Q aa r h
 obtain⟨a,C,d,c,b,rfl,c7,gm,hd,kJ,q⟩:=h
 obtain⟨u,hN,rfl,cp,el⟩:=vals2 r
 cases (show u=ao.ref a from cp)
 obtain⟨⟨o,vs,aG,aL,dE,eJ,_⟩,_⟩:=(show gg X.prog X.w H s.heap a (k2 a C d) from aa.aR a _ c7)
 have dD:∃ ox lG,W.InstAt s.heap a ox C lG:=by
  obtain⟨cls,dict,data,c8⟩:=o
  subst aL eJ
  rcases dE with⟨dE,_⟩ | ⟨_,dE,_⟩
  ·dsimp only at dE
   subst dE
   rcases hd with rfl | ⟨al,fs,rfl,ay⟩
   ·exact⟨_,aw,aG,I,I,trivial⟩
   ·obtain⟨u,Zx⟩:=aa.aR.there ay
    exact⟨_,J u,aG,I,I,Zx⟩
  ·dsimp only at dE
   subst dE
   exact⟨_,aw,aG,I,I,trivial⟩
 exact pb (Le gm) aa.es dD (kJ hN el) (fun z=>nomatch z) fun cf=>⟨.aH b,H,aa.tok _,I,q⟩
theorem KQ:∀ ns:List Bool,PyData.canLayAll0 (ns.map PyData.bool)=ag
 | []=>rfl
 | _::r=>by simp[PyData.canLayAll0,PyData.canLay0,KQ r]
theorem Lf:∀ ns:List Bool,PyData.depthAll (ns.map PyData.bool)=0
 | []=>rfl
 | _::r=>by simp[PyData.depthAll,PyData.depth,Lf r]
theorem KP(ns:List Bool):SeqAt.shaped (.list (ns.map PyData.bool))=ag:=by
 simp[SeqAt.shaped,PyData.canLay0,PyData.depth,KQ,Lf]
theorem Kt:∀ ns ms:List Bool,PySem.Spec.sameAll (ns.map PyData.bool) (ms.map PyData.bool)=decide (ns=ms)
 | [],[]=>by simp[PySem.Spec.sameAll]
 | [],_::_=>by simp[PySem.Spec.sameAll]
 | _::_,[]=>by simp[PySem.Spec.sameAll]
 | a::r,b::t=>by
  simp only[jw,PySem.Spec.sameAll,PySem.Spec.same,Kt r t]
  by_cases h:a=b<;>by_cases h':r=t<;>simp[h,h']
theorem R8(ns ms:List Bool):PySem.Spec.same (.list (ns.map PyData.bool)) (.list (ms.map PyData.bool))=decide (ns=ms):=by
 simp only[PySem.Spec.same];exact Kt ns ms
theorem Er:∀ {vs:List ao} {ns:List Bool},Vals (ns.map V.aH) vs->CarriedAll vs (ns.map PyData.bool)
 | [],[],_ => .nil
 | v::vs,b::ns,h=>by
  cases h with
  | cons a r =>
   cases (show v=ao.bool b from a)
   exact .cons (.bool _) (Er r)
 | [],_::_,h=>by cases h
 | _::_,[],h=>by cases h
def agh:h6:=fun x y H Q=>∃ (l b:ae) (xs zs:List Bool),x = .ref l/\y = .ref b/\H l=J (.lst (xs.map .aH))/\H b=J (.lst (zs.map .aH))/\Q (.aH (!decide (xs=zs))) H
theorem L0(dN:X.A.units+64<cLine):dU X (hP .NotEq) agh:=by
 intro ak s ab H x y v u Q aa bf cd h
 obtain⟨l,b,xs,zs,rfl,rfl,aj,ar,q⟩:=h
 cases bf
 cases cd
 obtain⟨_,bq,n,r,_,e⟩:=aa.rr aj
 obtain⟨_,qg,dO,el,_,aL⟩:=aa.rr ar
 exact ne_dataH_same (reads_newData ⟨_,e,I,n,I⟩ (Er r)) (reads_newData ⟨_,aL,I,dO,I⟩ (Er el)) (KP _) (KP _) dN (SeqAt.noMix_of_shape (.list .bool) I _ _ (list_map_has fun _=>I) (list_map_has fun _=>I)) (by rw[R8];exact⟨.aH _,H,aa,rfl,q⟩)
theorem RX:dU X (ka .Mult) (qk (fun i j=>c1.Int.intBits i<=2 ^ 20/\c1.Int.intBits j<=2 ^ 20) fun i j => .int (i*j)):=rB fun _ _ _ _ _ _ _ hc q=>mul_int q (IntMulOk.of_bits hc.1 hc.2)
theorem HY{k:Nat}{A:da}(az:e4 k A):A.units+64<cLine:=by have:=az.un;omega
end
end dg
namespace dg
open PySem
theorem US:jJ "ValueError"=J (.type "ValueError"):=by decide +kernel
end dg
end
section
namespace dg
open PySem PySem.W PySem.Spec PyProof.Rows PySem.Builtin.ObjectAttr
noncomputable def we:List ao->Bool
 | .ref _::r=>we r
 | l=>l == l0
theorem V8(self:ao):refuseLoop self "__setattr__" l0=pure ():=by kernel_rfl
theorem La(self:ao):∀ {l:List ao},we l=ag->refuseLoop self "__setattr__" l=pure ()
 | .ref c::r,e=>by rw[refuseLoop_ref];exact La self e
 | [],e=>by cases e
 | .type n::r,e=>by
  have:(ao.type n::r)=l0:=beq_iff_eq.mp e
  rw[this];exact V8 self
 | .none::r,e=>by cases beq_iff_eq.mp (show ((ao.none::r) == l0)=ag from e)
 | .bool _::r,e=>by cases beq_iff_eq.mp (show ((ao.bool _::r) == l0)=ag from e)
 | .int _ _::r,e=>by cases beq_iff_eq.mp (show ((ao.int _ _::r) == l0)=ag from e)
 | .float _ _::r,e=>by cases beq_iff_eq.mp (show ((ao.float _ _::r) == l0)=ag from e)
 | .str _ _::r,e=>by cases beq_iff_eq.mp (show ((ao.str _ _::r) == l0)=ag from e)
 | .bytes _ _::r,e=>by cases beq_iff_eq.mp (show ((ao.bytes _ _::r) == l0)=ag from e)
 | .builtin _::r,e=>by cases beq_iff_eq.mp (show ((ao.builtin _::r) == l0)=ag from e)
structure pq(K:Frag)(C:ae):Prop extends ExcC K C where
 sa:findIn K (.ref C) "__setattr__"=J (J (.builtin "object.__setattr__"))
 ov:(clsIn K C).any (fun c4=>we c4.mro)=ag
 hd:hasDictIn K C=ag
section
variable {K:Frag} {prog:cX} {w:cu} {A:da} {E:ao->aI->Prop} {s:aI} {x C:ae} {ox:bo} {od:Option bo} {name:af} {v:ao}
theorem WO{R:Result->aI->Prop}{cf:Tok}{r:Option ao}(X:K.In s.heap)(aa:W.InstAt s.heap x ox C od)(S:pq K C)(aW:takerIn K C name=J r)
  (h:∀ b,bE (model prog w) A.in1 (match r with | some a=>setByDescriptor a (.ref x) v | none=>storeInOwnDict (.ref x) (.ref C) (.str name cf) name v b)
   (fun cF aF=>match cF with | .done f=>R (.ok f) aF | .again ia=>ia.quiet=ag/\kA (model prog w) A ia R aF) (fun e aF=>R (.error e) aF) s) :
  kA (model prog w) A (.call (.builtin "object.__setattr__") ⟨[.ref x,.str name cf,v],[]⟩) R s:=by
 have w9:=PySem.F.store_object
 obtain⟨c4,hc,aJ⟩:=any_some S.ov
 have sub:Looks (model prog w) s.heap (isInstance (.ref x) (.type "object")) ag:=aa.type.andThen (looks_mroIn X S.dC)
 refine y5 w9.slot.plain w9.entry (@check_slot (model prog w) _ _ s "object.__setattr__" "object" "__setattr__" (.ref x) [.str name cf,v] [] _ w9.kind w9.split sub (w9.args (.ref x) (.str name cf) v) ?_)
 obtain⟨attr,ba,az⟩:=Option.bind_eq_some_iff.mp aW
 have hm:Looks (model prog w) s.heap (mroOf (.ref C)) c4.mro:=(looks_clsIn X hc).andThen .now
 have De:Looks (model prog w) s.heap (storeTaker? attr) r:=by
  cases attr with
  | none=>cases az;exact .now
  | some a =>
   obtain⟨b,aq,rfl⟩:=Uf.mp az
   refine(looks_takesIn X aq).andThen ?_
   cases b<;>exact .now
 rw[osa_eq,refuse_eq]
 refine bC (bC (aa.type.here (bC (hm.here ?_))))
 rw[La _ aJ]
 refine dv (bC (aa.type.here (bC ((looks_findIn X ba).here (bC (De.here ?_))))))
 exact h _
theorem Sg{vs:Array ao}{Q:Unit->aI->Prop}(X:K.In s.heap)(ay:s.heap.get? x=J ox)(hc:ox.cls = .ref C)(GR:ox.dict=aw)(hd:ox.data = .fields vs)(S:pq K C)(aW:takerIn K C name=J aw)
  (h:∀ h',h'.get? x=J {ox with dict:=J s.heap.objs.size}->h'.Ns1 s.heap.objs.size (fun y=>if y=name then J v else aw)->(∀ b o,b≠x->s.heap.get? b=J o->h'.get? b=J o)->Q () {s with heap:=h',toks:=s.toks+2}) :
  bE (model prog w) A (setAttr (.ref x) name v) Q E s:=by
 have dD:W.InstAt s.heap x ox C aw:=by
  obtain⟨cls,dict,data,c8⟩:=ox
  subst hc GR hd
  exact⟨ay,I,I,trivial⟩
 refine set_plain X dD S.sa (WO (s:={s with toks:=s.toks+1}) (r:=aw) X dD S aW fun b=>?_)
 obtain⟨c4,j0,G2⟩:=any_some S.hd
 obtain⟨cls,dict,data,c8⟩:=ox
 dsimp only at hc GR hd
 subst hc GR hd
 refine bC (dv (bC (bC (wpAny_loadPart ay (bC (PySem.W.Looks.here (s:={s with toks:=s.toks+1}) (PySem.W.looks_clsIn X j0) ?_))))))
 rw[G2]
 refine bC (wpAny_alloc ?_)
 have j3:=d7 (h:=s.heap) {cls := .type "dict",data := .dict #[]} ay
 refine bC (wpAny_update j3 ?_)
 generalize BH:({cls := .type "dict",data := .dict #[]}:bo)=wb at j3 ⊢
 have MO:s.heap.objs.size≠x:=Nat.ne_of_gt (dX ay)
 have hW:((s.heap.push wb).update x (fun o=>{o with dict:=J s.heap.objs.size})).get? s.heap.objs.size=J wb :=
  (aX.get?_update_other _ _ (d2 MO)).trans (gU s.heap (by rw[<- BH];rfl))
 have aah:((s.heap.push wb).update x (fun o=>{o with dict:=J s.heap.objs.size})).get? x=J ⟨.ref C,J s.heap.objs.size,.fields vs,c8⟩:=aX.get?_update_self _ j3 rfl
 have ma:((s.heap.push wb).update x (fun o=>{o with dict:=J s.heap.objs.size})).Ns1 s.heap.objs.size fun _=>aw :=
  aX.Ns1.of_empty ⟨_,#[],_,hW,by rw[<- BH],fun e he=>absurd he (by simp),fun _=>rfl⟩
 refine dv (a:=J s.heap.objs.size) (bC (dv (bC ?_)))
 refine wpAny_nsSet1 (s:={s with heap:=(s.heap.push wb).update x (fun o=>{o with dict:=J s.heap.objs.size}),toks:=s.toks+1}) ma fun h' kR hF=>?_
 obtain⟨ajR,Zt,Zs,abB,GQ,kP⟩:=kR.count (PySem.Within.cons (ns:=[]) name v (fun y bM=>absurd rfl bM))
 refine bC (wpAny_lookBehind abB (by rw[GQ];exact pastItsLine_dict (ey kP (by show 1<=_;decide))) ?_)
 refine dv (h h' ((hF.2 _ (d2 MO)).trans aah) kR fun b o aq e=>?_)
 refine(hF.2 b (fj (dX e))).trans ?_
 rw[aX.get?_update_other _ _ (d2 aq)]
 exact d7 _ e
end
end dg
end
section
namespace dg
open PySem PySem.W PySem.Spec PyProof.Rows
theorem Wg{K:Frag}{h:aX}{N:ae}{mg:af->Option ao}{n:af}{v:ao}(X:K.In h)(G:h.Ns N mg)(e:nsIn K N n=J (J v)):mg n=J v:=by
 obtain⟨o,aV,fV,aJ,hd,_,aE⟩:=G
 unfold nsIn at e
 split at e
 ·rename_i c d Bd adz c8 q
  have:=X _ _ q
  rw[aJ] at this
  cases this
  cases hd
  split at e
  ·rename_i gP he
   cases e
   rw[<- aE]
   unfold nsFind findBy
   rw[<- Array.find?_toList,he]
   rfl
  ·split at e<;>cases e
 ·cases e
noncomputable def oL(K:Frag)(C f:ae):Bool:=match K.lookup C with
 | some ⟨.type "type",_,.cls c4,c8⟩=>(match c4.mro,c8.toList with
  | .ref wL::bm,[_,_,_,_,J (.builtin n),_]=>wL == C&&n == "ValueError.__new__"&&!c4.hasDel&&tailIn K l0 bm&&nsOkIn K c4.ns&&nsIn K c4.ns "__init__" == J (J (.ref f))
  | _,_=>ah)
 | _=>ah
structure Qc(h:aX)(C f:ae):Prop where
 ex:∃ (bm:List ao) (N:ae) (nm q:af) (bs:List ao) (ra:Bool) (sn:List af) (sub:List ao) (qV:Bool) (col:Option Bool) (eI:Option ae) (qh gE e1 h1 j4:Option ao) (h2:af->Option ao),
  h.get? C=J (excClassObj nm q C N bs bm ra sn sub qV col eI qh gE e1 h1 j4 "ValueError.__new__")/\h.Ns N h2/\h2 "__init__"=J (.ref f)/\OwnTail h l0 bm
theorem Mk{K:Frag}{h:aX}{C f:ae}(X:K.In h)(q:oL K C f=ag):Qc h C f:=by
 unfold oL at q
 split at q
 ·rename_i eI c4 c8 aJ
  split at q
  ·rename_i wL bm qh gE e1 h1 n j4 hm hs
   simp only[h7,beq_iff_eq,Bool.not_eq_true'] at q
   obtain⟨⟨⟨⟨⟨rfl,rfl⟩,Nb⟩,aW⟩,aR⟩,x8⟩:=q
   obtain⟨nm,bs,mro,ns,tZ,hd,sn,sub,qV,col,del⟩:=c4
   dsimp only at hm Nb aR x8
   subst hm Nb
   have Nw:c8=#[qh,gE,e1,h1,J (.builtin "ValueError.__new__"),j4]:=by
    obtain⟨l⟩:=c8
    simp only at hs
    rw[hs]
   subst Nw
   have G:h.Ns ns (h.nsMap ns) := .of_isNs (isNs_of_in X aR)
   exact⟨bm,ns,nm,tZ,bs,hd,sn,sub,qV,col,eI,qh,gE,e1,h1,j4,_,X _ _ aJ,G,Wg X G x8,tail_of_in X aW⟩
  ·cases q
 ·cases q
section
variable {prog:cX} {w:cu} {A:da} {E:ao->aI->Prop} {h:aX} {g:Array GenState} {d:Drawn} {t:Nat} {os:OsState}
variable {nm q:af} {C N:ae} {bs bm bmB:List ao} {ra:Bool} {sn:List af} {sub:List ao} {qV:Bool} {col:Option Bool} {eI:Option ae} {qh gE e1 h1 j4:Option ao} {B y8 newId NX NH NG:String} {L9:List ao}
theorem TQ(wU:ExcBaseFacts y8 newId NG L9)(Bj:bmB.contains (.type y8)=ag)(F:ExcBaseFacts B NX NH bmB)(T:OwnTail h bmB bm){h2:af->Option ao}{rest:List ao}{s9:ae}{wc:bo}{Q:Fin->aI->Prop}
  (hY:h.get? C=J (excClassObj nm q C N bs bm ra sn sub qV col eI qh gE e1 h1 j4 newId)) (bc:h.Ns N h2) (aB:h2 "__init__"=J (.ref s9)) (GW:h.get? s9=J wc) (xX:wc.cls = .type "function")
  (aU:∀ h' e,aX.MadeExcOf h h' e (.ref C) rest->bE (model prog w) A (call (.ref s9) (.ref e::rest)) (fun r aF=>r = .none/\Q (.done (.ret (.ref e))) aF) E ⟨h',g,d,t,os⟩) (hrest:rest.length<=bT) :
  bE (model prog w) A (c1.«type.__call__» ⟨.ref C::rest,[]⟩) Q E ⟨h,g,d,t,os⟩:=by
 repeat (first | with_reducible refine wH hY ?_ | with_reducible refine wpAny_madeBy_exc hY ?_ | wp_step)
 refine codeAny_call_builtin_code (Code.quiet_builtin _ wU.quiet) (wpAny_check_new_subU wU Bj T hY ?_)
 refine codeAny_exc_new_subU wU Bj F T hY ?_ hrest
 show bE _ _ _ _ _ _
 have MM:=d7 {cls := .ref C,data := .fields #[.ref h.objs.size,.none,.none,.none,.bool ah,.none]}
  (d7 {cls := .type "tuple",data := .seq rest.toArray} hY)
 have aaX:=d7 {cls := .ref C,data := .fields #[.ref h.objs.size,.none,.none,.none,.bool ah,.none]}
  (d7 {cls := .type "tuple",data := .seq rest.toArray} GW)
 have abA:((h.push {cls := .type "tuple",data := .seq rest.toArray}).push {cls := .ref C,data := .fields #[.ref h.objs.size,.none,.none,.none,.bool ah,.none]}).Ns N h2 :=
  let ⟨o,aV,fV,e,r⟩:=bc;⟨o,aV,fV,d7 _ (d7 _ e),r⟩
 have Nd:((h.push {cls := .type "tuple",data := .seq rest.toArray}).push
   {cls := .ref C,data := .fields #[.ref h.objs.size,.none,.none,.none,.bool ah,.none]}).get? (h.objs.size+1)=J
   {cls := .ref C,data := .fields #[.ref h.objs.size,.none,.none,.none,.bool ah,.none]}:=by heap_get
 have GL:(ao.ref C::bm).contains (.ref C)=ag:=by simp
 have Rh:=T.keeps (h':=(h.push {cls := .type "tuple",data := .seq rest.toArray}).push {cls := .ref C,data := .fields #[.ref h.objs.size,.none,.none,.none,.bool ah,.none]})
  fun b o e=>d7 _ (d7 _ e)
 unfold isInstance
 repeat (first | with_reducible refine wH Nd ?_ | (with_reducible refine wpAny_isSubtype_exc MM ?_;rw[GL]) | wp_step)
 show bE _ _ (typeLookup (.ref C) _) _ _ _
 refine wpAny_typeLookup_tail MM abA Rh F.mroIs F.init.lookup ?_
 rw[aB]
 refine wpAny_holding (bC ?_)
 unfold bindSpecial
 refine bC (wpAny_typeOf (T:="function") ⟨_,aaX,xX⟩ ?_)
 rw[if_pos (by decide)]
 refine dv (bC (ja (aU _ (h.objs.size+1) ⟨fun b o aq=>d7 _ (d7 _ aq),aX.get?_none_of_le (Nat.le_succ _),h.objs.size,Nd,aX.get?_none_of_le (cx _),?_⟩) (fun r aF az=>?_) fun _ _ x=>x))
 ·exact d7 _ (aX.get?_push_at I I)
 ·obtain⟨rfl,fF⟩:=az
  wp_walk
  exact fF
theorem Wz(wU:ExcBaseFacts y8 newId NG L9)(Bj:bmB.contains (.type y8)=ag)(F:ExcBaseFacts B NX NH bmB)(T:OwnTail h bmB bm){h2:af->Option ao}{rest:List ao}{s9:ae}{wc:bo}{Q:ao->aI->Prop}
  (hY:h.get? C=J (excClassObj nm q C N bs bm ra sn sub qV col eI qh gE e1 h1 j4 newId)) (bc:h.Ns N h2) (aB:h2 "__init__"=J (.ref s9)) (GW:h.get? s9=J wc) (xX:wc.cls = .type "function")
  (aU:∀ h' e,aX.MadeExcOf h h' e (.ref C) rest->bE (model prog w) (A.under (.builtin "type.__call__" ⟨.ref C::rest,[]⟩)) (call (.ref s9) (.ref e::rest)) (fun r aF=>r = .none/\Q (.ref e) aF) E ⟨h',g,d,t,os⟩) (hrest:rest.length<=bT) :
  bE (model prog w) A (call (.ref C) rest) Q E ⟨h,g,d,t,os⟩:=by
 have f1:=tc_lookup
 have f2:=tc_bind (.ref C)
 have b9:(⟨h,g,d,t,os⟩:aI).TypeIs (.ref C) "type":=⟨_,hY,rfl⟩
 refine pd (codeAny_of_tree ?_)
 show bE _ _ (callAny (.ref C) _) _ _ _
 repeat (any_goals (first | assumption | with_reducible refine wH hY ?_ | wp_step))
 refine⟨I,?_⟩
 refine codeAny_call_builtin_at (Code.quiet_builtin _ (by decide +kernel)) entry_typeCall (wpAny_check_type_call_sub hY (TQ (hrest:=hrest) wU Bj F T hY bc aB GW xX fun h' e hm=>?_))
 exact aU h' e hm
end
theorem V9{M:Model}{A:da}{env:Env}{E:ao->aI->Prop}{K:Frag}{s:aI}{x:Sem ao}{Q:Flow->aI->Prop}(fp:A.handled=aw)
  (h:bE M A x (fun v dx=>∃ e ec C vs,v = .ref e/\K.In dx.heap/\dx.heap.get? e=J ec/\ec.cls = .ref C/\ec.data = .fields vs/\vs[1]?=J .none/\mroIn K C (.type "BaseException")=J ag/\typeIn K (.ref C)=J (.type "type")/\E (.ref e) dx) E s) :
  bE M A (raiseStmt env (J x) aw) Q E s:=by
 unfold raiseStmt
 refine bC (ja h (fun v dx hr=>?_) fun _ _ x=>x)
 obtain⟨e,ec,C,vs,rfl,X,he,hc,hd,aj,hm,yj,jh⟩:=hr
 obtain⟨bh,g,d,cf,os⟩:=dx
 have nv:=looks_mroIn (M:=M) X hm
 obtain⟨yy,x9,GL⟩:=Uf.mp (show (K.lookup C).map (·.cls)=J (.type "type") from yj)
 have hY:=X _ _ x9
 have ajk:=he
 obtain⟨cls,dict,data,c8⟩:=ec
 dsimp only at hc hd
 subst hc hd
 repeat (first | with_reducible refine wH he ?_ | with_reducible refine nv.at ?_ | (with_reducible refine wH hY ?_;rw[GL]) | wp_step)
 rw[aj]
 refine dv ?_
 rw[if_neg (by decide)]
 exact dv (wpAny_raiseNew_none fp jh)
noncomputable def kC(e C:ae)(d:Option ae):cv := .ext fun h=>∃ o vs t0,h.get? e=J o/\o.cls = .ref C/\o.dict=d/\o.data = .fields vs/\vs[0]?=J (.ref t0)/\vs[1]?=J .none/\vs[2]?=J .none
theorem Fe{P:cX}{w:cu}{H:au}{h:aX}{e C t0:ae}{d:Option ae}{o:bo}{vs:Array ao}(aj:h.get? e=J o)(ar:o.cls = .ref C)(bB:o.dict=d)(b0:o.data = .fields vs)(eB:vs[0]?=J (.ref t0))(kN:vs[1]?=J .none)(vH:vs[2]?=J .none):gg P w H h e (kC e C d) :=
 ⟨⟨o,vs,t0,aj,ar,bB,b0,eB,kN,vH⟩,⟨o,aj⟩,fun _ _ ⟨o,vs,t0,aG,aL,dE,eJ,nQ,qY,s8⟩ k=>⟨o,vs,t0,k o aG,aL,dE,eJ,nQ,qY,s8⟩⟩
theorem Inv.ada{X:bp}{ak:List (ae×bo)}{ab:St}{H:au}{s:aI}{h':aX}{a:ae}{o:cv}{t':Nat}(aa:Inv X ak ab H s)(k:∀ b u,s.heap.get? b=J u->h'.get? b=J u)(bc:s.heap.get? a=aw)(new:gg X.prog X.w (upd H a o) h' a o) :
  Inv X ak ab (upd H a o) {s with heap:=h',toks:=t'}:=by
 have aE:H a=aw:=aa.aR.none bc
 have ne:∀ b u,s.heap.get? b=J u->b≠a:=fun b u e z=>by rw[z,bc] at e;cases e
 refine aa.un ⟨fun b u q _ _ _=>k b u q,fun b u q _ _ _=>⟨u.slots,k b u q⟩,fun b u q n _=>by rw[bJ (ne b u q)];exact n,fun b u q _=>⟨u,k b u q⟩,fun b xs q=>by rw[bJ (eO q aE)];exact q,fun b u xs q=>by rw[bJ (eO q aE)];exact q,fun b ps q=>⟨#[],by rw[bJ (eO q aE),q];simp⟩⟩ fun b u e=>?_
 by_cases aq:b=a
 ·subst aq
  rw[aM] at e;cases e
  exact new
 ·rw[bJ aq] at e
  exact(aa.aR b u e).mn (fun c v _ q=>k c v q) (fun c r=>by rw[bJ (eO r aE)];exact r) fun c xs r=>by rw[bJ (eO r aE)];exact r
noncomputable abbrev kY(n:Int):cv := .iL [("place",.int n)]
inductive Px(C:ae)(vs:List V)(H:au)(Q:bx)(E:bP):Prop where
 |mk (e n) (bu:vs=[.ref e,.int n]) (aj:H e=J (kC e C aw)) (ar:n.natAbs.log2<1920) (bB:∀ al,H al=aw->Q .bL (upd (upd H al (kY n)) e (kC e C (J al)))):Px C vs H Q E
def rJ(C:ae):b5:=fun vs H Q E=>Px C vs H Q E
structure sH(K:Frag)(mg:af->Option ao)(x:af)(C f:ae):Prop where
 qr:oL K C f=ag
 fn:typeIn K (.ref f)=J (.type "function")
 ij:keepIn K (.ref C)=ag
 be:mroIn K C (.type "BaseException")=J ag
 ty:typeIn K (.ref C)=J (.type "type")
 MF:mg x=J (.ref C)
def ag0(C:ae)(E:bP)(t:gw):eK:=fun _ ab H=>t ab H fun vs H1=>∃ n,vs=[.int n]/\n.natAbs.log2<1920/\∀ al,H1 al=aw->E (.ref C) (J al) (upd H1 al (kY n))
theorem EB{X:bp}{x:af}{C f:ae}{fd:fu}{k eD:Nat}{np ll aO:Pos}{e:b2}{aV:List b2}{t:gw}{E:bP}(T:Ju X E)(M:sH X.K X.mg x C f)(F:cg X.prog X.w X.K X.mg X.base dk k f fd ["self","place"] (rJ C))(aq:Binds X.K fd ["self","place"] [])(az:e4 eD X.A)(ba:hx X (e::aV) t)(hk:k+1<=eD:=by decide)
  (hex:X.ex=[]:=by rfl) (aK:h5 X x:=by rfl) (iI:(x == ("__debug__":af))=ah:=by decide +kernel)
  (he:df (e::aV) X.env=(ah,eval e X.env)::df aV X.env:=by rfl) (f6:(backTo ll (df aV X.env)).any (·.1)=ah:=by rfl) :
  jv X (.Raise (J (.Call (.Name x np) (e::aV) [] ll)) aw aO) (ag0 C E t):=by
 intro ak s ab H D aa h
 rw[arm_exec_Raise]
 refine bC (wpAny_standAt (V9 (K:=X.K) az.hd (bC (ja (t:=eval (.Call (.Name x np) (e::aV) [] ll) X.env) ?_ (fun v rM BR=>bC (wpAny_standAt (dv BR))) fun _ _ x=>x))))
 refine qt (qR aa aK M.MF ?_ iI)
 refine wG (h₀:=X.base) aa.ok.mod.qi M.ij (cz (ba ll ak s ab H _ aa h) fun us s1 bD=>?_) he f6
 obtain⟨vs,H1,aS,r,n,rm,yf,q⟩:=bD
 refine ⟨aS.es,?_⟩
 subst rm
 obtain⟨bm,N,nm,tZ,bs,ra,sn,sub,qV,col,eI,qh,gE,e1,h1,j4,h2,aj,ar,bB,b0⟩:=(Mk aS.es M.qr).ex
 obtain⟨wc,abC,aaL⟩:=Uf.mp (show (X.K.lookup f).map (·.cls)=J (.type "function") from M.fn)
 have n0:us.length=1:=r.length.symm
 obtain⟨fp,g,d,cf,os⟩:=s1
 refine Wz PySem.F.excBase_ValueError (bmB:=l0) (by decide +kernel) PySem.F.excBase_ValueError b0 aj ar bB (aS.es _ _ abC) aaL (fun h' a hm=>?_) (by show us.length<=_;rw[n0];decide)
 obtain⟨tt,aW,_,_⟩:=hm.there
 have fa:H1 a=aw:=aS.aR.none hm.new
 have bA:=aS.ada (a:=a) (o:=kC a C aw) (h':=h') (t':=cf) hm.keeps hm.new (Fe aW rfl rfl rfl rfl rfl rfl)
 have el:Vals [V.ref a,.int n] (ao.ref a::us) := .cons rfl r
 have aU:rJ C [V.ref a,.int n] (upd H1 a (kC a C aw)) (fun v bt=>v = .bL/\∃ al,H1 al=aw/\al≠a/\bt=upd (upd (upd H1 a (kC a C aw)) al (kY n)) a (kC a C (J al))) il :=
  ⟨a,n,rfl,aM,yf,fun al hd=>⟨rfl,al,(cL fa).free hd,fun z=>(by rw[z,aM] at hd;cases hd),rfl⟩⟩
 have M5:=aq ⟨h',g,d,cf,os⟩ (ao.ref a::us) bA.es (by simp[n0])
 rw[List.append_nil] at M5
 refine pd (lP (F.run _ X.stack ⟨h',g,d,cf,os⟩ _ ⟨ao.ref a::us,[]⟩ (ao.ref a::us) _ _ il ((az.mono hk).make C us []) (bA.vw.make C us []) M5 el aU) fun lH aF n3=>?_)
 cases lH with
 | error e=>exact False.elim n3
 | ok dq =>
  cases dq with
  | ret u =>
   obtain⟨v,bt,iq,dH,ev,al,F3,br,FW⟩:=bA.after n3
   subst ev
   have b7:er H1 bt:=fun b o e=>by
    rw[FW,bJ (eO e fa),bJ (eO e F3),bJ (eO e fa)];exact e
   have Bx:bt al=J (kY n):=by rw[FW,bJ br,aM]
   have aak:bt a=J (kC a C (J al)):=by rw[FW,aM]
   have ow:=Inv.sub aS iq (Sub.new F3 b7 Bx trivial)
   obtain⟨⟨o,vs,t0,aG,aL,dE,eJ,nQ,qY,s8⟩,_⟩:=(show gg X.prog X.w bt aF.heap a (kC a C (J al)) from iq.aR a _ aak)
   refine⟨dH,a,o,C,vs,I,ow.es,aG,aL,eJ,qY,M.be,M.ty,?_⟩
   refine T ak ab _ aF a C o vs (J al) ow aG aL eJ qY (.inl ⟨dE,.inr s8⟩) (by rw[bJ (d2 br)];exact fa) ?_ (q al F3)
   cases z:X.de.heap.get? a with
   | none=>rfl
   | some o =>
    obtain⟨d0,e⟩:=aS.base.there a o z (by rw[hex];simp)
    have:=hm.new
    rw[show fp.get? a=J d0 from e] at this;cases this
  | next=>exact False.elim n3
  | brk=>exact False.elim n3
  | cont=>exact False.elim n3
noncomputable abbrev Js:=af->St->au->bx->Prop
def zx(X:bp)(aV:List b2)(t:Js):Prop :=
 ∀ (acc:af) (ak:List (ae×bo)) (s:aI) (ab:St) (H:au) (Q:bx),Inv X ak ab H s->t acc ab H Q->bE (model X.prog X.w) X.A (joinParts acc (evalEach aV X.env)) (h4 X ak ab Q) X.xe s
section
variable {X:bp} {e o:b2} {aV:List b2} {cn bS m7:TE} {t:Js} {aO:Pos}
theorem Fy:zx X [] (fun acc _ H Q=>acc.length<=bT/\Q (.str acc) H):=fun acc ak s ab H Q aa ⟨bI,q⟩=>joinParts_nil ⟨.str acc,H,aa.tok _,⟨_,rfl⟩,q⟩ bI
theorem qQ(he:bW X e cn)(az:zx X aV t)(xW:evalEach (e::aV) X.env=eval e X.env::evalEach aV X.env:=by rfl):zx X (e::aV) (fun acc ab H Q=>cn ab H fun x H1=>∃ y,x = .str y/\(acc++y).length<=bT/\t (acc++y) ab H1 Q):=by
 intro acc ak s ab H Q aa h
 rw[xW]
 refine joinParts_cons (cz (he ak s ab H _ aa h) fun v s1 bD=>?_)
 obtain⟨x,H1,aS,r,y,ex,bI,q⟩:=bD
 subst ex
 obtain⟨cf,rfl⟩:=r
 exact⟨bI,az (acc++y) ak s1 ab H1 Q aS q⟩
theorem EC{v1 v2:b2}{rest:List b2}(h:zx X (v1::v2::rest) t)(xW:evalEach (v1::v2::rest) X.env=eval v1 X.env::eval v2 X.env::evalEach rest X.env:=by rfl):bW X (.JoinedStr (v1::v2::rest) aO) (t af.empty):=by
 intro ak s ab H Q aa aU
 refine JoinedStr_many ?_
 have:=h af.empty ak s ab H Q aa aU
 rw[xW] at this
 exact this
theorem Fc(he:bW X e cn):bW X (.FormattedValue e (-1) aw aO) (fun ab H Q=>cn ab H fun x H1=>∃ i:Int,x = .int i/\i.natAbs.log2<1920/\Q (.str (af.ofString (toString i))) H1):=by
 intro ak s ab H Q aa h
 refine FormattedValue_plain (cz (he ak s ab H _ aa h) fun v s1 bD=>?_)
 obtain⟨x,H1,aS,r,i,ex,hs,q⟩:=bD
 subst ex
 obtain⟨cf,rfl⟩:=r
 exact formatField_int_small hs ⟨.str _,H1,aS.tok _,⟨_,I⟩,q⟩
end
section
variable {X:bp} {x:af} {C D f:ae} {np apos aO:Pos} {e:b2} {aV:List b2} {t:gw}
theorem Ee{pl:Sem Bool}(qr:oL X.K C f=ag)(hm:X.mg x=J (.ref D))(aa6:specialIn X.K (.ref D) "__getattribute__"=J (J (.builtin "type.__getattribute__")))(Nv:readsIn X.K D (.type "type")=ag)(xX:findCls X.K (.ref D) (.type "type") "__init__"=J (.val (.builtin "ValueError.__init__")))
  (ba:hx X (e::aV) t) (aK:h5 X x:=by rfl) (iI:(x == ("__debug__":af))=ah:=by decide +kernel)
  (j1:df (e::aV) X.env=(ah,eval e X.env)::df aV X.env:=by rfl) (f6:(backTo aO (df aV X.env)).any (·.1)=ah:=by rfl)
  (aW:eval (.Call (.Attribute (.Name x np) "__init__" apos) (e::aV) [] aO) X.env=(do
   let ov <- eval (.Name x np) X.env
   standAt apos.atName
   let (f,first) <- holding [ov] (getMethod ov "__init__" pl)
   callWith aO f first (backTo aO (df (e::aV) X.env)) (backToKw aO (qs [] X.env))):=by rfl) :
  bW X (.Call (.Attribute (.Name x np) "__init__" apos) (e::aV) [] aO) (fun ab H Q=>t ab H fun vs H1=>∃ a v,vs=[.ref a,v]/\H1 a=J (kC a C aw)/\Q .bL H1):=by
 intro ak s ab H Q aa h
 refine y4 (pl:=pl) (qR aa aK hm ?_ iI) aW
 refine method_cls aa.es aa6 (cls_value aa.es Nv xX I ?_)
 refine PyProof.Rows.callWith_builtin1 (cz (ba aO ak _ ab H _ (aa.tok _) h) fun us s1 bD=>?_) j1 f6
 obtain⟨vs,H1,aS,r,a,v,rm,ay,q⟩:=bD
 subst rm
 obtain⟨ahH,ahI,rfl,cp,el⟩:=vals2 r
 obtain rfl:ahH=ao.ref a:=cp
 obtain⟨⟨o,vs,t0,aG,aL,dE,eJ,nQ,qY,s8⟩,_⟩:=(show gg X.prog X.w H1 s1.heap a (kC a C aw) from aS.aR a _ ay)
 obtain⟨bm,N,nm,tZ,bs,ra,sn,sub,qV,col,eI,qh,gE,e1,h1,j4,h2,aj,ar,bB,b0⟩:=(Mk aS.es qr).ex
 have FB:=PySem.F.excBase_ValueError
 refine pd (y5 FB.init.plain FB.initEntry (wpAny_check_init_subU (B:="ValueError") FB b0 aj aG aL ?_))
 unfold c1.«BaseException.__init__»
 dsimp only
 rw[if_neg (by simp)]
 unfold newTuple c1.BaseException.bexcPut
 have f7:0<vs.size:=(Array.getElem?_eq_some_iff.mp nQ).1
 have vP:=d7 (h:=s1.heap) {cls := .type "tuple",data := .seq [ahI].toArray} aG
 refine bC (wpAny_newObj_type (bC (bC (iM vP eJ nQ (bC (rZ vP eJ f7 ?_))))) (by show 1<=bT;decide))
 refine wpAny_letGo (dv ?_)
 have mR:=bo.data_mapFields eJ (·.setIfInBounds 0 (ao.ref s1.heap.objs.size))
 have By:=aX.get?_update_self (bo.mapFields (·.setIfInBounds 0 (ao.ref s1.heap.objs.size))) vP (bo.isFreed_of_fields mR)
 have W:=aS.write (o:=kC a C aw) (t':=s1.toks) (by rw[ay];trivial) (.inl rfl) (fun b u aq q=>by rw[aX.get?_update_other _ _ (d2 aq)];exact d7 _ q) ⟨_,By⟩
  (Fe (t0:=s1.heap.objs.size) By ((bo.cls_mapFields _ _).trans aL) ((J0 _ _).trans dE) mR (by simp[f7]) (by rw[Array.getElem?_setIfInBounds_ne (by decide)];exact qY) (by rw[Array.getElem?_setIfInBounds_ne (by decide)];exact s8))
 rw[Kx ay] at W
 exact⟨.bL,H1,W,I,q⟩
end
def agt(K:Frag)(bS m7:TE)(dq:af):eK:=fun D ab H=>m7 ab H fun y H1=>bS ab H1 fun x ax=>∃ a C,x = .ref a/\ax a=J (kC a C aw)/\pq K C/\takerIn K C dq=J aw/\∀ al,ax al=aw->D.nx ab (upd (upd ax al (.iL [(dq,y)])) a (kC a C (J al)))
theorem Fa{X:bp}{o value:b2}{bS m7:TE}{dq:af}{aO pos':Pos}(ba:bW X o bS)(bl:bW X value m7)(hs:swapsWith value (J (.Attribute o dq pos')) aO.line X.env=pure ah):jv X (.Assign [.Attribute o dq pos'] value aO) (agt X.K bS m7 dq):=by
 intro ak s ab H D aa h
 refine plainObj_wpAny_Assign_Attribute (cz (bl ak s ab H _ aa h) fun u s1 ⟨y,H1,aS,cd,q⟩=>cz (ba ak s1 ab H1 _ aS q) fun ov s2 bD=>?_) hs
 obtain⟨x,ax,bA,bf,a,C,ex,ay,S,aW,cE⟩:=bD
 subst ex
 obtain rfl:ov=ao.ref a:=bf
 obtain⟨⟨d0,vs,t0,aG,aL,dE,eJ,nQ,qY,s8⟩,_⟩:=(show gg X.prog X.w ax s2.heap a (kC a C aw) from bA.aR a _ ay)
 refine Sg bA.es aG aL dE eJ S aW fun h' g1 g2 g3=>?_
 have iW:ax s2.heap.objs.size=aw:=bA.aR.fresh (cx _)
 have ajO:a≠s2.heap.objs.size:=fj (dX aG)
 refine⟨ab,_,bA.un (h':=h') (t':=s2.toks+2) ⟨fun b u q n _ _=>?_,fun b u q n _ _=>⟨u.slots,?_⟩,fun b u q n _=>?_,fun b u q _=>?_,fun b xs q=>?_,fun b u xs q=>?_,fun b ps q=>⟨#[],?_⟩⟩ fun b u q=>?_,cE _ iW⟩
 ·exact g3 b u (fun z=>by rw[z,ay] at n;cases n) q
 ·exact g3 b u (fun z=>by rw[z,ay] at n;cases n) q
 ·rw[bJ (fun z=>by rw[z,ay] at n;cases n),bJ (fj (dX q))];exact n
 ·by_cases aq:b=a
  ·subst aq;exact⟨_,g1⟩
  ·exact⟨u,g3 b u aq q⟩
 ·rw[bJ (fun z=>by rw[z,ay] at q;cases q),bJ (eO q iW)];exact q
 ·rw[bJ (fun z=>by rw[z,ay] at q;cases q),bJ (eO q iW)];exact q
 ·rw[bJ (fun z=>by rw[z,ay] at q;cases q),bJ (eO q iW),q];simp
 ·by_cases aq:b=a
  ·subst aq
   rw[aM] at q;cases q
   exact Fe g1 aL I eJ nQ qY s8
  ·rw[bJ aq] at q
   by_cases M4:b=s2.heap.objs.size
   ·subst M4
    rw[aM] at q;cases q
    refine⟨_,g2,fun f=>?_⟩
    show nz (match f == dq with | true=>J y | false=>aw) (if f=dq then J u else aw)
    by_cases aE:f=dq
    ·rw[aE,beq_self_eq_true,if_pos rfl];exact cd
    ·rw[beq_false_of_ne aE,if_neg aE];trivial
   ·rw[bJ M4] at q
    refine(bA.aR b u q).mn (fun c v hc z=>g3 c v ?_ z) (fun c r=>?_) fun c xs r=>?_
    ·rcases hc with rfl | hc
     ·exact aq
     ·intro z;rw[z,ay] at hc;cases hc
    ·rw[bJ (fun z=>by rw[z,ay] at r;cases r),bJ (eO r iW)];exact r
    ·rw[bJ (fun z=>by rw[z,ay] at r;cases r),bJ (eO r iW)];exact r
def jb(P:cX)(w:cu)(K:bO)(mg:af->Option ao)(base:aX)(k:Nat)(C:ae)(m:af)(ps:List af)(sp:b5):Prop :=
 ∃ f fd,cg P w K mg base (fv P w) k f fd ps sp/\Binds K fd ps []/\sr K C m f
end dg
end
section
namespace gf
open PySem dg
theorem RK(l:List Bool):∀ a k,(mm a l).testBit (l.length+k)=a.testBit k:=by
 induction l with
 | nil=>intro a k;rw[List.length_nil,Nat.zero_add];rfl
 | cons b l cA =>
  intro a k
  rw[E8,ed,show l.length+1+k=l.length+(k+1) by omega,cA,Kq]
theorem Lw(l:List Bool):∀ a,a≠0->aZ (mm a l)=aZ a+l.length/\d4 (mm a l) l.length=l/\mm a l≠0:=by
 induction l with
 | nil=>intro a h;exact⟨I,I,h⟩
 | cons b l cA =>
  intro a h
  obtain⟨aj,ar,bB⟩:=cA (2*a+b.toNat) (by omega)
  rw[E8]
  refine⟨by rw[aj,Kv h,ed];omega,?_,bB⟩
  rw[ed,d4,ar]
  congr 1
  have:=RK l (2*a+b.toNat) 0
  rw[Nat.add_zero] at this
  rw[this,J5]
theorem Lu:aZ 1=1:=by decide
theorem XE(l:List Bool)(k:Nat)(h:k<=l.length):Txt.slice (bw l) aw (J (k:Int))=bw (l.take k):=by
 rw[WG,eN.yJ,eN.yK,Nat.min_eq_left (by omega),List.drop_zero,Nat.sub_zero]
end gf
end
section
namespace dg
open PySem PySem.W PySem.Spec PyProof.Rows
section
variable {X:bp}
noncomputable def tK:=dU.or (eh (X:=X)) AU
noncomputable def HM:=dU.or (kr (X:=X)) SN
theorem Lz{o:b2}{bS:TE}{dq:af}{aO:Pos}(ba:bW X o bS)(aq:attributeBase o dq X.env (eval o X.env)=eval o X.env):bW X (.Attribute o dq aO) (fun ab H Q=>bS ab H fun x H1=>∃ a C al fs v,x = .ref a/\H1 a=J (k2 a C (J al))/\H1 al=J (.iL fs)/\ExcC X.K C/\hasDictIn X.K C=ag/\findIn X.K (.ref C) dq=J aw/\fs.lookup dq=J (.int v)/\Q (.int v) H1):=by
 intro ak s ab H Q aa h
 refine LP aq (cz (ba ak s ab H _ aa h) fun u s1 bD=>?_)
 obtain⟨x,H1,aS,bf,a,C,al,fs,v,ex,kO,dB,gm,ra,aE,aC,q⟩:=bD
 subst ex
 obtain rfl:u=ao.ref a:=bf
 obtain⟨⟨d0,vs,aG,aL,dE,eJ,_⟩,_⟩:=(show gg X.prog X.w H1 s1.heap a (k2 a C (J al)) from aS.aR a _ kO)
 obtain⟨eS,ns,rel⟩:=(show gg X.prog X.w H1 s1.heap al (.iL fs) from aS.aR al _ dB)
 obtain⟨od,aJ,oW⟩:=KM ns
 have dD:W.InstAt s1.heap a d0 C (J od):=by
  obtain⟨cls,dict,data,c8⟩:=d0
  rcases dE with⟨dE,_⟩ | ⟨dE,_⟩
  ·subst aL dE eJ
   exact⟨aG,I,I,aJ⟩
  ·rw[gN dE,kO] at dB;cases dB
 have r:=rel dq
 rw[aC] at r
 cases hm:eS dq with
 | none=>rw[hm] at r;exact r.elim
 | some u =>
  rw[hm] at r
  obtain⟨cf,rfl⟩:=(show ∃ cf,u=ao.int v cf from r)
  obtain⟨c4,j0,G2⟩:=any_some ra
  have aa1:findObj X.K C (J od) dq=J (.value (ao.int v cf)):=by
   have abI:W.ownOf c4 (J od) dq=J (J (ao.int v cf)):=by unfold W.ownOf;rw[if_pos G2];exact(oW dq).trans (by rw[hm])
   unfold findObj
   rw[j0,Option.bind_some,aE,Option.bind_some]
   simp[abI]
  exact Xc aS.es dD gm aa1 I ⟨.int v,H1,aS.tok _,⟨_,I⟩,q⟩
end
section
variable {X:bp}
def CR(i j:Int):Prop:=0<j/\(c1.Int.intBits j<=9000\/c1.Int.intBits i<=c1.Int.intBits j+4000)
theorem KN{j:Int}(h:j≠0):j.natAbs.log2+1=c1.Int.intBits j:=by
 unfold c1.Int.intBits
 rw[if_neg (by simpa using h)]
theorem CR.ok{i j:Int}(h:CR i j):c1.divisionGoesByPylong i j=ah:=by
 unfold c1.divisionGoesByPylong
 have cy:=KN (Int.ne_of_gt h.1)
 have ar:=h.2
 have nR:(j == 0)=ah:=by have:=h.1;simp;omega
 simp only[Bool.and_eq_false_iff,decide_eq_false_iff_not,nR,if_neg (show ¬(ah=ag) from by decide)]
 rcases ar with ar | ar
 ·left;omega
 ·right
  by_cases aB:i=0
  ·subst aB;rw[if_pos (by decide)];omega
  ·have rf:=KN aB
   rw[if_neg (by simpa using aB)]
   omega
theorem vc:dU X (ka .FloorDiv) (qk CR fun i j => .int (i/j)):=rB fun i j _ _ _ _ _ hc q=>by
 have e:i.fdiv j=i/j:=Int.fdiv_eq_ediv_of_nonneg _ (Int.le_of_lt hc.1)
 exact floordiv_int (by have:=hc.1;omega) (by rw[e];exact q) (.inl hc.ok)
end
noncomputable def si(K:bO)(a:ae)(xs:List V):kd:=⟨fun i H=>dQ K H a xs/\i<xs.length,fun i H x H'=>H'=H/\xs[xs.length - 1 - i]?=J x,fun i H=>dQ K H a xs/\xs.length<=i⟩
theorem XA{P:cX}{w:cu}{K:bO}{en:b2}(a it:ae)(xs:List V):Turn P w K en (si K a xs) [it] it (fun i h=>i<=xs.length/\h.IsRevIter it a ((xs.length:Int) - 1 - i)) where
 mem:=by simp
 obj:=fun i h st b aq=>by
  have e:b=it:=by simpa using aq
  subst e
  obtain⟨_,o,e,c,d⟩:=st
  exact⟨o,e,fun v z=>by rw[d] at z;cases z⟩
 keep:=fun i h h' st k=>⟨st.1,st.2.at fun o e=>k it (by simp) o e⟩
 item:=by
  intro X ck hw gQ hc i ak s ab H E aa aE st aK
  subst ck hw gQ
  obtain⟨aU,aB⟩:=aK
  obtain⟨bq,dH,p,bI⟩:=aa.list aU
  have ay:xs[xs.length - 1 - i]?=J (xs[xs.length - 1 - i]'(by omega)):=dm _
  obtain⟨u,dN,gG⟩:=dH.get ay
  obtain⟨f0,f1,f2,ha,f4,hD⟩:=aE it (by simp)
  have fb:((xs.length:Int) - 1 - i)=((xs.length - 1 - i:Nat):Int):=by omega
  have i6:=st.2
  rw[fb] at i6
  refine wpAny_pyNext_rev_item i6 p.isList (x:=u) (by simpa using dN) fun h' i5 m4=>?_
  have aS:Inv X ak ab H {s with heap:=h'}:=aa.turned (t':=s.toks) (fun b o aq e=>(m4.2 b aq).trans e) f0 f1 ha f4 hD
  have nR:(((xs.length - 1 - i:Nat):Int) - 1)=((xs.length:Int) - 1 - ((i+1:Nat):Int)):=by omega
  rw[nR] at i5
  obtain⟨o,e,c,d⟩:=id i5
  exact⟨u,I,xC (s:={s with heap:=h'}) e c d (by decide) ⟨_,H,aS,gG,⟨I,ay⟩,⟨by omega,i5⟩,fun b aq=>(aE b aq).1⟩⟩
 done:=by
  intro X ck hw gQ hc i ak s ab H E aa aE st aK
  subst ck hw gQ
  obtain⟨aU,ay⟩:=aK
  obtain⟨f0,f1,f2,ha,f4,hD⟩:=aE it (by simp)
  have fb:((xs.length:Int) - 1 - i) = -1:=by have:=st.1;omega
  have i6:=st.2
  rw[fb] at i6
  exact wpAny_pyNext_rev_end (aa.ok.hd hc) i6 fun h' ho=>⟨I,aa.turned (t':=s.toks) (fun b o aq e=>ho b o aq e) f0 f1 ha f4 hD⟩
 self:=fun _ _ _ _ _ st h=>wpAny_pyIter_revIter st.2 h
section
variable {X:bp} {en:b2}
def acr(K:bO)(dr:TE):dW:=fun ab H R=>dr ab H fun x H1=>∃ a xs,x = .ref a/\dQ K H1 a xs/\R (si K a xs) H1
theorem SJ{l:b2}{dr:TE}{p aO:Pos}(aK:h5 X "reversed")(hm:X.mg "reversed"=aw)(aC:bW X l dr)(hs:df [l] X.env=[(ah,eval l X.env)]:=by rfl):iO X en (.Call (.Name "reversed" p) [l] [] aO) (acr X.K dr):=by
 intro ak s ab H R aa h
 have ba:hx X [l] _:=av aC aA (hs:=hs.trans rfl)
 refine Call_ (oF aa aK hm boot_reversed (callWith_type1 (cz (ba aO ak s ab H (fun vs H1=>∃ x,vs=[x]/\∃ a xs,x = .ref a/\dQ X.K H1 a xs/\R (si X.K a xs) H1) aa ?_) fun us s1 ⟨vs,H1,aS,cp,cD⟩=>?_) (by rw[hs];rfl) I))
 ·have h':dr ab H fun x H1=>∃ a xs,x = .ref a/\dQ X.K H1 a xs/\R (si X.K a xs) H1:=h
  show dr ab H fun x H1=>∃ y,[x]=[y]/\_
  exact cast (congrArg (dr ab H) (funext fun x=>funext fun H1=>propext ⟨fun q=>⟨x,I,q⟩,fun⟨y,e,q⟩=>by cases e;exact q⟩)) h'
 ·obtain⟨x,rfl,a,xs,rfl,aU,q⟩:=cD
  obtain⟨u,rfl,gG⟩:=vals1 cp
  obtain rfl:u=ao.ref a:=gG
  obtain⟨bq,dH,pl,bI⟩:=aS.list aU
  have cG:=dH.length
  refine call_reversed_list pl.isList ?_
  have bA:Inv X ak ab H1 {s1 with heap:=s1.heap.push (revObj a ((bq.toArray.size:Int) - 1))}:=aS.kept (t':=s1.toks) fun b o e=>d7 _ e
  have Cp:(s1.heap.push (revObj a ((bq.toArray.size:Int) - 1))).IsRevIter s1.heap.objs.size a ((xs.length:Int) - 1 - ((0:Nat):Int)):=by
   have eL:((bq.toArray.size:Int) - 1)=((xs.length:Int) - 1 - ((0:Nat):Int)):=by rw[fY,<- cG];omega
   rw[eL]
   exact⟨_,gU _ I,I,I⟩
  refine wpAny_pyIter_revIter Cp ?_
  refine⟨_,[_],_,_,H1,I,bA,XA a _ xs,⟨UF _,Cp⟩,fun b aq=>?_,q⟩
  have e:=fy.mp aq
  subst e
  exact aS.pS (cx _) (aS.aR.fresh (cx _))
theorem Sf{K:bO}{a:ae}{xs:List V}{g:gK}{c9:eK}{D:Ends}{ab:St}{H:au}(Pv:Nat->St->au->Prop)(bu:Pv 0 ab H)(aC:∀ i ab H,i<=xs.length->Pv i ab H->dQ K H a xs)
  (hs:∀ i x ab H,i<xs.length->xs[xs.length - 1 - i]?=J x->Pv i ab H->g x ab H fun bR ax=>c9 {D with nx:=Pv (i+1),ct:=Pv (i+1),bk:=D.nx} bR ax) (hd:∀ ab H,Pv xs.length ab H->D.nx ab H) :
  ∃ W:Nat->Nat->St->au->Prop,(∃ m,W 0 m ab H)/\∀ i m ab H,W i m ab H->
   ((si K a xs).stop i H/\D.nx ab H)\/((si K a xs).go i H/\∃ N:St->au->Prop,(∀ bQ H',N bQ H'->∃ b1,b1<m/\W (i+1) b1 bQ H')/\∀ x H',(si K a xs).pa i H x H'->g x ab H' fun bR ax=>c9 {D with nx:=N,ct:=N,bk:=D.nx} bR ax):=by
 refine⟨fun i m ab H=>i<=xs.length/\m=xs.length - i/\Pv i ab H,⟨xs.length,UF _,I,bu⟩,?_⟩
 rintro i m ab H ⟨aj,rfl,ar⟩
 rcases jx i xs.length with z | z
 ·refine .inr ⟨⟨aC i ab H aj ar,z⟩,Pv (i+1),fun bQ H' q=>⟨xs.length - (i+1),by omega,by omega,rfl,q⟩,?_⟩
  rintro x H' ⟨rfl,ay⟩
  exact hs i x ab _ z ay ar
 ·have e:i=xs.length:=by omega
  subst e
  exact .inl ⟨⟨aC _ ab H (cx _) ar,cx _⟩,hd ab H ar⟩
theorem ve(hc:X.calm=ag):js X (.builtin "all") (fun xs H Q=>∃ a,∃ bs:List Bool,xs=[.ref a]/\dQ X.K H a (bs.map .aH)/\Q (.aH (bs.all id)) H):=by
 intro ak s ab H xs us Q aa r h
 obtain⟨a,bs,rfl,aU,q⟩:=h
 obtain⟨u,rfl,gG⟩:=vals1 r
 obtain rfl:u=ao.ref a:=gG
 obtain⟨bq,dH,pl,bI⟩:=aa.list aU
 have cG:=dH.length
 have i2:a<s.heap.objs.size:=by obtain⟨o,aJ,_⟩:=pl.isList;exact dX aJ
 refine call_all_walkS (wpAny_pyIter_list pl.isList ?_)
 refine⟨s.heap.objs.size,[s.heap.objs.size,a],[s.heap.objs.size],_,bq.toArray.size,_,_,fun i=>bs.getD i ah,I,(Walks.list (A:=X.A.in1) (aa.ok.hd hc) s.heap.objs.size a (fj i2) bq.toArray).toS,⟨⟨_,gU _ I,I,I⟩,?_⟩,?_,fun aF kp=>?_⟩
 ·obtain⟨o,aJ,r⟩:=pl.isList;exact⟨o,d7 _ aJ,r⟩
 ·intro i v s2 aiG fQ bl cE
  have tv:bq[i]?=J v:=by simpa using bl
  have aB:i<bs.length:=by
   have:=(kE.mp tv).1
   rw[cM] at cG;omega
  have aq:(bs.map V.aH)[i]?=J (.aH (bs.getD i ah)):=by rw[fT,dm aB,e9,dm aB];rfl
  obtain⟨u,dN,gG⟩:=dH.get aq
  rw[tv] at dN;cases dN
  obtain rfl:v=ao.bool (bs.getD i ah):=gG
  exact wJ cE
 ·have hZ:(List.range bq.toArray.size).all (fun i=>bs.getD i ah)=bs.all id:=by
   rw[fY,<- cG,cM]
   apply Bool.eq_iff_iff.mpr
   rw[iD,iD]
   constructor
   ·intro h x ay
    obtain⟨i,aB,rfl⟩:=List.mem_iff_getElem.mp ay
    have:=h i (List.mem_range.mpr aB)
    rw[e9,dm aB] at this
    exact this
   ·intro h i aB
    have tm:=List.mem_range.mp aB
    rw[e9,dm tm]
    exact h _ (List.getElem_mem tm)
  rw[hZ]
  refine⟨.aH _,H,?_,I,q⟩
  have bA:Inv X ak ab H {s with heap:=s.heap.push {cls := .type "list_iterator",data := .fields #[.ref a,.int 0 0]}}:=aa.kept (t':=s.toks) fun b o e=>d7 _ e
  obtain⟨f0,f1,f2,ha,f4,hD⟩:=aa.pS (b:=s.heap.objs.size) (cx _) (aa.aR.fresh (cx _))
  have e:aF={s with heap:=aF.heap,toks:=aF.toks}:=by
   obtain⟨aj,g1,eQ,t1,HK⟩:=aF
   have:=kp.gens;have:=kp.drawn;have:=kp.os
   dsimp only at *
   subst_vars;rfl
  have iq:=bA.turned (t':=aF.toks) (it:=s.heap.objs.size) (h':=aF.heap) (fun b o aq e=>kp.heap b o (by simpa using aq) e) f0 f1 ha f4 hD
  rw[e]
  exact iq
end
theorem K1(l:List V):qX l (J 1) aw=l.drop 1:=by
 unfold qX eN.gk
 cases l with
 | nil=>rfl
 | cons a r=>simp
theorem Xp(l:List V):qX l aw (J (-1))=l.take (l.length - 1):=by
 unfold qX eN.gk
 cases l with
 | nil=>rfl
 | cons a r =>
  simp only[show ((-1:Int)<0) from by decide,if_true,List.drop_zero,Nat.sub_zero]
  congr 1
  simp only[ed]
  omega
theorem Ax{K:bO}{a:ae}{xs:List V}{g:gK}{cn:TE}{Q:bx}{H:au}{D:ae}{fO:St}(f:V->V)(S:St->Prop)(bI:xs.length<=bT)(bu:S fO)(dB:H D=aw)(aC:dQ K H a xs)
  (aW:∀ x,x∈xs->∀ b8 H1,S b8->er H H1->∀ R:St->V->au->Prop,(∀ bR,S bR->R bR (f x) H1)->g x b8 H1 fun bR ax=>cn bR ax fun y bt=>R bR y bt)
  (aU:Q (.ref D) (upd H D (.lst (xs.map f)))) :
  ot (qD K a) g rN cn Q fO H D:=by
 refine⟨fun i m b8 ax=>i<=xs.length/\m=xs.length - i/\S b8/\ax=upd H D (.lst ((xs.take i).map f)),⟨xs.length,UF _,I,bu,I⟩,?_⟩
 rintro i m b8 ax ⟨aj,rfl,ar,rfl⟩
 have i1:=(cL (o := .lst ((xs.take i).map f)) dB).seq aC
 rcases jx i xs.length with z | z
 ·refine .inr ⟨⟨xs,xs[i],i1,dm z⟩,?_⟩
  rintro x bt ⟨rfl,ay⟩
  have ay:=ay xs i1
  refine aW x (jy ay) b8 _ ar (cL dB) (fun bR y e3=>∃ aY b1,e3 D=J (.lst aY)/\aY.length<bT/\b1<xs.length - i/\(i+1<=xs.length/\b1=xs.length - (i+1)/\S bR/\upd e3 D (.lst (aY++[y]))=upd H D (.lst ((xs.take (i+1)).map f)))) fun bR fL=>?_
  refine⟨_,xs.length - (i+1),aM,?_,by omega,by omega,rfl,fL,?_⟩
  ·rw[cM,kg];omega
  ·rw[h8,nE,ay,fz];rfl
 ·have e:i=xs.length:=by omega
  subst e
  rw[List.take_length]
  rw[List.take_length] at i1
  exact .inl ⟨⟨xs,i1,cx _⟩,aU⟩
end dg
end
section
namespace gf
open PySem dg
noncomputable def cC:List Int->Int×Int
 | []=>(1,0)
 | a::r=>(a*(cC r).1+(cC r).2,(cC r).1)
def Tail(r:List Int):Prop:=(∀ x∈r,1<=x)/\∀ h:r≠[],2<=r.getLast h
noncomputable def Good:List Int->Prop
 | []=>False
 | _::r=>Tail r
theorem Tail.dr{a:Int}{r:List Int}(h:Tail (a::r)):Tail r:=by
 refine⟨fun x ay=>h.1 x (fk _ ay),fun az=>?_⟩
 have:=h.2 (mE _ _)
 rwa [List.getLast_cons az] at this
theorem Tail.cC:∀ {r:List Int},Tail r->0<=(cC r).2/\(cC r).2<(cC r).1/\(r≠[]->0<(cC r).2)
 | [],_=>⟨by decide,by decide,fun h=>absurd rfl h⟩
 | a::r,h=>by
  obtain⟨aj,ar,bB⟩:=h.dr.cC
  have ba:=h.1 a (hz ..)
  show 0<=(gf.cC r).1/\(gf.cC r).1<a*(gf.cC r).1+(gf.cC r).2/\(_->0<(gf.cC r).1)
  refine⟨by omega,?_,fun _=>by omega⟩
  by_cases az:r=[]
  ·subst az
   have aC:=h.2 (mE _ _)
   have G7:(2:Int)<=a:=aC
   show (1:Int)<a*1+0
   omega
  ·have:=bB az
   have hm:1*(gf.cC r).1<=a*(gf.cC r).1:=Int.mul_le_mul_of_nonneg_right ba (by omega)
   omega
theorem AB{a:Int}{r:List Int}(h:Tail r):(cC (a::r)).1/(cC (a::r)).2=a/\(cC (a::r)).1%(cC (a::r)).2=(cC r).2:=by
 obtain⟨aj,ar,_⟩:=h.cC
 show (a*(cC r).1+(cC r).2)/(cC r).1=a/\(a*(cC r).1+(cC r).2)%(cC r).1=(cC r).2
 constructor
 ·rw[Int.add_comm,Int.add_mul_ediv_right _ _ (by omega),Int.ediv_eq_zero_of_lt aj ar,Int.zero_add]
 ·rw[Int.add_comm,Int.add_mul_emod_self_right,Int.emod_eq_of_lt aj ar]
noncomputable def d9(p q:Int):List Int:=if h:0<q then (p/q)::d9 q (p%q) else []
termination_by q.toNat
decreasing_by
 have:=hy p h
 have:=hl p (Int.ne_of_gt h)
 omega
theorem lg{p q:Int}(h:0<q):d9 p q=(p/q)::d9 q (p%q):=by rw[d9,dif_pos h]
theorem pA(p:Int):d9 p 0=[]:=by rw[d9,dif_neg (by decide)]
theorem Lm:∀ {r:List Int},Tail r->d9 (cC r).1 (cC r).2=r
 | [],_=>pA _
 | a::r,h=>by
  obtain⟨aj,ar,_⟩:=h.dr.cC
  obtain⟨eQ,hB⟩:=AB (a:=a) h.dr
  rw[lg (show 0<(cC (a::r)).2 from by show 0<(cC r).1;omega),eQ,hB]
  exact congrArg (a::·) (Lm h.dr)
theorem Good.d9:∀ {s:List Int},Good s->0<(cC s).2/\d9 (cC s).1 (cC s).2=s
 | a::r,h=>by
  have h:Tail r:=h
  obtain⟨aj,ar,_⟩:=h.cC
  obtain⟨eQ,hB⟩:=AB (a:=a) h
  have bh:0<(cC (a::r)).2:=by show 0<(cC r).1;omega
  refine⟨bh,?_⟩
  rw[lg bh,eQ,hB]
  exact congrArg (a::·) (Lm h)
theorem AG(i:Int):c1.Int.intBits i=aZ i.natAbs:=by
 unfold c1.Int.intBits aZ
 by_cases h:i=0
 ·subst h;rfl
 ·rw[if_neg (by simpa using h),if_neg (by omega)]
theorem KV{B:Nat}:∀ {s:List Int},(∀ x∈s,x.natAbs<2 ^ B)->(cC s).1.natAbs<=2 ^ ((B+1)*s.length)/\(cC s).2.natAbs<=2 ^ ((B+1)*s.length)
 | [],_=>⟨by rw[List.length_nil,Nat.mul_zero];decide,by rw[List.length_nil,Nat.mul_zero];decide⟩
 | a::r,h=>by
  obtain⟨aj,ar⟩:=KV (s:=r) fun x ay=>h x (fk _ ay)
  have ba:=h a (hz ..)
  have e:(B+1)*(a::r).length=(B+1)*r.length+(B+1):=by rw[ed,Nat.mul_succ]
  rw[e,Nat.pow_add]
  obtain⟨T,b9⟩:∃ T,T=2 ^ ((B+1)*r.length):=⟨_,rfl⟩
  rw[<- b9] at aj ar ⊢
  have aq:1<=2 ^ B:=Nat.one_le_two_pow
  have aL:2 ^ (B+1)=2 ^ B*2:=Nat.pow_succ ..
  rw[aL]
  obtain⟨b,GJ⟩:∃ b,b=2 ^ B:=⟨_,rfl⟩
  rw[<- GJ] at ba aq ⊢
  have dE:T*(b*2)=b*T+T*b:=by rw[<- Nat.mul_assoc,Nat.mul_two,Nat.mul_comm b T]
  have gE:T*1<=T*b:=Nat.mul_le_mul_left _ aq
  constructor
  ·show (a*(cC r).1+(cC r).2).natAbs<=_
   have z:=Int.natAbs_add_le (a*(cC r).1) (cC r).2
   rw[Int.natAbs_mul] at z
   have m:a.natAbs*(cC r).1.natAbs<=b*T:=Nat.mul_le_mul (Nat.le_of_lt ba) aj
   omega
  ·show (cC r).1.natAbs<=_
   have:0<=b*T:=UF _
   omega
theorem LO{i:Int}{k:Nat}(h:i.natAbs<=2 ^ k):c1.Int.intBits i<=k+1:=by
 rw[AG]
 refine hn ?_
 rw[Nat.pow_succ]
 have:=Nat.two_pow_pos k
 omega
theorem Ss{i:Int}{k:Nat}(h:i.natAbs<2 ^ k):c1.Int.intBits i<=k:=by rw[AG];exact hn h
theorem Yg{p q:Int}{B:Nat}(h:0<q)(hs:(p/q).natAbs<2 ^ B):c1.Int.intBits p<=c1.Int.intBits q+(B+1):=by
 rw[AG,AG]
 refine hn ?_
 have e:=Int.mul_ediv_add_emod p q
 have ks:=hl p (Int.ne_of_gt h)
 have cp:=hy p h
 have z:=Int.natAbs_add_le (q*(p/q)) (p%q)
 rw[e,Int.natAbs_mul] at z
 have aU:=qS q.natAbs
 have m:q.natAbs*(p/q).natAbs<=q.natAbs*2 ^ B:=Nat.mul_le_mul_left _ (Nat.le_of_lt hs)
 rw[Nat.pow_add,Nat.pow_succ]
 have lF:q.natAbs*2 ^ B<=2 ^ aZ q.natAbs*2 ^ B:=Nat.mul_le_mul_right _ (Nat.le_of_lt aU)
 have aq:1<=2 ^ B:=Nat.one_le_two_pow
 have BZ:2 ^ aZ q.natAbs*1<=2 ^ aZ q.natAbs*2 ^ B:=Nat.mul_le_mul_left _ aq
 have dE:2 ^ aZ q.natAbs*(2 ^ B*2)=2 ^ aZ q.natAbs*2 ^ B+2 ^ aZ q.natAbs*2 ^ B:=by rw[<- Nat.mul_assoc,Nat.mul_two]
 omega
noncomputable def hX(s:List Int):Bool:=if s.length<2 then decide (s.length=1) else s.tail.all (fun x=>decide (0<x))&&decide (1<s.getLastD 0)
theorem u7(s:List Int):hX s=ag↔Good s:=by
 unfold hX
 match s with
 | []=>simp[Good]
 | [a]=>simp[Good,Tail]
 | a::b::r =>
  rw[if_neg (by simp)]
  rw[h7,iD,jQ]
  have e:(a::b::r).getLastD 0=(b::r).getLast (mE _ _):=by
   rw[List.getLastD_cons,List.getLastD_eq_getLast?,List.getLast?_eq_some_getLast (mE _ _)];rfl
  rw[e]
  constructor
  ·rintro⟨aj,ar⟩
   exact⟨fun x ay=>by have:=lb (aj x ay);omega,fun _=>by omega⟩
  ·rintro⟨aj,ar⟩
   exact⟨fun x ay=>ek (by have:=aj x ay;omega),by have:=ar (mE _ _);omega⟩
theorem Good.ne{s:List Int}(h:Good s):s≠[]:=by intro e;subst e;exact h
end gf
end
section
namespace dg
open PySem PySem.W PySem.Spec PyProof.Rows
section
variable {X:bp} {ak:List (ae×bo)} {ab:St} {H:au} {s:aI} {h':aX}
theorem Inv.PQ{t':Nat}{ch:List ae}{a:ae}{o:cv}(aa:Inv X ak ab H s)(k:∀ b u,b∉ch->s.heap.get? b=J u->h'.get? b=J u)(aE:∀ b∈ch,pw X ak H b)(ba:s.heap.objs.size<=a)(new:gg X.prog X.w (upd H a o) h' a o) :
  Inv X ak ab (upd H a o) {s with heap:=h',toks:=t'}:=by
 have bc:=aa.aR.fresh ba
 have n8:∀ b u,H b=J u->b∉ch:=fun b u e z=>by have:=(aE b z).1;rw[this] at e;cases e
 have ne:∀ b u,s.heap.get? b=J u->b≠a:=fun b u e z=>by subst z;exact absurd (fi (dX e) ba) (Nat.lt_irrefl _)
 refine aa.step (g':=s.gens) (d':=s.drawn) (ch:=ch) (fun b aq=>?_) (fun b o _ _ hc e _=>k b o hc e) (fun b o _ _ hc e _=>⟨o.slots,k b o hc e⟩) (fun b u _ e n=>by rw[bJ (ne b u e)];exact n)
  (fun b o hc e=>⟨o,k b o hc e⟩) (fun b xs e=>by rw[bJ (eO e bc)];exact e) (fun b u v e=>by rw[bJ (eO e bc)];exact e) (fun b ps e=>⟨#[],by rw[bJ (eO e bc),e];simp⟩) (fun m hm=>?_) (fun b u e=>?_) aa.bare
 ·obtain⟨f0,f1,f2,ha,f4,hD⟩:=aE b aq
  exact⟨ha,f1,f4,hD⟩
 ·obtain⟨dC,aV,fV,aJ,r⟩:=hm
  exact⟨dC,aV,fV,k _ dC (fun z=>(aE _ z).2.1 I) aJ,r⟩
 ·by_cases aq:b=a
  ·subst aq;rw[aM] at e;cases e;exact new
  ·rw[bJ aq] at e
   refine(aa.aR b u e).mn (fun c v hc q=>k c v ?_ q) (fun c q=>by rw[bJ (eO q bc)];exact q) fun c xs q=>by rw[bJ (eO q bc)];exact q
   rcases hc with z | z
   ·rw[z];exact n8 b u e
   ·exact n8 c _ z
theorem Inv.PO{t':Nat}{ch:List ae}(aa:Inv X ak ab H s)(k:∀ b u,b∉ch->s.heap.get? b=J u->h'.get? b=J u)(aE:∀ b∈ch,pw X ak H b):Inv X ak ab H {s with heap:=h',toks:=t'}:=by
 have n8:∀ b u,H b=J u->b∉ch:=fun b u e z=>by have:=(aE b z).1;rw[this] at e;cases e
 refine aa.step (g':=s.gens) (d':=s.drawn) (ch:=ch) (fun b aq=>?_) (fun b o _ _ hc e _=>k b o hc e) (fun b o _ _ hc e _=>⟨o.slots,k b o hc e⟩) (fun _ _ _ _ n=>n)
  (fun b o hc e=>⟨o,k b o hc e⟩) (fun _ _ e=>e) (fun _ _ _ e=>e) (fun b ps e=>⟨#[],by rw[e];simp⟩) (fun m hm=>?_) (fun b u e=>?_) aa.bare
 ·obtain⟨f0,f1,f2,ha,f4,hD⟩:=aE b aq
  exact⟨ha,f1,f4,hD⟩
 ·obtain⟨dC,aV,fV,aJ,r⟩:=hm
  exact⟨dC,aV,fV,k _ dC (fun z=>(aE _ z).2.1 I) aJ,r⟩
 ·refine(aa.aR b u e).mn (fun c v hc q=>k c v ?_ q) (fun _ q=>q) fun _ _ q=>q
  rcases hc with z | z
  ·rw[z];exact n8 b u e
  ·exact n8 c _ z
end
noncomputable def sg(K:bO)(a:ae)(xs:List V):kd :=
 ⟨fun i H=>dQ K H a xs/\i<xs.length,fun i H x H'=>∃ (T:ae) (y:V),H T=aw/\xs[i]?=J y/\x = .ref T/\H'=upd H T (.tup [.int (i:Nat),y]),fun i H=>dQ K H a xs/\xs.length<=i⟩
theorem WE{P:cX}{w:cu}{K:bO}{elts:List b2}{k:Nat}{aO:Pos}(a e it:ae)(xs:List V)(aj:e≠it)(ar:a≠e)(bB:a≠it) :
  Turn P w K (.Tuple elts k aO) (sg K a xs) [e,it] e (fun i h=>i<=xs.length/\(∃ old,IsEnum h e it (i:Nat) old)/\h.IsListIter it a i) where
 mem:=by simp
 obj:=fun i h st b aq=>by
  obtain⟨_,⟨old,i6⟩,jH⟩:=st
  rcases dn.mp aq with z | z
  ·subst z
   exact⟨_,i6,fun v z=>by cases z⟩
  ·obtain rfl:=fy.mp z
   obtain⟨o,e,c,d⟩:=jH
   exact⟨o,e,fun v z=>by rw[d] at z;cases z⟩
 keep:=fun i h h' st k=>by
  obtain⟨aB,⟨old,i6⟩,jH⟩:=st
  exact⟨aB,⟨old,k e (by simp) _ i6⟩,jH.at fun o e=>k it (by simp) o e⟩
 item:=by
  intro X ck hw gQ hc i ak s ab H E aa aE st aK
  subst ck hw gQ
  obtain⟨aU,aB⟩:=aK
  obtain⟨bq,dH,p,bI⟩:=aa.list aU
  have cG:=dH.length
  have W:=WalksT.enumerate (prog:=X.prog) (w:=X.w) (aa.ok.hd hc) e it a aj ar bB bq.toArray
  refine W.item i s _ _ (by rw[fY];omega) ⟨st.2.1,st.2.2,p.isList⟩ fun T vals h' cf bl b9 ab2 mid ft=>?_
  refine⟨_,I,W.go elts k aO i T _ _ _ mid fun MJ i5 NJ=>?_⟩
  obtain⟨t,u,dN,rfl⟩:=bl
  have ab3:bq[i]?=J u:=by simpa using dN
  have bM:xs[i]?=J (xs[i]'aB):=dm aB
  obtain⟨lM,BP,gG⟩:=dH.get bM
  rw[ab3] at BP;cases BP
  have GB:=aa.aR.fresh b9
  have h3:T∉[e,it]:=W.apart i T h' mid
  refine⟨.ref T,upd H T (.tup [.int (i:Nat),xs[i]'aB]),?_,I,⟨T,_,GB,bM,I,I⟩,⟨by omega,i5.1,i5.2.1⟩,fun b aq=>?_⟩
  ·refine aa.PQ (ch:=[e,it]) (t':=cf) (fun b o aq ho=>NJ b o aq (ft b o aq ho)) aE b9 ?_
   refine⟨by show 2<=bT;decide,[ao.int (i:Nat) t,u],.cons ⟨t,rfl⟩ (.cons gG .nil),?_⟩
   obtain⟨o,aJ,r⟩:=ab2
   exact⟨o,NJ T o h3 aJ,r⟩
  ·have:=(aE b aq).1
   rw[bJ]
   ·exact this
   ·intro z;subst z;exact h3 aq
 done:=by
  intro X ck hw gQ hc i ak s ab H E aa aE st aK
  subst ck hw gQ
  obtain⟨aU,aB⟩:=aK
  obtain⟨bq,dH,p,bI⟩:=aa.list aU
  have cG:=dH.length
  have W:=WalksT.enumerate (prog:=X.prog) (w:=X.w) (aa.ok.hd hc) e it a aj ar bB bq.toArray
  have fb:i=bq.toArray.size:=by rw[fY];have:=st.1;omega
  subst fb
  exact W.done s _ _ ⟨st.2.1,st.2.2,p.isList⟩ fun h' cf ft=>⟨I,aa.PO (t':=cf) ft aE⟩
 self:=fun A i s Q E st h=>by
  obtain⟨_,⟨old,i6⟩,_⟩:=st
  exact wpAny_pyIter_enum i6 h
section
variable {X:bp}
def acq(K:bO)(dr:TE):dW:=fun ab H R=>dr ab H fun x H1=>∃ a xs,x = .ref a/\dQ K H1 a xs/\R (sg K a xs) H1
theorem RQ{l:b2}{dr:TE}{p aO:Pos}{elts:List b2}{k:Nat}{wA:Pos}(aK:h5 X "enumerate")(hm:X.mg "enumerate"=aw)(aC:bW X l dr)(hs:df [l] X.env=[(ah,eval l X.env)]:=by rfl):iO X (.Tuple elts k wA) (.Call (.Name "enumerate" p) [l] [] aO) (acq X.K dr):=by
 intro ak s ab H R aa h
 have ba:hx X [l] _:=av aC aA (hs:=hs.trans rfl)
 refine Call_ (oF aa aK hm boot_enumerate (callWith_type1 (cz (ba aO ak s ab H (fun vs H1=>∃ x,vs=[x]/\∃ a xs,x = .ref a/\dQ X.K H1 a xs/\R (sg X.K a xs) H1) aa ?_) fun us s1 ⟨vs,H1,aS,cp,cD⟩=>?_) (by rw[hs];rfl) I))
 ·have h':dr ab H fun x H1=>∃ a xs,x = .ref a/\dQ X.K H1 a xs/\R (sg X.K a xs) H1:=h
  show dr ab H fun x H1=>∃ y,[x]=[y]/\_
  exact cast (congrArg (dr ab H) (funext fun x=>funext fun H1=>propext ⟨fun q=>⟨x,I,q⟩,fun⟨y,e,q⟩=>by cases e;exact q⟩)) h'
 ·obtain⟨x,rfl,a,xs,rfl,aU,q⟩:=cD
  obtain⟨u,rfl,gG⟩:=vals1 cp
  obtain rfl:u=ao.ref a:=gG
  obtain⟨bq,dH,pl,bI⟩:=aS.list aU
  have i2:a<s1.heap.objs.size:=by obtain⟨o,aJ,_⟩:=pl.isList;exact dX aJ
  refine call_enumerate_list pl.isList fun h' he aB f7 ft=>?_
  have bA:Inv X ak ab H1 {s1 with heap:=h'}:=aS.kept (t':=s1.toks) ft
  refine wpAny_pyIter_enum he ?_
  refine⟨_,[s1.heap.objs.size+1,s1.heap.objs.size],_,_,H1,I,bA,WE a _ _ xs (Nat.succ_ne_self _) (fj (Nat.lt_succ_of_lt i2)) (fj i2),⟨UF _,⟨_,he⟩,aB⟩,fun b aq=>?_,q⟩
  rcases dn.mp aq with z | z
  ·subst z;exact aS.pS (by omega) (aS.aR.fresh (by omega))
  ·obtain rfl:=fy.mp z
   exact aS.pS (cx _) (aS.aR.fresh (cx _))
theorem Yb{K:bO}{a:ae}{xs:List V}{g:gK}{c9:eK}{D:Ends}{ab:St}{H:au}(Pv:Nat->St->au->Prop)(bu:Pv 0 ab H)(aC:∀ i ab H,i<=xs.length->Pv i ab H->dQ K H a xs)
  (hs:∀ i x ab H T,xs[i]?=J x->H T=aw->Pv i ab H->g (.ref T) ab (upd H T (.tup [.int (i:Nat),x])) fun bR ax=>c9 {D with nx:=Pv (i+1),ct:=Pv (i+1),bk:=D.nx} bR ax) (hd:∀ ab H,Pv xs.length ab H->D.nx ab H) :
  ∃ W:Nat->Nat->St->au->Prop,(∃ m,W 0 m ab H)/\∀ i m ab H,W i m ab H->
   ((sg K a xs).stop i H/\D.nx ab H)\/((sg K a xs).go i H/\∃ N:St->au->Prop,(∀ bQ H',N bQ H'->∃ b1,b1<m/\W (i+1) b1 bQ H')/\∀ x H',(sg K a xs).pa i H x H'->g x ab H' fun bR ax=>c9 {D with nx:=N,ct:=N,bk:=D.nx} bR ax):=by
 refine⟨fun i m ab H=>i<=xs.length/\m=xs.length - i/\Pv i ab H,⟨xs.length,UF _,I,bu⟩,?_⟩
 rintro i m ab H ⟨aj,rfl,ar⟩
 rcases jx i xs.length with z | z
 ·refine .inr ⟨⟨aC i ab H aj ar,z⟩,Pv (i+1),fun bQ H' q=>⟨xs.length - (i+1),by omega,by omega,rfl,q⟩,?_⟩
  rintro x H' ⟨T,y,b9,bM,rfl,rfl⟩
  exact hs i y ab H T bM b9 ar
 ·have e:i=xs.length:=by omega
  subst e
  exact .inl ⟨⟨aC _ ab H (cx _) ar,cx _⟩,hd ab H ar⟩
end
end dg
end
section
namespace gf
open PySem dg
noncomputable def more:List Int->List Bool
 | []=>[ah]
 | b::r=>ag::(cnt (b - 1).toNat++more r).map (!·)
noncomputable def lx:List Int->List Bool
 | []=>[]
 | a::r=>iB a++more r
noncomputable def odd(k:Nat):Bool:=decide (k%2=1)
theorem XY(k:Nat):odd (k+1)=!odd k:=by
 unfold odd
 have h:k%2=0\/k%2=1:=by omega
 rcases h with h | h
 ·have:(k+1)%2=1:=by omega
  simp[h,this]
 ·have:(k+1)%2=0:=by omega
  simp[h,this]
noncomputable def hK(k:Nat)(x:Int)(last:Bool):List Bool:=((if k=0 then iB x else cnt (x - 1).toNat)++[!last]).map (xor (odd k))
noncomputable def gF:Nat->List Int->List (List Bool)
 | _,[]=>[]
 | k,x::r=>hK k x r.isEmpty::gF (k+1) r
theorem Ep(k:Nat)(s:List Int):(gF k s).length=s.length:=by
 induction s generalizing k with
 | nil=>rfl
 | cons x r cA=>simp only[gF,ed,cA]
theorem LB{s:List Int}{k i:Nat}{x:Int}(h:s[i]?=J x):(gF k s)[i]?=J (hK (k+i) x (decide (i+1=s.length))):=by
 induction s generalizing k i with
 | nil=>cases h
 | cons y r cA =>
  cases i with
  | zero =>
   cases h
   show J (hK k x r.isEmpty)=_
   congr 2
   cases r<;>simp
  | succ i =>
   have h':r[i]?=J x:=h
   have:=cA (k:=k+1) h'
   show (gF (k+1) r)[i]?=_
   rw[this]
   congr 2
   ·omega
   ·simp
theorem Xz(l:List Bool)(t:Bool):(l.map (!·)).map (xor t)=l.map (xor (!t)):=by
 rw[ir]
 exact pE fun b _=>by cases t<;>cases b<;>rfl
theorem XS{k:Nat}(hk:k≠0)(b:Int)(r:List Int):(gF k (b::r)).flatten=(cnt (b - 1).toNat++more r).map (xor (odd k)):=by
 induction r generalizing k b with
 | nil =>
  show (hK k b ag++[])=_
  rw[List.append_nil]
  unfold hK
  rw[if_neg hk];rfl
 | cons c r cA =>
  show hK k b ah++(gF (k+1) (c::r)).flatten=_
  rw[cA (by omega) c]
  unfold hK
  rw[if_neg hk,XY,more,<- Xz,<- fz,fA];rfl
theorem RV(a:Int)(r:List Int):(gF 0 (a::r)).flatten=lx (a::r):=by
 have eL:∀ l:List Bool,l.map (xor (odd 0))=l:=fun l=>xl l
 cases r with
 | nil =>
  show (hK 0 a ag++[])=_
  rw[List.append_nil]
  unfold hK
  rw[if_pos rfl,eL];rfl
 | cons b r =>
  show hK 0 a ah++(gF 1 (b::r)).flatten=_
  rw[XS (by decide)]
  unfold hK
  rw[if_pos rfl,eL]
  show _=iB a++(ag::(cnt (b - 1).toNat++more r).map (!·))
  rw[fA]
  congr 1
  show ag::List.map (xor (odd 1)) _=ag::_
  congr 1
  exact pE fun b _=>by cases b<;>rfl
noncomputable def c4(p q:Int):Int:=if h:0<q then c4 q (p%q) else p
termination_by q.toNat
decreasing_by
 have:=hy p h
 have:=hl p (Int.ne_of_gt h)
 omega
theorem vo{p q:Int}(h:0<q):c4 p q=c4 q (p%q):=by rw[c4,dif_pos h]
theorem vk(p:Int):c4 p 0=p:=by rw[c4,dif_neg (by decide)]
theorem LM:∀ {r:List Int},Tail r->c4 (cC r).1 (cC r).2=1
 | [],_=>vk _
 | a::r,h=>by
  obtain⟨aj,ar,_⟩:=h.dr.cC
  obtain⟨eQ,hB⟩:=AB (a:=a) h.dr
  rw[vo (show 0<(cC (a::r)).2 from by show 0<(cC r).1;omega),hB]
  exact LM h.dr
theorem Good.c4:∀ {s:List Int},Good s->c4 (cC s).1 (cC s).2=1
 | a::r,h=>by
  have h:Tail r:=h
  obtain⟨aj,ar,_⟩:=h.cC
  obtain⟨eQ,hB⟩:=AB (a:=a) h
  rw[vo (show 0<(cC (a::r)).2 from by show 0<(cC r).1;omega),hB]
  exact LM h
end gf
end
section
namespace dg
open PySem PySem.W PySem.Spec PyProof.Rows
theorem xg{K:bO}{a:ae}{xs:List V}{g:gK}{cn:TE}{Q:bx}{H:au}{D:ae}{fO:St}(jg:Nat->V)(S:St->Prop)(bI:xs.length<=bT)(bu:S fO)(dB:H D=aw)(aC:dQ K H a xs)
  (aW:∀ i x,xs[i]?=J x->∀ b8 H1,S b8->er H H1->∀ R:St->V->au->Prop,(∀ bR,S bR->R bR (jg i) H1)->g x b8 H1 fun bR ax=>cn bR ax fun y bt=>R bR y bt)
  (aU:Q (.ref D) (upd H D (.lst ((List.range xs.length).map jg)))) :
  ot (qD K a) g rN cn Q fO H D:=by
 refine⟨fun i m b8 ax=>i<=xs.length/\m=xs.length - i/\S b8/\ax=upd H D (.lst ((List.range i).map jg)),⟨xs.length,UF _,I,bu,I⟩,?_⟩
 rintro i m b8 ax ⟨aj,rfl,ar,rfl⟩
 have i1:=(cL (o := .lst ((List.range i).map jg)) dB).seq aC
 rcases jx i xs.length with z | z
 ·refine .inr ⟨⟨xs,xs[i],i1,dm z⟩,?_⟩
  rintro x bt ⟨rfl,ay⟩
  have ay:=ay xs i1
  refine aW i x ay b8 _ ar (cL dB) (fun bR y e3=>∃ aY b1,e3 D=J (.lst aY)/\aY.length<bT/\b1<xs.length - i/\(i+1<=xs.length/\b1=xs.length - (i+1)/\S bR/\upd e3 D (.lst (aY++[y]))=upd H D (.lst ((List.range (i+1)).map jg)))) fun bR fL=>?_
  refine⟨_,xs.length - (i+1),aM,by rw[cM,lW];omega,by omega,by omega,rfl,fL,?_⟩
  rw[h8,List.range_succ,fz];rfl
 ·have e:i=xs.length:=by omega
  subst e
  exact .inl ⟨⟨xs,i1,cx _⟩,aU⟩
theorem Kn{lo:Int}{n:Nat}{g:gK}{fM:gL}{cn:TE}{Q:bx}{H:au}{D:ae}{fO:St}(keep:Nat->Bool)(f:Nat->V)(S:St->Prop)(bc:n<=100000)(bu:S fO)(dB:H D=aw)
  (aW:∀ i:Nat,i<n->∀ b8 H1,S b8->er H H1->∀ (R:St->V->au->Prop) (pD:St->au->Prop),(∀ bR,S bR->if keep i=ag then R bR (f i) H1 else pD bR H1)->g (.int (lo+(i:Int))) b8 H1 fun bR ax=>fM bR ax fun b bt=>if b=ag then cn bR bt fun y g0=>R bR y g0 else pD bR bt)
  (aU:Q (.ref D) (upd H D (.lst (((List.range n).filter keep).map f)))) :
  ot (sh lo n) g fM cn Q fO H D:=by
 refine⟨fun i m b8 ax=>i<=n/\m=n - i/\S b8/\ax=upd H D (.lst (((List.range i).filter keep).map f)),⟨n,UF _,I,bu,I⟩,?_⟩
 rintro i m b8 ax ⟨aj,rfl,ar,rfl⟩
 rcases jx i n with z | z
 ·refine .inr ⟨z,?_⟩
  rintro x bt ⟨rfl,rfl⟩
  refine aW i z b8 _ ar (cL dB) (fun bR y e3=>∃ aY b1,e3 D=J (.lst aY)/\aY.length<bT/\b1<n - i/\(i+1<=n/\b1=n - (i+1)/\S bR/\upd e3 D (.lst (aY++[y]))=upd H D (.lst (((List.range (i+1)).filter keep).map f))))
   (fun bR fg=>∃ b1,b1<n - i/\(i+1<=n/\b1=n - (i+1)/\S bR/\fg=upd H D (.lst (((List.range (i+1)).filter keep).map f)))) fun bR fL=>?_
  by_cases hk:keep i=ag
  ·rw[if_pos hk]
   refine⟨_,n - (i+1),aM,?_,by omega,by omega,rfl,fL,?_⟩
   ·rw[cM]
    have:=List.length_filter_le keep (List.range i)
    rw[lW] at this
    exact Nat.lt_of_le_of_lt this (fi (show i<100000 by omega) (by decide))
   ·rw[h8,List.range_succ,List.filter_append,fz,List.filter_cons_of_pos hk];rfl
  ·rw[if_neg hk]
   refine⟨n - (i+1),by omega,by omega,rfl,fL,?_⟩
   rw[List.range_succ,List.filter_append,fz,List.filter_cons_of_neg hk];simp
 ·have e:i=n:=by omega
  subst e
  exact .inl ⟨cx _,aU⟩
section
variable {X:bp} {e iF ai4 aV:b2} {cn dr o6 i7:TE} {hv aO:Pos}
theorem Ta{a:b2}{bS:TE}(ba:bW X a bS)(he:∀ whole,isTrue a X.env whole=(do let v <- whole;standAt a.pos;holding [v] (truthy v))):jO X a (fun ab H Q=>bS ab H fun x H'=>∃ c,x = .aH c/\Q c H'):=by
 intro ak s ab H Q aa h
 refine isTrue_plain (cz (ba ak s ab H _ aa h) fun v s1 bD=>?_) (he _)
 obtain⟨x,H1,aS,cp,c,ex,cD⟩:=bD
 subst ex
 cases cp
 exact wJ ⟨H1,aS,cD⟩
end
structure k8(K:bO)(C:ae):Prop where
 makes:y3 K C=ag
 init:dS K (.ref C) "__init__"=J (J (.builtin "object.__init__"))
 ij:j9 K (.ref C)=ag
section
variable {X:bp} {C:ae} {x:af} {p aO:Pos}
theorem WJ{ak:List (ae×bo)}{ab:St}{H:au}{s:aI}{Q:bx}(M:k8 X.K C)(aa:Inv X ak ab H s)(h:∀ x al,H x=aw->H al=aw->al≠x->Q (.ref x) (upd (upd H al (.own x)) x (.ins C al []))) :
  bE (model X.prog X.w) X.A (call (.ref C) []) (h4 X ak ab Q) X.xe s:=by
 have aU:=h (s.heap.objs.size+1) s.heap.objs.size (aa.aR.fresh (Nat.le_succ _)) (aa.aR.fresh (cx _)) (fj (Nat.lt_succ_self _))
 have bA:=Inv.made (C:=C) aa
 have Y:=makes_of (M:=model X.prog X.w) aa.es M.makes
 refine pd (WX aa.es M.makes M.init (fun self=>Looks.of_pure (oi_bind self)) ?_)
 have aL:((s.heap.push mu).push (mv C s.heap.objs.size)).get? (s.heap.objs.size+1)=J (mv C s.heap.objs.size):=by
  have:=gU (s.heap.push mu) (o:=mv C s.heap.objs.size) rfl
  rwa [aX.size_push] at this
 have t1:Looks (model X.prog X.w) ((s.heap.push mu).push (mv C s.heap.objs.size)) (typeOf (.ref (s.heap.objs.size+1))) (.ref C):=(Looks.ld aL).andThen .now
 have kV:Looks (model X.prog X.w) ((s.heap.push mu).push (mv C s.heap.objs.size)) (isInstance (.ref (s.heap.objs.size+1)) (.type "object")) ag:=t1.andThen (Y.top.keeps fun b o e=>d7 _ (d7 _ e))
 obtain⟨fp,g,d,t,os⟩:=s
 refine y5 oi_plain entry_oi (@check_slot (model X.prog X.w) _ _ _ "object.__init__" "object" "__init__" (.ref (fp.objs.size+1)) [] [] _ oi_kind oi_split kV (oi_args (.ref (fp.objs.size+1))) ?_)
 rw[oi_run]
 exact dv (And.intro I ⟨V.ref (fp.objs.size+1),_,bA,I,aU⟩)
def agT(C:ae):TE:=fun _ H Q=>∀ x al,H x=aw->H al=aw->al≠x->Q (.ref x) (upd (upd H al (.own x)) x (.ins C al []))
theorem Au(M:k8 X.K C)(aK:h5 X x)(hm:X.mg x=J (.ref C))(iI:(x == ("__debug__":af))=ah:=by decide):bW X (.Call (.Name x p) [] [] aO) (agT C):=by
 intro ak s ab H Q aa h
 refine qt (qR aa aK hm ?_ iI)
 exact PySem.W.callWith_K0 aa.es M.ij (WJ M aa h)
theorem Sj(a b:af)(t u:Tok):MeetsSeq.EqGives (.str a t) (.str b u) (decide (a=b)):=by
 intro prog w A Q E s h
 exact wpAny_eqBool_str h
end
end dg
end
section
namespace dg
open PySem PySem.Spec
noncomputable def f9(val:Nat->af):Nat->List af
 | 0=>[]
 | i+1=>if val i∈f9 val i then f9 val i else f9 val i++[val i]
theorem xp(val:Nat->af):∀ i,(f9 val i).length<=i
 | 0=>cx _
 | i+1=>by
  have cA:=xp val i
  unfold f9
  split
  ·omega
  ·rw[dI,iC];omega
theorem B0(val:Nat->af)(i:Nat)(k:af):(decide (k∈f9 val i)||decide (k=val i))=decide (k∈f9 val (i+1)):=by
 conv=>rhs;unfold f9
 by_cases h:val i∈f9 val i
 ·rw[if_pos h]
  by_cases e:k=val i
  ·subst e;simp[h]
  ·simp[e]
 ·rw[if_neg h]
  by_cases e:k=val i<;>simp[e]
theorem X0(val:Nat->af)(i:Nat):(if decide (val i∈f9 val i)=ag then (f9 val i).length else (f9 val i).length+1)=(f9 val (i+1)).length:=by
 conv=>rhs;unfold f9
 by_cases h:val i∈f9 val i
 ·rw[if_pos h,if_pos (ek h)]
 ·rw[if_neg h,if_neg (by simpa using h),dI];rfl
section
variable {prog:cX} {w:cu} {A:da} {R:Result->aI->Prop} {aa:ae} {bH wr:List ae} {G:Array GenState->Array GenState->Prop} {n:Nat} {Pv:Nat->ao->Prop} {St:Nat->aI->Prop}
abbrev nD(prog:cX)(w:cu)(h:aX)(S:ae)(val:Nat->af)(i:Nat):Prop:=h.SetOf (PySem.strKind prog w) S (fun k=>decide (k∈f9 val i)) (f9 val i).length
theorem nD.keep{h h':aX}{S:ae}{val:Nat->af}{i:Nat}(t:nD prog w h S val i)(k:∀ o,h.get? S=J o->h'.get? S=J o):nD prog w h' S val i:=by
 obtain⟨o,aV,fV,c9,aJ,rest⟩:=t
 exact⟨o,aV,fV,c9,k o aJ,rest⟩
theorem Kz(W:WalksS prog w A.in1 aa bH wr G n Pv St)(S:ae)(vJ:S∉bH)(val:Nat->af)(ab7:∀ i v,Pv i v->∃ t,v = .str (val i) t)(aq:n+1<scanBound) :
  ∀ (m i:Nat) (s:aI),n - i=m->i<=n->St i s->nD prog w s.heap S val i->(∀ aF,Moved (S::wr) G s aF->nD prog w aF.heap S val n->R (.ok (.ret .none)) aF)->
   kA (model prog w) A (.builtin "set.update.loop" ⟨[.ref S,.ref aa],[]⟩) R s:=by
 have MZ:S∉wr:=fun h=>vJ (W.sub _ h)
 have up:∀ b∈wr,b∈S::wr:=fun b h=>fk _ h
 intro m
 induction m with
 | zero =>
  intro i s hm aB st b9 cY
  obtain rfl:i=n:=by omega
  refine codeAny_builtin PyProof.Rows.F.entry_set_update_loop ?_
  rw[da.under_plainId PyProof.Rows.F.plain_set_update_loop _]
  refine bC (m:=pyNext (.ref aa)) (W.done s _ _ st fun aF kp=>?_)
  exact dv (cY aF (kp.mono up) (b9.keep fun o e=>kp.heap S _ MZ e))
 | succ m cA =>
  intro i s hm aB st b9 cY
  have i2:i<n:=by omega
  refine codeAny_builtin PyProof.Rows.F.entry_set_update_loop ?_
  rw[da.under_plainId PyProof.Rows.F.plain_set_update_loop _]
  refine bC (m:=pyNext (.ref aa)) (W.item i s _ _ i2 st fun v aF ck i5 kp=>?_)
  obtain⟨t,rfl⟩:=ab7 i v ck
  have vL:nD prog w aF.heap S val i:=b9.keep fun o e=>kp.heap S _ MZ e
  have Ng:(PySem.strKind prog w).is (val i) (.str (val i) t)=ag:=by simp[PySem.strKind,ao.isStrOf]
  refine bC (m:=holding [ao.str (val i) t] (setAdd S (.str (val i) t))) (wpAny_holding ?_)
  unfold setAdd
  refine wpAny_holding (bC ((PySem.strKind prog w).pyHash (k:=val i) Ng ?_))
  have room:(f9 val i).length+1<scanBound:=by have:=xp val i;omega
  refine wpAny_setAddHashed_of (knd:=PySem.strKind prog w) (s:={aF with toks:=aF.toks+1}) Ng I vL room fun h' m4 ji=>?_
  have Bs:nD prog w h' S val (i+1):=PyProof.Rows.SetOf_congr ji (fun k=>B0 val i k) (X0 val i)
  refine dv ⟨plainId_quiet PyProof.Rows.F.plain_set_update_loop _,cA (i+1) _ (by omega) i2 (W.frame _ aF _ _ i5 (Nat.le_succ _) fun b p1 o e=>?_) Bs fun oe ady GA=>?_⟩
  ·rw[m4.2 b fun z:b=S=>vJ (z ▸ p1)];exact e
  ·refine cY oe (Moved.trans W.gtrans ((kp.mono up).then_heap (Nat.le_succ _) fun b o aaJ e=>?_) ady) GA
   rw[m4.2 b fun z:b=S=>aaJ (by rw[z];exact hz)];exact e
end
section
variable {prog:cX} {w:cu} {A:da} {E:ao->aI->Prop} {s:aI}
noncomputable abbrev j5(led:Bool):bo:={cls := .type "set",dict:=aw,data := .set #[] 0 (.fresh 0 0 led)}
abbrev Cf(prog:cX)(w:cu)(s:aI)(val:Nat->af)(n:Nat)(r:ao)(m5:aI):Prop:=r = .none/\∃ h' cf,m5={s with heap:=h',toks:=cf}/\nD prog w h' s.heap.objs.size val n/\∀ b o,b<s.heap.objs.size->s.heap.get? b=J o->h'.get? b=J o
def wW(prog:cX)(w:cu)(A:da)(E:ao->aI->Prop)(s:aI)(x:ao)(val:Nat->af)(n:Nat)(led:Bool):Prop :=
 bE (model prog w) A.in1.in1 (c1.«set.__init__» ⟨[.ref s.heap.objs.size,x],[]⟩) (fun cF aF=>match cF with
   | Fin.done f=>wants (Cf prog w s val n) E (Except.ok f) aF
   | Fin.again ia=>ia.quiet=ag/\kA (model prog w) A.in1 ia (wants (Cf prog w s val n) E) aF)
  (fun e aF=>wants (Cf prog w s val n) E (Except.error e) aF) {s with heap:=s.heap.push (j5 led)}
set_option maxHeartbeats 3200000 in
theorem Ko{x:ao}{val:Nat->af}{n:Nat}{Q:ao->aI->Prop}
  (iJ:∀ led:Bool,wW prog w A E s x val n led)
  (h:∀ h' cf,nD prog w h' s.heap.objs.size val n->(∀ b o,b<s.heap.objs.size->s.heap.get? b=J o->h'.get? b=J o)->Q (.ref s.heap.objs.size) {s with heap:=h',toks:=cf}) :
  bE (model prog w) A (call (.type "set") [x]) Q E s:=by
 obtain⟨c,dr,ajy⟩:=F.called_set.mro
 have ajw:=F.called_set.made
 have abV:=F.called_set.sub
 refine pd (codeAny_of_tree ?_)
 show bE _ _ (callAny (.type "set") _) _ _ _
 refine dv ⟨Code.quiet_builtin _ (by decide +kernel),codeAny_builtin F.entry_type_call ?_⟩
 rw[da.under_plain (weight_type_call_type "set" [x] []) rfl]
 have aj:=F.called_set.notType
 have ar:=F.called_set.canCreate
 have aji:=F.typeCall_set_1 x
 repeat (any_goals (first | assumption | wp_step))
 refine lP (PySem.code_set_new_1 x (E:=E) (Q₁:=fun obj dx=>∃ led:Bool,obj = .ref s.heap.objs.size/\dx={s with heap:=s.heap.push (j5 led)}) fun led=>⟨led,I,I⟩) fun r dx az=>?_
 cases r with
 | error e=>exact az
 | ok dq =>
  cases dq with
  | ret obj =>
   obtain⟨led,rfl,rfl⟩:=az
   have b7:(s.heap.push (j5 led)).get? s.heap.objs.size=J (j5 led):=gU _ rfl
   have b9:aI.TypeIs {s with heap:=s.heap.push (j5 led)} (.ref s.heap.objs.size) "set":=⟨_,b7,rfl⟩
   have ajs:=F.called_set.init.lookup
   have ajf:=F.called_set.init.bind (.ref s.heap.objs.size)
   repeat (any_goals (first | assumption | wp_step))
   refine lP (y5 (R:=wants (Cf prog w s val n) E) F.called_set.init.plain F.entry_set_init (PySem.check_set_init_1 b9 ?_)) fun agq m5 Hi=>?_
   ·exact iJ led
   ·cases agq with
    | error e=>exact Hi
    | ok ZG =>
     cases ZG with
     | ret r =>
      obtain⟨rfl,h',cf,rfl,lz,hk'⟩:=Hi
      repeat (any_goals (first | assumption | wp_step))
      exact h _ _ lz hk'
     | _=>exact Hi.elim
  | _=>exact az.elim
set_option maxHeartbeats 3200000 in
theorem W2{l:ae}{items:Array ao}{val:Nat->af}(fp:A.handled=aw)(aC:s.heap.IsList l items)(bl:∀ (i:Nat) (v:ao),items[i]?=J v->∃ t,v = .str (val i) t)(aq:items.size+1<scanBound)(led:Bool):wW prog w A E s (.ref l) val items.size led:=by
 unfold wW
 obtain⟨ol,rj,p4,nl,lD⟩:=aC
 obtain⟨ajS,aeb,ajT,aed⟩:=ol
 simp only at p4 lD
 subst p4;subst lD
 have b7:(s.heap.push (j5 led)).get? s.heap.objs.size=J (j5 led):=gU _ rfl
 have abH:(s.heap.push (j5 led)).get? l=J {cls := .type "list",dict:=aeb,data := .seq items nl,slots:=aed}:=d7 _ rj
 have abT:=F.sub_list_set
 have abS:=F.sub_list_frozenset
 have n1:(ao.type "list" == ao.type "dict")=ah:=by decide
 have n0:(s.heap.push (j5 led)).IsList l items:=⟨_,abH,rfl,nl,rfl⟩
 unfold c1.«set.__init__» noKeywords c1.Frozenset.updateFrom
 generalize Gz:pyIter=iO
 wp_walk
 subst Gz
 refine wpAny_pyIter_list n0 ?_
 refine bC (wpAny_runValue ?_)
 have Nk:l<s.heap.objs.size:=dX rj
 have GZ:A.in1.in1.in1.handled=aw:=by simp[fp]
 have f7:(s.heap.push (j5 led)).objs.size=s.heap.objs.size+1:=aX.size_push ..
 have abx:l≠(s.heap.push (j5 led)).objs.size:=by rw[f7];exact fj (Nat.lt_succ_of_lt Nk)
 have vJ:s.heap.objs.size∉[(s.heap.push (j5 led)).objs.size,l]:=fun z=>by
  rw[f7] at z
  rcases dn.mp z with y | y
  ·exact absurd y (fj (Nat.lt_succ_self _))
  ·exact absurd (fy.mp y) (Nat.ne_of_gt Nk)
 refine Kz ((Walks.list GZ _ l abx items).toS) s.heap.objs.size vJ val bl aq items.size 0 _ (by omega) (UF _) ⟨⟨_,gU _ I,I,I⟩,n0.push _⟩ ?_ ?_
 ·exact PyProof.Rows.SetOf_congr ((PyProof.Rows.setObjOf_fresh (knd:=PySem.strKind prog w) led).setOf (d7 _ b7) (by unfold scanBound;omega)) (fun _=>I) I
 ·intro aF hm lz
  obtain⟨h',g',d',IB,yB⟩:=aF
  have l5:g'=s.gens:=hm.gens
  have xK:d'=s.drawn:=hm.drawn
  have vx:yB=s.os:=hm.os
  subst l5;subst xK;subst vx
  refine dv ?_
  refine dv (a:=Fin.done (Flow.ret ao.none)) ⟨I,h',IB,I,lz,fun b o p2 e=>?_⟩
  refine hm.heap b o (fun z=>?_) (d7 _ (d7 _ e))
  rcases dn.mp z with y | y
  ·exact absurd y (fj p2)
  ·rcases dn.mp y with y | y
   ·rw[f7] at y;exact absurd y (fj (Nat.lt_succ_of_lt p2))
   ·cases y
end
section
variable {prog:cX} {w:cu} {A:da} {E:ao->aI->Prop} {s:aI}
noncomputable def signsOf(x:af)(i:Nat):af:=⟨#[x.cps.getD i 0]⟩
set_option maxHeartbeats 3200000 in
theorem W0{x:af}{t:Tok}(fp:A.handled=aw)(aq:x.cps.size+1<scanBound)(led:Bool):wW prog w A E s (.str x t) (signsOf x) x.cps.size led:=by
 unfold wW
 have b7:(s.heap.push (j5 led)).get? s.heap.objs.size=J (j5 led):=gU _ rfl
 have abT:=F.sub_str_set
 have abS:=F.sub_str_frozenset
 have n1:(ao.type "str" == ao.type "dict")=ah:=by decide
 unfold c1.«set.__init__» noKeywords c1.Frozenset.updateFrom
 generalize Gz:pyIter=iO
 wp_walk
 subst Gz
 have f7:(s.heap.push (j5 led)).objs.size=s.heap.objs.size+1:=aX.size_push ..
 refine wpAny_pyIter_str (s:={s with heap:=s.heap.push (j5 led)}) fun o St W Cp=>?_
 refine bC (wpAny_runValue ?_)
 have GZ:A.in1.in1.in1.handled=aw:=by simp[fp]
 have vJ:s.heap.objs.size∉[(s.heap.push (j5 led)).objs.size]:=fun z=>by
  rw[f7] at z
  exact absurd (fy.mp z) (fj (Nat.lt_succ_self _))
 refine Kz ((W _ GZ).toS) s.heap.objs.size vJ (signsOf x) (fun i v bl=>?_) aq x.cps.size 0 _ (by omega) (UF _) Cp ?_ ?_
 ·obtain⟨c,u,hc,rfl⟩:=bl
  refine⟨u,?_⟩
  unfold signsOf
  rw[Array.getD_eq_getD_getElem?,hc];rfl
 ·exact PyProof.Rows.SetOf_congr ((PyProof.Rows.setObjOf_fresh (knd:=PySem.strKind prog w) led).setOf (d7 _ b7) (by unfold scanBound;omega)) (fun _=>I) I
 ·intro aF hm lz
  obtain⟨h',g',d',IB,yB⟩:=aF
  have l5:g'=s.gens:=hm.gens
  have xK:d'=s.drawn:=hm.drawn
  have vx:yB=s.os:=hm.os
  subst l5;subst xK;subst vx
  refine dv ?_
  refine dv (a:=Fin.done (Flow.ret ao.none)) ⟨I,h',IB,I,lz,fun b d0 p2 e=>?_⟩
  refine hm.heap b d0 (fun z=>?_) (d7 _ (d7 _ e))
  rcases dn.mp z with y | y
  ·exact absurd y (fj p2)
  ·have y:=fy.mp y
   rw[f7] at y;exact absurd y (fj (Nat.lt_succ_of_lt p2))
theorem Wl{S:ae}{val:Nat->af}{i:Nat}{Q:ao->aI->Prop}(b9:nD prog w s.heap S val i)(h:Q (.int ((f9 val i).length:Nat) (s.toks+1)) {s with toks:=s.toks+1+1}):bE (model prog w) A (call (.builtin "len") [.ref S]) Q E s:=by
 obtain⟨o,aV,fV,t,aJ,hex,hd,_,_,aq,aE,bc⟩:=b9
 refine call_len_set aJ hex hd aE (by unfold scanBound at aq;omega) ?_
 rw[bc];exact h
end
section
variable {X:bp} {aO p hv Cc:Pos} {e:b2} {cn:TE}
def Dt(K:bO)(H:au)(x:V)(val:Nat->af)(n:Nat):Prop:=(∃ a,x = .ref a/\dQ K H a ((List.range n).map fun i=>V.str (val i)))\/(∃ z,x = .str z/\n=z.cps.size/\val=signsOf z)
def agR(K:bO)(cn:TE):TE:=fun ab H Q=>cn ab H fun x H1=>∃ val n,Dt K H1 x val n/\n+1<scanBound/\Q (.int ((f9 val n).length:Nat)) H1
theorem KH(gW:X.calm=ag)(aa7:h5 X "len")(abr:X.mg "len"=aw)(aa9:h5 X "set")(abu:X.mg "set"=aw)(he:bW X e cn)
  (eR:df [.Call (.Name "set" hv) [e] [] Cc] X.env=[(ah,eval (.Call (.Name "set" hv) [e] [] Cc) X.env)]:=by rfl) (hF:df [e] X.env=[(ah,eval e X.env)]:=by rfl) :
  bW X (.Call (.Name "len" p) [.Call (.Name "set" hv) [e] [] Cc] [] aO) (agR X.K cn):=by
 intro ak s ab H Q aa h
 refine qt (oF aa aa7 abr d3 ?_ (by decide) (by decide))
 refine PyProof.Rows.callWith_builtin1 ?_ (eR.trans I) I
 rw[eR]
 show bE _ _ (spliced ((ah,eval (.Call (.Name "set" hv) [e] [] Cc) X.env)::[])) _ _ s
 refine Calls.spliced_cons (qt (oF aa aa9 abu (by decide +kernel:jJ "set"=J (.type "set")) ?_ (by decide) (by decide)))
 refine PyProof.Rows.callWith_type1 ?_ (hF.trans I) I
 rw[hF]
 show bE _ _ (spliced ((ah,eval e X.env)::[])) _ _ s
 refine Calls.spliced_cons (cz (he ak s ab H _ aa h) fun u s1 bD=>?_)
 obtain⟨x,H1,aS,cp,val,n,ay,aq,q⟩:=bD
 refine Calls.spliced_nil ?_
 have cF:∀ (h':aX) (cf:Nat),nD X.prog X.w h' s1.heap.objs.size val n->(∀ b o,b<s1.heap.objs.size->s1.heap.get? b=J o->h'.get? b=J o)->bE (model X.prog X.w) X.A (spliced []) (fun vs dx=>bE (model X.prog X.w) X.A (call (.builtin "len") (.ref s1.heap.objs.size::vs)) (h4 X ak ab Q) X.xe dx) X.xe {s1 with heap:=h',toks:=cf}:=fun h' cf b9 hk=>by
  refine Calls.spliced_nil (Wl (s:={s1 with heap:=h',toks:=cf}) b9 ?_)
  exact⟨.int _,H1,aS.kept (h':=h') (t':=cf+1+1) fun b o ho=>hk b o (dX ho) ho,⟨_,I⟩,q⟩
 rcases ay with⟨a,rfl,aU⟩ | ⟨z,rfl,rfl,rfl⟩
 ·obtain rfl:u=ao.ref a:=cp
  obtain⟨bq,dH,pl,bI⟩:=aS.list aU
  have cG:=dH.length
  rw[cM,lW] at cG
  have f7:bq.toArray.size=n:=by rw[fY];omega
  refine Ko (fun led=>?_) cF
  have aB:=W2 (prog:=X.prog) (w:=X.w) (E:=X.xe) (val:=val) (aS.ok.hd gW) pl.isList (fun i v bl=>?_) (by rw[f7];exact aq) led
  ·rw[f7] at aB;exact aB
  ·have tv:bq[i]?=J v:=by simpa using bl
   have BA:i<n:=by rw[cG];exact(kE.mp tv).1
   obtain⟨u,dN,gG⟩:=dH.get (i:=i) (x := .str (val i)) (by rw[fT,List.getElem?_range BA];rfl)
   rw[tv] at dN;cases dN
   exact gG
 ·obtain⟨t,rfl⟩:=cp
  exact Ko (fun led=>W0 (aS.ok.hd gW) aq led) cF
end
end dg
end
section
namespace dg
open PySem PySem.W PySem.Spec PyProof.Rows
theorem Xq{x:af}{g:gK}{fM:gL}{cn:TE}{Q:bx}{H:au}{D:ae}{fO:St}(keep:Nat->Bool)(f:Nat->V)(S:St->Prop)(bI:x.cps.size<=bT)(bu:S fO)(dB:H D=aw)
  (aW:∀ c,c∈x.cps.toList->∀ b8 H1,S b8->er H H1->∀ (R:St->V->au->Prop) (pD:St->au->Prop),(∀ bR,S bR->if keep c=ag then R bR (f c) H1 else pD bR H1)->g (.str ⟨#[c]⟩) b8 H1 fun bR ax=>fM bR ax fun b bt=>if b=ag then cn bR bt fun y g0=>R bR y g0 else pD bR bt)
  (aU:Q (.ref D) (upd H D (.lst ((x.cps.toList.filter keep).map f)))) :
  ot (uD x) g fM cn Q fO H D:=by
 have bc:x.cps.toList.length=x.cps.size:=hT
 refine⟨fun i m b8 ax=>i<=x.cps.size/\m=x.cps.size - i/\S b8/\ax=upd H D (.lst (((x.cps.toList.take i).filter keep).map f)),⟨x.cps.size,UF _,I,bu,I⟩,?_⟩
 rintro i m b8 ax ⟨aj,rfl,ar,rfl⟩
 rcases jx i x.cps.size with z | z
 ·refine .inr ⟨z,?_⟩
  rintro y bt ⟨rfl,c,hc,rfl⟩
  have oR:x.cps.toList[i]?=J c:=by rw[Array.getElem?_toList];exact hc
  refine aW c (jy oR) b8 _ ar (cL dB) (fun bR y e3=>∃ aY b1,e3 D=J (.lst aY)/\aY.length<bT/\b1<x.cps.size - i/\(i+1<=x.cps.size/\b1=x.cps.size - (i+1)/\S bR/\upd e3 D (.lst (aY++[y]))=upd H D (.lst (((x.cps.toList.take (i+1)).filter keep).map f))))
   (fun bR fg=>∃ b1,b1<x.cps.size - i/\(i+1<=x.cps.size/\b1=x.cps.size - (i+1)/\S bR/\fg=upd H D (.lst (((x.cps.toList.take (i+1)).filter keep).map f)))) fun bR fL=>?_
  have oJ:x.cps.toList.take (i+1)=x.cps.toList.take i++[c]:=by rw[nE,oR];rfl
  by_cases hk:keep c=ag
  ·rw[if_pos hk]
   refine⟨_,x.cps.size - (i+1),aM,?_,by omega,by omega,rfl,fL,?_⟩
   ·rw[cM]
    have:=List.length_filter_le keep (x.cps.toList.take i)
    rw[kg] at this;omega
   ·rw[h8,oJ,List.filter_append,fz,List.filter_cons_of_pos hk];rfl
  ·rw[if_neg hk]
   refine⟨x.cps.size - (i+1),by omega,by omega,rfl,fL,?_⟩
   rw[oJ,List.filter_append,fz,List.filter_cons_of_neg hk];simp
 ·have e:i=x.cps.size:=by omega
  subst e
  rw[UV (by omega)]
  exact .inl ⟨cx _,aU⟩
theorem Lr{x:af}{g:gK}{cn:TE}{Q:bx}{H:au}{D:ae}{fO:St}(f:Nat->V)(S:St->Prop)(bI:x.cps.size<=bT)(bu:S fO)(dB:H D=aw)
  (aW:∀ c,c∈x.cps.toList->∀ b8 H1,S b8->er H H1->∀ R:St->V->au->Prop,(∀ bR,S bR->R bR (f c) H1)->g (.str ⟨#[c]⟩) b8 H1 fun bR ax=>cn bR ax fun y g0=>R bR y g0)
  (aU:Q (.ref D) (upd H D (.lst (x.cps.toList.map f)))) :
  ot (uD x) g rN cn Q fO H D:=by
 refine Xq (fun _=>ag) f S bI bu dB (fun c hc b8 H1 b7 hs R pD cY=>?_) (by rw[List.filter_eq_self.mpr fun _ _=>rfl];exact aU)
 exact aW c hc b8 H1 b7 hs R fun bR ar=>by have:=cY bR ar;rwa [if_pos rfl] at this
structure Ext(H H':au):Prop where
 s:er H H'
 c:kb H->kb H'
theorem Ext.trans{A B C:au}(a:Ext A B)(b:Ext B C):Ext A C:=⟨a.s.trans b.s,fun z=>b.c (a.c z)⟩
theorem Ext.new{H:au}{p:ae}{o:cv}(h:H p=aw)(aJ:mB (upd H p o) p o):Ext H (upd H p o):=⟨cL h,fun c=>sj c h aJ⟩
theorem Ext.lst{H:au}{p:ae}{xs:List V}(h:H p=aw):Ext H (upd H p (.lst xs)) := .new h trivial
theorem Ext.tup{H:au}{p:ae}{xs:List V}(h:H p=aw):Ext H (upd H p (.tup xs)) := .new h trivial
theorem Ext.exc{H:au}{p C:ae}{d:Option ae}(h:H p=aw):Ext H (upd H p (k2 p C d)) := .new h trivial
theorem Ext.made{H:au}{x al C:ae}{fs:List (af×V)}(aj:H x=aw)(ar:H al=aw)(bB:al≠x):Ext H (upd (upd H al (.own x)) x (.ins C al fs)):=by
 have ay:upd H al (.own x) x=aw:=by rw[bJ (d2 bB)];exact aj
 refine⟨(cL ar).trans (cL ay),fun c=>sj (sj c ar trivial) ay ?_⟩
 show upd (upd H al (.own x)) x (.ins C al fs) al=J (.own x)
 rw[bJ bB];exact aM
theorem Ext.sub{H H':au}(e:Ext H H'):Sub H H' H' := .all (fun b o h=>⟨o,e.s b o h⟩) e.c
theorem vm(x y:af):(x++y).cps.toList=x.cps.toList++y.cps.toList:=Array.toList_append
theorem oz(x y:af):(x++y).length=x.length+y.length:=Array.size_append
structure lV(n:Nat)(S:List Nat)(x:af):Prop where
 n:x.length<=n
 s:∀ c,c∈x.cps.toList->c∈S
theorem lV.app{n m:Nat}{S:List Nat}{x y:af}(h:lV n S x)(h':lV m S y):lV (n+m) S (x++y):=⟨by rw[oz];have:=h.n;have:=h'.n;omega,fun c hc=>by
 rw[vm] at hc
 exact(List.mem_append.mp hc).elim (h.s c) (h'.s c)⟩
theorem lV.one{S:List Nat}{c:Nat}(h:c∈S):lV 1 S ⟨#[c]⟩:=⟨cx _,fun d hd=>by rw[fy.mp hd];exact h⟩
theorem lV.slice{n:Nat}{S:List Nat}{x:af}(h:lV n S x)(lo aB:Option Int):lV n S (Txt.slice x lo aB):=by
 have e:=gf.u5 x lo aB
 refine⟨?_,fun c hc=>h.s c ?_⟩
 ·have aL:=congrArg List.length e
  rw[kg,nF] at aL
  have dE:(Txt.slice x lo aB).cps.toList.length=(Txt.slice x lo aB).length:=hT
  have eJ:x.cps.toList.length=x.length:=hT
  have:=h.n
  omega
 ·rw[e] at hc
  exact List.mem_of_mem_drop (List.mem_of_mem_take hc)
theorem J6(x:af)(k:Nat)(h:k<=x.length):(Txt.slice x aw (J (k:Int))).length=k:=by
 have aL:=congrArg List.length (gf.u5 x aw (J (k:Int)))
 rw[eN.yJ,eN.yK,List.drop_zero,kg] at aL
 have dE:(Txt.slice x aw (J (k:Int))).cps.toList.length=(Txt.slice x aw (J (k:Int))).length:=hT
 have eJ:x.cps.toList.length=x.length:=hT
 omega
theorem JX(x:af)(k:Nat)(h:k<=x.length):(Txt.slice x (J (k:Int)) aw).length=x.length - k:=by
 have aL:=congrArg List.length (gf.u5 x (J (k:Int)) aw)
 rw[eN.yJ,eN.yK,kg,nF] at aL
 have dE:(Txt.slice x (J (k:Int)) aw).cps.toList.length=(Txt.slice x (J (k:Int)) aw).length:=hT
 have eJ:x.cps.toList.length=x.length:=hT
 omega
theorem Sv{x:af}{k:Nat}(h:k<x.length):∃ c,c∈x.cps.toList/\eH x.cps.toList ((k:Nat):Int)=J c:=by
 have h':k<x.cps.toList.length:=by rw[hT];exact h
 exact⟨x.cps.toList[k],List.getElem_mem h',dt (dm h')⟩
noncomputable def A8(ns:List af):Nat:=(f9 (fun i=>ns.getD i af.empty) ns.length).length
noncomputable def A9(s:af):Nat:=(f9 (signsOf s) s.cps.size).length
theorem S3(ns:List af):A8 ns<=ns.length:=xp ..
theorem S2(s:af):A9 s<=s.length:=xp ..
theorem Kj(ns:List af):((List.range ns.length).map fun i=>V.str (ns.getD i af.empty))=ns.map V.str:=by
 apply List.ext_getElem
 ·rw[cM,lW,cM]
 ·intro i aj ar
  rw[cM] at ar
  rw[jR,jR,List.getElem_range,e9,dm ar];rfl
theorem Vt{K:bO}{H:au}{a:ae}{ns:List af}(h:dQ K H a (ns.map V.str)):Dt K H (.ref a) (fun i=>ns.getD i af.empty) ns.length := .inl ⟨a,rfl,by rw[Kj];exact h⟩
theorem V1{K:bO}{H:au}(s:af):Dt K H (.str s) (signsOf s) s.cps.size := .inr ⟨s,rfl,rfl,rfl⟩
noncomputable def jM:af:="abcdefghijklmnopqrstuvwxyz"
noncomputable def pC:af:="abcdefghijklmnopqrstuvwxyzABCDEFGHIJKLMNOPQRSTUVWXYZ0123456789"
noncomputable def mW(t s:af):Bool:=t.cps.toList.all fun c=>decide (c∈s.cps.toList)
theorem Sx:pC.length=62:=by decide +kernel
theorem Fp:jM.length=26:=by decide +kernel
noncomputable def ko(s:af):Bool:=decide (s.length≠0/\s.length<=60/\A9 s=s.length)&&mW s pC
noncomputable def isName(n:af):Bool:=decide (0<n.length/\n.length<=12)&&mW n jM
noncomputable def jZ(ns:List af):Bool:=decide (ns.length≠0/\ns.length<=20/\A8 ns=ns.length)&&ns.all isName
theorem RG(s:af):s=af.ofString ""↔s.length=0:=by
 have e:af.ofString ""=⟨#[]⟩:=by decide +kernel
 rw[e]
 constructor
 ·rintro rfl;rfl
 ·intro h
  obtain⟨c⟩:=s
  have:c=#[]:=Array.eq_empty_of_size_eq_zero h
  rw[this]
theorem Az{H:au}{a b:ae}{x y:cv}(h:a≠b):upd (upd H a x) b y=upd (upd H b y) a x:=by
 funext c
 by_cases aj:c=b
 ·subst aj
  rw[aM,bJ (d2 h),aM]
 ·rw[bJ aj]
  by_cases ar:c=a
  ·subst ar
   rw[aM,aM]
  ·rw[bJ ar,bJ ar,bJ aj]
theorem Aq{H:au}{D:ae}{l NK:List V}(h:H D=J (.lst l))(c:kb H):kb (upd H D (.lst NK)):=fun b u e=>by
 by_cases z:b=D
 ·subst z;rw[aM] at e;cases e;trivial
 ·rw[bJ z] at e
  have tN:=c b u e
  clear e
  induction u with
  | ins C al fs =>
   have kW:H al=J (.own b):=tN
   show upd H D (.lst NK) al=J (.own b)
   rw[bJ fun z=>by rw[z,h] at kW;cases kW]
   exact kW
  | iG dC u cA=>exact cA tN
  | _=>trivial
theorem ES(val:Nat->af):∀ n k,k∈f9 val n->∃ i,i<n/\k=val i
 | 0,k,h=>by cases h
 | n+1,k,h=>by
  unfold f9 at h
  by_cases z:val n∈f9 val n
  ·rw[if_pos z] at h
   obtain⟨i,aB,e⟩:=ES val n k h
   exact⟨i,by omega,e⟩
  ·rw[if_neg z] at h
   rcases List.mem_append.mp h with y | y
   ·obtain⟨i,aB,e⟩:=ES val n k y
    exact⟨i,by omega,e⟩
   ·exact⟨n,Nat.lt_succ_self _,fy.mp y⟩
theorem ET(val:Nat->af):∀ n,(∀ i j,i<n->j<n->val i=val j->i=j)->(f9 val n).length=n
 | 0,_=>rfl
 | n+1,h=>by
  unfold f9
  have z:val n∉f9 val n:=fun z=>by
   obtain⟨i,aB,e⟩:=ES val n _ z
   have:=h n i (Nat.lt_succ_self _) (by omega) e
   omega
  rw[if_neg z,dI,ET val n fun i j aB cy e=>h i j (by omega) (by omega) e]
  rfl
theorem Xe{s:af}(h:s.cps.toList.Nodup):A9 s=s.length:=by
 refine ET _ _ fun i j aB cy e=>?_
 unfold signsOf at e
 injection e with e
 have e:=congrArg (fun a=>a[0]?) e
 simp only[List.getElem?_toArray,List.getElem?_cons_zero,Option.some.injEq] at e
 have tm:i<s.cps.toList.length:=by rw[hT];exact aB
 have abb:j<s.cps.toList.length:=by rw[hT];exact cy
 have g:∀ k (hk:k<s.cps.toList.length),s.cps.getD k 0=s.cps.toList[k]:=fun k hk=>by
  rw[Array.getD_eq_getD_getElem?,<- Array.getElem?_toList,dm hk];rfl
 rw[g i tm,g j abb] at e
 exact(List.getElem_inj h).mp e
theorem Xf{ns:List af}(h:ns.Nodup):A8 ns=ns.length:=by
 refine ET _ _ fun i j aB cy e=>?_
 have g:∀ k (hk:k<ns.length),ns.getD k af.empty=ns[k]:=fun k hk=>by
  rw[e9,dm hk];rfl
 rw[g i aB,g j cy] at e
 exact(List.getElem_inj h).mp e
theorem Xx:pC.cps.toList.Nodup:=by decide +kernel
theorem Xy:jM.cps.toList.Nodup:=by decide +kernel
theorem Wo{f r:af}(h:(f.cps.toList++r.cps.toList).Perm pC.cps.toList)(bu:f.length≠0)(aj:f.length<=60):ko f=ag:=by
 have br:(f.cps.toList++r.cps.toList).Nodup:=h.nodup_iff.mpr Xx
 have kq:f.cps.toList.Nodup:=(List.nodup_append.mp br).1
 unfold ko
 rw[ek ⟨bu,aj,Xe kq⟩,Bool.true_and]
 unfold mW
 rw[iD]
 exact fun c hc=>ek (h.mem_iff.mp (List.mem_append_left _ hc))
theorem WN{f r a b:List Nat}{x:Nat}(e:r=a++x::b):((f++[x])++(a++b)).Perm (f++r):=by
 subst e
 rw[fA]
 exact List.Perm.append_left f (List.perm_middle (a:=x) (l₁:=a) (l₂:=b)).symm
theorem WH{x:af}{k:Nat}(h:k<x.length):∃ c,eH x.cps.toList ((k:Nat):Int)=J c/\x.cps.toList=(Txt.slice x aw (J (k:Int))).cps.toList++c::(Txt.slice x (J ((k+1:Nat):Int)) aw).cps.toList:=by
 have eJ:x.cps.toList.length=x.length:=hT
 have h':k<x.cps.toList.length:=by omega
 refine⟨x.cps.toList[k],dt (dm h'),?_⟩
 rw[gf.u5,gf.u5,eN.yJ,eN.yK,eN.yK,eN.yJ,List.drop_zero,Nat.sub_zero,Nat.min_eq_left (by omega),Nat.min_eq_left (by omega),UV (l:=List.drop (k+1) _) (by rw[nF];omega)]
 rw[<- zP h',List.take_append_drop]
theorem R4{s:af}{a:Int}{c d:Nat}(e:(Txt.slice s aw (J a)++⟨#[c]⟩)++Txt.slice s (J a) aw=(Txt.slice s aw (J a)++⟨#[d]⟩)++Txt.slice s (J a) aw):c=d:=by
 have e:=congrArg (fun x=>x.cps.toList) e
 simp only[vm] at e
 have e:=List.append_cancel_right e
 have e:=List.append_cancel_left e
 have:[c]=[d]:=e
 exact List.head_eq_of_cons_eq this
theorem XD{f x:Int}{i j:Nat}(ay:x∈([1,3,5,7,9,11]:List Int))(aB:i<26)(cy:j<26)(e:(f+(0+((i:Nat):Int))*x)%26=(f+(0+((j:Nat):Int))*x)%26):i=j:=by
 have acf:x=1\/x=3\/x=5\/x=7\/x=9\/x=11:=by simpa using ay
 rcases acf with rfl | rfl | rfl | rfl | rfl | rfl<;>omega
theorem WY{n:af}(h:lV 12 jM.cps.toList n)(bu:0<n.length):isName n=ag:=by
 unfold isName
 rw[ek ⟨bu,h.n⟩,Bool.true_and]
 unfold mW
 rw[iD]
 exact fun c hc=>ek (h.s c hc)
theorem Vn{ns:List af}(bu:ns.length≠0)(aj:ns.length<=20)(bc:ns.Nodup)(hs:∀ n,n∈ns->isName n=ag):jZ ns=ag:=by
 unfold jZ
 rw[ek ⟨bu,aj,Xf bc⟩,Bool.true_and,iD]
 exact hs
theorem Wm{n:af}(h:isName n=ag):n.length<=12:=by
 unfold isName at h
 simp only[h7,jQ] at h
 exact h.1.2
theorem nI{ns:List af}(h:jZ ns=ag):ns.length<=20/\∀ n,n∈ns->n.length<=12:=by
 unfold jZ at h
 simp only[h7,jQ,iD] at h
 exact⟨h.1.2.1,fun n bc=>Wm (h.2 n bc)⟩
structure d1(p:ae)(H H':au):Prop where
 k:∀ b u,b≠p->H b=J u->H' b=J u
 l:∃ ns:List Int,H' p=J (.lst (ns.map V.int))/\ns.length<=90
 c:kb H->kb H'
def ny(p:ae)(H:au):Prop:=∃ ns:List Int,H p=J (.lst (ns.map V.int))/\ns.length<=90
theorem d1.refl{p:ae}{H:au}(h:ny p H):d1 p H H:=⟨fun _ _ _ e=>e,h,id⟩
theorem d1.trans{p:ae}{A B C:au}(a:d1 p A B)(b:d1 p B C):d1 p A C:=⟨fun x u n e=>b.k x u n (a.k x u n e),b.l,fun c=>b.c (a.c c)⟩
theorem d1.ext{p:ae}{A B C:au}(a:d1 p A B)(b:Ext B C):d1 p A C:=by
 obtain⟨ns,h,bc⟩:=a.l
 exact⟨fun x u n e=>b.s x u (a.k x u n e),⟨ns,b.s _ _ h,bc⟩,fun c=>b.c (a.c c)⟩
theorem d1.pop{p:ae}{H:au}{ns:List Int}(h:ny p H)(bc:ns.length<=90):d1 p H (upd H p (.lst (ns.map V.int))):=by
 obtain⟨ms,e,_⟩:=h
 exact⟨fun b u nb q=>by rw[bJ nb];exact q,⟨ns,aM,bc⟩,fun c=>Aq e c⟩
theorem d1.sub{p:ae}{H H':au}(h:d1 p H H'):Sub H H' H' := .all (fun b o e=>by
 by_cases z:b=p
 ·subst z
  obtain⟨ns,e,_⟩:=h.l
  exact⟨_,e⟩
 ·exact⟨o,h.k b o z e⟩) h.c
theorem d1.free{p b:ae}{H H':au}(h:d1 p H H')(e:H' b=aw):H b=aw:=by
 cases z:H b with
 | none=>rfl
 | some u =>
  by_cases y:b=p
  ·subst y
   obtain⟨ns,q,_⟩:=h.l
   rw[e] at q;cases q
  ·rw[h.k b u y z] at e;cases e
theorem bK.none{P:cX}{w:cu}{K:bO}{mg:af->Option ao}{base:aX}{x:af}{st:bj}{f:ae}{fd:fu}{ps:List af}{k:Nat}{sp:b5}(F:dF K mg x st ps f fd)(h:∀ vs H Q E,¬sp vs H Q E):bK P w K mg base k x ps sp :=
 ⟨f,fd,⟨fun vs H Q E q=>absurd q (h _ _ _ _),fun A outer s H args us vs Q E _ _ _ _ q=>absurd q (h _ _ _ _)⟩,F.2.1,F.1.ij,F.2.2⟩
theorem d1.set{p l:ae}{H H':au}{xs aY:List V}(g:d1 p H H')(bu:H l=aw)(h:H' l=J (.lst xs))(aC:l≠p):d1 p H (upd H' l (.lst aY)):=by
 obtain⟨ns,e,bc⟩:=g.l
 exact⟨fun b u nb q=>by rw[bJ (eO q bu)];exact g.k b u nb q,⟨ns,by rw[bJ (d2 aC)];exact e,bc⟩,fun c=>Aq h (g.c c)⟩
theorem d1.ne{p l:ae}{H H':au}(g:d1 p H H')(h:H' l=aw):l≠p:=fun z=>by
 obtain⟨ns,e,_⟩:=g.l
 rw[z,e] at h;cases h
section
variable {X:bp}
noncomputable def agg:V->List V->au->bx->Prop:=fun x vs H Q=>∃ (l:ae) (ws:List af) (w:af) (k:Nat),x = .ref l/\vs=[.str w]/\H l=J (.lst (ws.map V.str))/\ws[k]?=J w/\(∀ j,j<k->ws[j]?≠J w)/\ws.length<100000/\Q (.int ((k:Nat):Int)) H
theorem KJ:su X "list.index" agg:=by
 intro ak s ab H x vs v us Q aa bf dH h
 obtain⟨l,ws,w,k,rfl,rfl,hp,hk,Hb,bI,q⟩:=h
 cases bf
 obtain⟨o7,rfl,⟨t,rfl⟩⟩:=vals1 dH
 obtain⟨z,bq,n,lH,aC,e⟩:=aa.rr hp
 have cG:=lH.length
 rw[cM] at cG
 have ajp:k<ws.length:=(kE.mp hk).1
 have iY:∀ (j:Nat) (cy:j<bq.length),∃ t',bq[j] = .str (ws[j]'(by omega)) t':=fun j cy=>by
  obtain⟨u,dN,gG⟩:=lH.get (i:=j) (x := .str (ws[j]'(by omega))) (by rw[fT,dm (by omega)];rfl)
  rw[dm cy] at dN
  obtain⟨t',abY⟩:=(show ∃ t,u=ao.str _ t from gG)
  exact⟨t',by rw[<- abY];exact gN dN⟩
 let mJ:ao->Bool:=fun y=>match y with | .str a _=>decide (a=w) | _=>ah
 have he:∀ y,y∈bq.toArray->MeetsSeq.EqGives y (.str w t) (mJ y):=fun y bM=>by
  obtain⟨j,cy,rfl⟩:=List.mem_iff_getElem.mp (List.mem_toArray.mp bM)
  obtain⟨t',e'⟩:=iY j cy
  rw[e']
  exact Sj _ _ _ _
 have rg:mJ (bq.toArray[k]'(by rw[fY];omega))=ag:=by
  obtain⟨t',e'⟩:=iY k (by omega)
  rw[List.getElem_toArray,e']
  have:=(kE.mp hk).2
  show decide (_=_)=ag
  rw[this];exact ek I
 have abz:∀ m (hm:m<bq.toArray.size),m<k->mJ bq.toArray[m]=ah:=fun m hm abq=>by
  rw[fY] at hm
  obtain⟨t',e'⟩:=iY m hm
  rw[List.getElem_toArray,e']
  show decide (_=_)=ah
  refine gM fun z=>Hb m abq ?_
  rw[dm (by omega),z]
 refine call_meets F.slot_list_index ⟨_,e,I⟩ F.entry_list_index (F.args_list_index_2 _ _) (MeetsSeq.list_index l bq.toArray n (.str w t) mJ he k (by rw[fY];omega) (by omega) rg abz) ⟨e,?_⟩
 exact⟨.int _,H,aa.tok _,⟨_,I⟩,q⟩
end
inductive bN where
 | bare (k:Fin 4)
 | sp (a b:Int)
 | le (s:af)
 | one (k:Fin 3) (f:bN)
 | two (k:Fin 2) (ns:List af) (fs:List bN)
noncomputable def lk(s:String):List Nat:=(af.ofString s).cps.toList
noncomputable def num(a:Int):List Nat:=(af.ofString (toString a)).cps.toList
noncomputable def YD(k:Fin 4):af:=[af.ofString "nothing",af.ofString "truth",af.ofString "whole",af.ofString "fraction"][k]
noncomputable def tN(k:Fin 3):af:=[af.ofString "maybe",af.ofString "many",af.ofString "turned"][k]
noncomputable def Cy(k:Fin 2):af:=[af.ofString "record",af.ofString "choice"][k]
mutual
noncomputable def lI:bN->List Nat
 | .bare k=>(YD k).cps.toList
 | .sp a b=>lk "span"++(lk "("++((num a++(lk ", "++num b))++lk ")"))
 | .le s=>lk "letters"++(lk "("++(s.cps.toList++lk ")"))
 | .one k f=>(tN k).cps.toList++(lk "("++(lI f++lk ")"))
 | .two k ns fs=>(Cy k).cps.toList++(lk "("++(H4 fs ns++lk ")"))
noncomputable def H4:List bN->List af->List Nat
 | [],_=>[]
 | f::fs,ns=>(ns.headD af.empty).cps.toList++(lk " "++(lI f++(match fs with | []=>[] | _::_=>lk ", "++H4 fs ns.tail)))
end
mutual
noncomputable def aW:bN->Nat
 | .bare _=>1
 | .sp _ _=>1
 | .le _=>1
 | .one _ f=>aW f+1
 | .two _ _ fs=>gA fs+1
noncomputable def gA:List bN->Nat
 | []=>0
 | f::fs=>max (aW f) (gA fs)
end
mutual
noncomputable def gj:bN->Prop
 | .bare _=>True
 | .sp a b=>a<=b/\a.natAbs<10 ^ 58/\b.natAbs<10 ^ 58
 | .le s=>ko s=ag/\s.length<=60
 | .one _ f=>gj f
 | .two _ ns fs=>jZ ns=ag/\ns.length=fs.length/\gX fs
noncomputable def gX:List bN->Prop
 | []=>True
 | f::fs=>gj f/\gX fs
end
structure eu where
 b:Fin 4->ae
 s:ae
 l:ae
 o:Fin 3->ae
 t:Fin 2->ae
mutual
noncomputable def b4(c:eu)(X:List ae)(H:au):bN->ae->Prop
 | .bare k,o=>o∉X/\∃ al,H o=J (.ins (c.b k) al [])
 | .sp a b,o=>o∉X/\∃ al,H o=J (.ins c.s al [("low",.int a),("high",.int b)])
 | .le s,o=>o∉X/\∃ al,H o=J (.ins c.l al [("signs",.str s)])
 | .one k f,o=>o∉X/\∃ al i,H o=J (.ins (c.o k) al [("inner",.ref i)])/\b4 c X H f i
 | .two k ns fs,o=>o∉X/\∃ al ei et os,H o=J (.ins (c.t k) al [("names",.ref ei),("forms",.ref et)])/\ei∉X/\et∉X/\H ei=J (.lst (ns.map V.str))/\H et=J (.lst (os.map V.ref))/\ew c X H fs os
noncomputable def ew(c:eu)(X:List ae)(H:au):List bN->List ae->Prop
 | [],os=>os=[]
 | f::fs,os=>∃ o r,os=o::r/\b4 c X H f o/\ew c X H fs r
end
def iN(P:cX)(w:cu)(K:bO)(mg:af->Option ao)(base:aX)(k:Nat)(m:af)(ps:List af){oj:Type}(cl:oj->ae)(sp:oj->b5):Prop:=∀ i,lS P w K mg base k (cl i) m ps (sp i)/\fe K (cl i)
section
variable {X:bp} {k eD:Nat} {m:af} {ps:List af} {oj:Type} {cl:oj->ae} {sp:oj->b5} {e o:b2} {aV:List b2} {t:gw} {bS:TE} {aO apos:Pos}
theorem kG{pl:Sem Bool}(h:iN X.prog X.w X.K X.mg X.base k m ps cl sp)(az:e4 eD X.A)(he:bW X o bS)(ba:hx X (e::aV) t)(hk:k<=eD:=by decide)
  (j1:df (e::aV) X.env=(ah,eval e X.env)::df aV X.env:=by rfl) (f6:(backTo aO (df aV X.env)).any (·.1)=ah:=by rfl)
  (aW:eval (.Call (.Attribute o m apos) (e::aV) [] aO) X.env=(do
   let ov <- eval o X.env
   standAt apos.atName
   let (f,first) <- holding [ov] (getMethod ov m pl)
   callWith aO f first (backTo aO (df (e::aV) X.env)) (backToKw aO (qs [] X.env))):=by rfl) :
  bW X (.Call (.Attribute o m apos) (e::aV) [] aO) (fun ab H Q=>bS ab H fun x H1=>∃ a i al fs,x = .ref a/\H1 a=J (.ins (cl i) al fs)/\fs.lookup m=aw/\t ab H1 fun vs ax=>sp i (x::vs) ax Q il):=by
 intro ak s ab H Q aa aU
 refine y4 (pl:=pl) (cz (he ak s ab H _ aa aU) fun u s1 bD=>?_) aW
 obtain⟨x,H1,aS,bf,a,i,al,fs,ex,c7,l,q⟩:=bD
 subst ex
 obtain rfl:u=ao.ref a:=bf
 obtain⟨⟨f,fd,F,aq,hm⟩,c⟩:=h i
 refine xf aS c7 c hm l ?_
 refine wG (first:=[.ref a]) (h₀:=X.base) aa.ok.mod.qi hm.ij (cz (ba aO ak s1 ab H1 _ aS q) fun us s2 bD=>?_) j1 f6
 obtain⟨vs,ax,bA,r,cE⟩:=bD
 refine ⟨bA.es,?_⟩
 exact AP (us := .ref a::us) (vs := .ref a::vs) (dvs:=[]) (ds:=[]) F (az.mono hk) aq .nil yD bA (.cons I r) (by rw[List.append_nil];exact cE)
end
structure b3(ib:ae)(H H':au):Prop where
 k:∀ b u,b≠ib->H b=J u->H' b=J u
 c:kb H->kb H'
theorem b3.refl(ib:ae)(H:au):b3 ib H H:=⟨fun _ _ _ e=>e,id⟩
theorem b3.trans{ib:ae}{A B C:au}(a:b3 ib A B)(b:b3 ib B C):b3 ib A C:=⟨fun x u n e=>b.k x u n (a.k x u n e),fun c=>b.c (a.c c)⟩
theorem b3.ext{ib:ae}{A B C:au}(a:b3 ib A B)(b:Ext B C):b3 ib A C:=⟨fun x u n e=>b.s x u (a.k x u n e),fun c=>b.c (a.c c)⟩
theorem b3.move{ib C al:ae}{H:au}{fs tc:List (af×V)}(h:H ib=J (.ins C al fs)):b3 ib H (upd H ib (.ins C al tc)) :=
 ⟨fun b u nb e=>by rw[bJ nb];exact e,(Sub.ins (H':=upd H ib (.ins C al tc)) h (fun b u nb e=>by rw[bJ nb];exact e) aM).cl⟩
theorem b3.sub{ib:ae}{H H':au}{o:cv}(h:b3 ib H H')(e:H' ib=J o):Sub H H' H' := .all (fun b u q=>by
 by_cases z:b=ib
 ·subst z;exact⟨_,e⟩
 ·exact⟨u,h.k b u z q⟩) h.c
theorem b3.free{ib b:ae}{H H':au}{o:cv}(h:b3 ib H H')(e:H' ib=J o)(q:H' b=aw):H b=aw:=by
 cases z:H b with
 | none=>rfl
 | some u =>
  by_cases y:b=ib
  ·subst y;rw[e] at q;cases q
  ·rw[h.k b u y z] at q;cases q
mutual
theorem b4.keep{c:eu}{X:List ae}{H H':au}(k:∀ b u,b∉X->H b=J u->H' b=J u):∀ (f:bN) {o:ae},b4 c X H f o->b4 c X H' f o
 | .bare i,o,h=>by
  obtain⟨n,al,e⟩:=h
  exact⟨n,al,k _ _ n e⟩
 | .sp a b,o,h=>by
  obtain⟨n,al,e⟩:=h
  exact⟨n,al,k _ _ n e⟩
 | .le s,o,h=>by
  obtain⟨n,al,e⟩:=h
  exact⟨n,al,k _ _ n e⟩
 | .one i f,o,h=>by
  obtain⟨n,al,j,e,q⟩:=h
  exact⟨n,al,j,k _ _ n e,b4.keep k f q⟩
 | .two i ns fs,o,h=>by
  obtain⟨n,al,ei,et,os,e,eT,dO,aG,aL,q⟩:=h
  exact⟨n,al,ei,et,os,k _ _ n e,eT,dO,k _ _ eT aG,k _ _ dO aL,ew.keep k fs q⟩
theorem ew.keep{c:eu}{X:List ae}{H H':au}(k:∀ b u,b∉X->H b=J u->H' b=J u):∀ (fs:List bN) {os:List ae},ew c X H fs os->ew c X H' fs os
 | [],os,h=>h
 | f::fs,os,h=>by
  obtain⟨o,r,e,q,cE⟩:=h
  exact⟨o,r,e,b4.keep k f q,ew.keep k fs cE⟩
end
mutual
theorem b4.weak{c:eu}{X Y:List ae}{H:au}(hs:∀ x,x∈X->x∈Y):∀ (f:bN) {o:ae},b4 c Y H f o->b4 c X H f o
 | .bare i,o,h=>⟨fun z=>h.1 (hs _ z),h.2⟩
 | .sp a b,o,h=>⟨fun z=>h.1 (hs _ z),h.2⟩
 | .le s,o,h=>⟨fun z=>h.1 (hs _ z),h.2⟩
 | .one i f,o,h=>by
  obtain⟨n,al,j,e,q⟩:=h
  exact⟨fun z=>n (hs _ z),al,j,e,b4.weak hs f q⟩
 | .two i ns fs,o,h=>by
  obtain⟨n,al,ei,et,os,e,eT,dO,aG,aL,q⟩:=h
  exact⟨fun z=>n (hs _ z),al,ei,et,os,e,fun z=>eT (hs _ z),fun z=>dO (hs _ z),aG,aL,ew.weak hs fs q⟩
theorem ew.weak{c:eu}{X Y:List ae}{H:au}(hs:∀ x,x∈X->x∈Y):∀ (fs:List bN) {os:List ae},ew c Y H fs os->ew c X H fs os
 | [],os,h=>h
 | f::fs,os,h=>by
  obtain⟨o,r,e,q,cE⟩:=h
  exact⟨o,r,e,b4.weak hs f q,ew.weak hs fs cE⟩
end
theorem ew.len{c:eu}{X:List ae}{H:au}:∀ (fs:List bN) {os:List ae},ew c X H fs os->os.length=fs.length
 | [],os,h=>by
  obtain rfl:os=[]:=h
  rfl
 | g::fs,os,h=>by
  obtain⟨d0,r,rfl,q,cE⟩:=h
  rw[ed,ew.len fs cE];rfl
noncomputable def bd:bN->List Nat
 | .bare _=>[]
 | .sp a b=>num a++(lk ", "++num b)
 | .le s=>s.cps.toList
 | .one _ f=>lI f
 | .two _ ns fs=>H4 fs ns
theorem xy:∀ f:bN,1<=aW f
 | .bare _=>by rw[aW];exact cx _
 | .sp _ _=>by rw[aW];exact cx _
 | .le _=>by rw[aW];exact cx _
 | .one _ f=>by rw[aW];omega
 | .two _ _ fs=>by rw[aW];omega
mutual
theorem b4.add{c:eu}{X:List ae}{H:au}{l:ae}(aC:H l=aw):∀ (f:bN) {o:ae},b4 c X H f o->b4 c (l::X) H f o
 | .bare i,o,h=>by
  obtain⟨n,al,e⟩:=h
  exact⟨fun z=>(dn.mp z).elim (fun y=>by rw[y,aC] at e;cases e) n,al,e⟩
 | .sp a b,o,h=>by
  obtain⟨n,al,e⟩:=h
  exact⟨fun z=>(dn.mp z).elim (fun y=>by rw[y,aC] at e;cases e) n,al,e⟩
 | .le s,o,h=>by
  obtain⟨n,al,e⟩:=h
  exact⟨fun z=>(dn.mp z).elim (fun y=>by rw[y,aC] at e;cases e) n,al,e⟩
 | .one i f,o,h=>by
  obtain⟨n,al,j,e,q⟩:=h
  exact⟨fun z=>(dn.mp z).elim (fun y=>by rw[y,aC] at e;cases e) n,al,j,e,b4.add aC f q⟩
 | .two i ns fs,o,h=>by
  obtain⟨n,al,ei,et,os,e,eT,dO,aG,aL,q⟩:=h
  exact⟨fun z=>(dn.mp z).elim (fun y=>by rw[y,aC] at e;cases e) n,al,ei,et,os,e,fun z=>(dn.mp z).elim (fun y=>by rw[y,aC] at aG;cases aG) eT,fun z=>(dn.mp z).elim (fun y=>by rw[y,aC] at aL;cases aL) dO,aG,aL,ew.add aC fs q⟩
theorem ew.add{c:eu}{X:List ae}{H:au}{l:ae}(aC:H l=aw):∀ (fs:List bN) {os:List ae},ew c X H fs os->ew c (l::X) H fs os
 | [],os,h=>h
 | f::fs,os,h=>by
  obtain⟨o,r,e,q,cE⟩:=h
  exact⟨o,r,e,b4.add aC f q,ew.add aC fs cE⟩
end
inductive eW where
 | b (k:Fin 4) | s | l | o (k:Fin 3) | t (k:Fin 2)
noncomputable def fE(c:eu):eW->ae
 | .b k=>c.b k
 | .s=>c.s
 | .l=>c.l
 | .o k=>c.o k
 | .t k=>c.t k
noncomputable def slot:bN->eW
 | .bare k => .b k
 | .sp _ _ => .s
 | .le _ => .l
 | .one k _ => .o k
 | .two k _ _ => .t k
theorem b4.ins{c:eu}{X:List ae}{H:au}{m:af}(aj:(m == ("low":af))=ah)(ar:(m == ("high":af))=ah)(bB:(m == ("signs":af))=ah)(b0:(m == ("inner":af))=ah)(eB:(m == ("names":af))=ah)(kN:(m == ("forms":af))=ah) :
  ∀ (f:bN) {o:ae},b4 c X H f o->∃ al fs,H o=J (.ins (fE c (slot f)) al fs)/\fs.lookup m=aw
 | .bare i,o,h=>by
  obtain⟨n,al,e⟩:=h
  exact⟨al,_,e,I⟩
 | .sp a b,o,h=>by
  obtain⟨n,al,e⟩:=h
  exact⟨al,_,e,by simp[List.lookup,aj,ar]⟩
 | .le s,o,h=>by
  obtain⟨n,al,e⟩:=h
  exact⟨al,_,e,by simp[List.lookup,bB]⟩
 | .one i f,o,h=>by
  obtain⟨n,al,j,e,q⟩:=h
  exact⟨al,_,e,by simp[List.lookup,b0]⟩
 | .two i ns fs,o,h=>by
  obtain⟨n,al,ei,et,os,e,_⟩:=h
  exact⟨al,_,e,by simp[List.lookup,eB,kN]⟩
def agM(t u:eK):eK:=fun D ab H=>∃ dD:St->au->Prop,t {D with nx:=dD} ab H/\∀ bQ H',dD bQ H'->u D bQ H'
theorem AI{X:bp}{st:bj}{rest:List bj}{t u:eK}(aj:jv X st t)(ar:hj X rest u):hj X (st::rest) (agM t u):=by
 intro ak s ab H D aa h
 obtain⟨dD,h,aar⟩:=h
 refine wpAny_execs_cons (cz (aj ak s ab H {D with nx:=dD} aa h) fun f s1 q=>?_)
 cases f with
 | next =>
  obtain⟨bQ,H',gS,q⟩:=q
  exact ar ak s1 bQ H' D gS (aar _ _ q)
 | ret v=>exact q
 | brk=>exact q
 | cont=>exact q
inductive D where
 | bL
 | aH (b:Bool)
 | int (i:Int)
 | str (s:af)
 | tup (ds:List D)
 | lst (ds:List D)
mutual
noncomputable def fP(H:au):D->V->Prop
 | .bL,v=>v = .bL
 | .aH b,v=>v = .aH b
 | .int i,v=>v = .int i
 | .str s,v=>v = .str s/\s.length<=100000
 | .tup ds,v=>∃ a vs,v = .ref a/\H a=J (.tup vs)/\ff H ds vs/\vs.length<=1000
 | .lst ds,v=>∃ a vs,v = .ref a/\H a=J (.lst vs)/\ff H ds vs/\vs.length<=1000
noncomputable def ff(H:au):List D->List V->Prop
 | [],vs=>vs=[]
 | d::ds,vs=>∃ v r,vs=v::r/\fP H d v/\ff H ds r
end
mutual
theorem fP.same{H H':au}(s:er H H'):∀ (d:D) {v:V},fP H d v->fP H' d v
 | .bL,v,h=>h
 | .aH b,v,h=>h
 | .int i,v,h=>h
 | .str t,v,h=>h
 | .tup ds,v,h=>by
  obtain⟨a,vs,e,gO,q,z⟩:=h
  exact⟨a,vs,e,s _ _ gO,ff.same s ds q,z⟩
 | .lst ds,v,h=>by
  obtain⟨a,vs,e,gO,q,z⟩:=h
  exact⟨a,vs,e,s _ _ gO,ff.same s ds q,z⟩
theorem ff.same{H H':au}(s:er H H'):∀ (ds:List D) {vs:List V},ff H ds vs->ff H' ds vs
 | [],vs,h=>h
 | d::ds,vs,h=>by
  obtain⟨v,r,e,q,cE⟩:=h
  exact⟨v,r,e,fP.same s d q,ff.same s ds cE⟩
end
theorem ff.len{H:au}:∀ (ds:List D) {vs:List V},ff H ds vs->vs.length=ds.length
 | [],vs,h=>by
  obtain rfl:vs=[]:=h
  rfl
 | g::fs,vs,h=>by
  obtain⟨d0,r,rfl,q,cE⟩:=h
  rw[ed,ff.len fs cE];rfl
theorem ff.get{H:au}:∀ (ds:List D) {vs:List V} {i:Nat} {v:V},ff H ds vs->vs[i]?=J v->∃ d,ds[i]?=J d/\fP H d v
 | [],vs,i,v,h,e=>by
  obtain rfl:vs=[]:=h
  cases e
 | d::ds,vs,0,v,h,e=>by
  obtain⟨d0,r,rfl,q,cE⟩:=h
  cases e
  exact⟨d,I,q⟩
 | d::ds,vs,i+1,v,h,e=>by
  obtain⟨d0,r,rfl,q,cE⟩:=h
  exact ff.get ds cE e
noncomputable def qq:D->String
 | .bL=>"NoneType"
 | .aH _=>"bool"
 | .int _=>"int"
 | .str _=>"str"
 | .tup _=>"tuple"
 | .lst _=>"list"
theorem fP.ty{K:bO}{H:au}{d:D}{v:V}(h:fP H d v):kD K H v (.type (qq d)):=by
 cases d with
 | bL=>obtain rfl:v = .bL:=h;exact .bL
 | aH b=>obtain rfl:v = .aH b:=h;exact .aH b
 | int i=>obtain rfl:v = .int i:=h;exact .int i
 | str s=>obtain⟨rfl,_⟩:=h;exact .str s
 | tup ds=>obtain⟨a,vs,rfl,e,_⟩:=h;exact .tup e
 | lst ds=>obtain⟨a,vs,rfl,e,_⟩:=h;exact .lst e
noncomputable def acw(d:D)(T:String):Bool:=qq d == T||(qq d == "bool"&&T == "int")
theorem R7(K:bO):∀ a∈["NoneType","bool","int","str","tuple","list"],∀ T∈["int","bool","str","tuple","list"],eU K (.type a) (.type T)=J (a == T||(a == "bool"&&T == "int")):=by
 intro a ba T b9
 have Bu:a="NoneType"\/a="bool"\/a="int"\/a="str"\/a="tuple"\/a="list":=by simpa using ba
 have vL:T="int"\/T="bool"\/T="str"\/T="tuple"\/T="list":=by simpa using b9
 rcases Bu with rfl | rfl | rfl | rfl | rfl | rfl<;>rcases vL with rfl | rfl | rfl | rfl | rfl<;>
  first
  | exact EV ..
  | (unfold eU;rw[if_neg (by decide)];unfold PySem.W.kitCls;kernel_rfl)
theorem hb(K:bO)(d:D){T:String}(b9:T∈["int","bool","str","tuple","list"]):eU K (.type (qq d)) (.type T)=J (acw d T):=by
 refine R7 K _ ?_ T b9
 cases d<;>simp[qq]
section
variable {X:bp}
noncomputable def N6:V->Bool
 | .bL=>ag
 | .aH _=>ag
 | .int _=>ag
 | .str _=>ag
 | .ref _=>ag
 | _=>ah
theorem L1:dU X (hP .Is) (fun x y H Q=>∃ b,y = .aH b/\N6 x=ag/\Q (.aH (decide (x = .aH b))) H):=by
 intro ak s ab H x y v u Q aa bf cd h
 obtain⟨b,rfl,ay,q⟩:=h
 cases cd
 cases x with
 | bL=>cases bf;exact dv (eE aa q (by cases b<;>rfl))
 | aH c=>cases bf;cases b<;>cases c<;>exact dv (eE aa q I)
 | int i=>obtain⟨t,rfl⟩:=bf;exact dv (eE aa q (by cases b<;>rfl))
 | str i=>obtain⟨t,rfl⟩:=bf;exact dv (eE aa q (by cases b<;>rfl))
 | ref a=>cases bf;exact dv (eE aa q (by cases b<;>rfl))
 | _=>cases ay
end
section
variable {prog:cX} {w:cu} {A:da} {E:ao->aI->Prop} {s:aI}
theorem UU{it t:ae}{i:Nat}{items:Array ao}{x:ao}{Q:ao->aI->Prop}(rg:s.heap.IsTupleIter it t i)(aW:s.heap.IsTuple t items)(ay:items[i]?=J x)(fF:∀ h',h'.IsTupleIter it t (i+1)->aX.SameBut it s.heap h'->Q x {s with heap:=h'}) :
  bE (model prog w) A (c1.SmallTypes.nextOf (.ref it)) Q E s:=by
 have ty:=rg.typeIs
 have Nh:=rg
 obtain⟨o,aJ,hc,hd⟩:=rg
 obtain⟨aee,Hg,_,ad3,GU⟩:=aW
 unfold c1.SmallTypes.nextOf
 refine bC (wpAny_callSpecial?_slot (name:=af.ofString "__next__") ty F.slot_tuple_iterator_next (wpAny_call_entry F.slot_tuple_iterator_next ty F.entry_tuple_iterator_next ?_ (F.args_tuple_iterator_next_1 _)))
 show bE _ _ (field (.ref it) 0 >>= _) _ _ s
 refine bC (iM aJ hd (x := .ref t) I ?_)
 have nn:¬((ao.ref t == ao.none)=ag):=g6
 show bE _ _ (if (ao.ref t == ao.none)=ag then _ else _) _ _ s
 rw[if_neg nn]
 show bE _ _ (field (.ref it) 1 >>= _) _ _ s
 refine bC (iM aJ hd (x := .int i 0) I ?_)
 show bE _ _ (seqItems? (.ref t) >>= _) _ _ s
 refine bC (rY Hg GU ?_)
 simp only[Int.toNat_natCast,ay]
 refine bC (rZ aJ hd (by simp) (dv ⟨x,I,dv (fF _ ⟨_,aX.get?_update_self _ aJ (bo.isFreed_of_fields (bo.data_mapFields hd _)),(bo.cls_mapFields ..).trans hc,?_⟩ (aX.SameBut.update ..))⟩))
 rw[bo.data_mapFields hd];simp[rawInt]
theorem Vs{it t:ae}{i:Nat}{items:Array ao}{Q:ao->aI->Prop}(fp:A.handled=aw)(rg:s.heap.IsTupleIter it t i)(aW:s.heap.IsTuple t items)(ay:items[i]?=aw)(jh:∀ h' e,aX.ExtBut it s.heap h'->(∃ o,h'.get? e=J o/\o.cls = .type "StopIteration")->E (.ref e) {s with heap:=h'}) :
  bE (model prog w) A (c1.SmallTypes.nextOf (.ref it)) Q E s:=by
 have ty:=rg.typeIs
 obtain⟨o,aJ,hc,hd⟩:=rg
 obtain⟨aee,Hg,_,ad3,GU⟩:=aW
 unfold c1.SmallTypes.nextOf
 refine bC (wpAny_callSpecial?_slot (name:=af.ofString "__next__") ty F.slot_tuple_iterator_next (wpAny_call_entry F.slot_tuple_iterator_next ty F.entry_tuple_iterator_next ?_ (F.args_tuple_iterator_next_1 _)))
 show bE _ _ (field (.ref it) 0 >>= _) _ _ s
 refine bC (iM aJ hd (x := .ref t) I ?_)
 have nn:¬((ao.ref t == ao.none)=ag):=g6
 show bE _ _ (if (ao.ref t == ao.none)=ag then _ else _) _ _ s
 rw[if_neg nn]
 show bE _ _ (field (.ref it) 1 >>= _) _ _ s
 refine bC (iM aJ hd (x := .int i 0) I ?_)
 show bE _ _ (seqItems? (.ref t) >>= _) _ _ s
 refine bC (rY Hg GU ?_)
 simp only[Int.toNat_natCast,ay]
 refine bC (wpAny_rule (bC (rZ aJ hd (by simp) ?_)))
 show bE _ _ (newExc (.type "StopIteration") [] >>= _) _ _ _
 refine bC ?_
 simp only[newExc,newTuple]
 refine bC (wpAny_newObj_type ?_ (by size_fits))
 refine bC (m:=firstArgMember _ _) (wpAny_of_eq (a:=ao.none) (by first | rfl | (simp only[firstArgMember];rfl)) ?_)
 refine wpAny_newObj_type ?_ (by size_fits)
 simp only[raiseNew]
 refine bC (wpAny_handled ?_)
 first | rw[show A.in1.handled=aw from fp] | rw[fp]
 exact bC (dv (wpAny_throw (jh _ _ (((aX.SameBut.update ..).extBut.push _).push _) ⟨_,gU _ I,I⟩)))
end
theorem ahD{h h':aX}{a:ae}{items:Array ao}(x:h.IsTuple a items)(k:∀ o,h.get? a=J o->h'.get? a=J o):h'.IsTuple a items :=
 let ⟨o,aJ,r⟩:=x;⟨o,k o aJ,r⟩
theorem PN{h h':aX}{a t:ae}{i:Nat}(x:h.IsTupleIter a t i)(k:∀ o,h.get? a=J o->h'.get? a=J o):h'.IsTupleIter a t i :=
 let ⟨o,aJ,r⟩:=x;⟨o,k o aJ,r⟩
theorem Draws.tup{prog:cX}{w:cu}{A:da}(fp:A.handled=aw)(it t:ae)(n1:t≠it)(items:Array ao) :
  Draws prog w A it [it,t] items.size (fun i v=>items[i]?=J v) (fun i h=>h.IsTupleIter it t i/\h.IsTuple t items) where
 live:=fun _ _ st=>let ⟨o,aJ,_⟩:=st.1;⟨o,aJ⟩
 frame:=fun _ _ _ st hk=>⟨PN st.1 fun o e=>hk it (by simp) o e,ahD st.2 fun o e=>hk t (by simp) o e⟩
 item:=fun i s Q E aB st fF=>UU st.1 st.2 (x:=items[i]) (by simp[aB]) fun h' Nh tu=>fF _ h' s.toks (by simp[aB]) ⟨Nh,st.2.extBut tu.extBut n1⟩ tu
 done:=fun s Q E st jh=>Vs fp st.1 st.2 (by simp) jh
structure u4(z dW dz ea eg:ae)(mN mO:List ae):Prop where
 TIz:dW≠z
 TOz:dz≠z
 i1z:ea≠z
 i2z:eg≠z
 TITO:dW≠dz
 TIi1:dW≠ea
 TIi2:dW≠eg
 TOi1:dz≠ea
 TOi2:dz≠eg
 di:z∉mN
 HK:dz∉mN
 vW:eg∉mN
 dj:z∉mO
 yx:dz∉mO
 vX:ea∉mO
section
variable {prog:cX} {w:cu} {A:da} {E:ao->aI->Prop} {s:aI}
variable {z dW dz ea eg:ae} {mN mO:List ae} {eT dO i:Nat} {uU uV:Nat->ao->Prop} {nA nB:Nat->aX->Prop}
theorem Draws.but{A:da}{it b:ae}{bH:List ae}{n i:Nat}{P:Nat->ao->Prop}{St:Nat->aX->Prop}(D:Draws prog w A it bH n P St){h h':aX}(x:aX.ExtBut b h h')(aq:b∉bH)(st:St i h):St i h' :=
 D.frame i h h' st fun c hc o e=>x c o (fun z=>aq (z ▸ hc)) e
theorem Rz{a b:ao}{Q:ao->aI->Prop}(dT:Draws prog w A ea mN eT uU nA)(jK:Draws prog w A eg mO dO uV nB)(Z:u4 z dW dz ea eg mN mO)(bI:IsZip s.heap z dW dz .none)(ti:IsPair s.heap dW (.ref ea) (.ref eg))(tj:IsPair s.heap dz a b)(ei:i<eT)(et:i<dO)(t1:nA i s.heap)(kV:nB i s.heap)
  (fF:∀ x y h' cf,uU i x->uV i y->IsZip h' z dW dz (rawInt s.heap.objs.size)->IsPair h' dz x y->nA (i+1) h'->nB (i+1) h'->IsPair h' s.heap.objs.size x y->(∀ c o,c≠z->c≠dz->c≠ea->c≠eg->s.heap.get? c=J o->h'.get? c=J o)->Q (.ref s.heap.objs.size) {s with heap:=h',toks:=cf}) :
  bE (model prog w) A (c1.«zip.__next__» ⟨[.ref z],[]⟩) (fun cF aF=>∃ v,cF = .done (.ret v)/\Q v aF) E s:=by
 show bE _ _ (field (.ref z) 2 >>= _) _ _ _
 refine bC (iM bI I (x := .bool ah) I ?_)
 show bE _ _ (field (.ref z) 3 >>= _) _ _ _
 refine bC (iM bI I (x := .ref dW) I (bC (rY ti I ?_)))
 show bE _ _ (c1.SmallTypes.ownedTupleIsFree (.ref z) >>= _) _ _ _
 refine bC ?_
 unfold c1.SmallTypes.ownedTupleIsFree
 refine bC (iM bI I (x := .none) I (dv ?_))
 simp only[if_true]
 refine bC (wpAny_rule (bC (iM bI I (x := .ref dz) I (bC (wI bI (by simp) fun ba rV nc=>?_)))))
 replace rV:IsZip ba z dW dz .ellipsis:=rV
 refine bC ?_
 simp only[List.zipIdx_cons,List.zipIdx_nil,List.forIn_cons,List.forIn_nil]
 refine bC (bC (wpAny_onRaise ?_))
 show bE _ _ (c1.SmallTypes.nextOf (.ref ea) >>= _) _ _ _
 refine bC (dT.item i _ _ _ ei (Draws.but dT nc.extBut Z.di t1) fun x aq PI hu c9 mr=>dv ?_)
 have dC:IsPair aq dz a b:=mr.extBut _ _ Z.TOi1 (nc.extBut _ _ Z.TOz tj)
 refine bC (rY dC I (bC (wpAny_updateSeq_pair dC fun hc ik gm=>?_)))
 replace ik:IsPair hc dz x b:=ik
 refine bC (wpAny_letGo (dv ?_))
 refine bC (bC (wpAny_onRaise ?_))
 show bE _ _ (c1.SmallTypes.nextOf (.ref eg) >>= _) _ _ _
 refine bC (jK.item i _ _ _ et (Draws.but jK gm.extBut Z.yx (Draws.but jK mr.extBut Z.vX (Draws.but jK nc.extBut Z.dj kV))) fun y hd ahk hv ahe iL=>dv ?_)
 have od:IsPair hd dz x b:=iL.extBut _ _ Z.TOi2 ik
 refine bC (rY od I (bC (wpAny_updateSeq_pair od fun he ec xe=>?_)))
 replace ec:IsPair he dz x y:=ec
 refine bC (wpAny_letGo (dv (dv ?_)))
 refine bC (rY ec I (bC (wpAny_newTuple ?_)))
 have c0:he.objs.size=s.heap.objs.size:=by rw[xe.1,iL.1,gm.1,mr.1,nc.1]
 have P6:IsZip he z dW dz .ellipsis:=xe.extBut _ _ Z.TOz.symm (iL.extBut _ _ Z.i2z.symm (gm.extBut _ _ Z.TOz.symm (mr.extBut _ _ Z.i1z.symm rV)))
 have NQ:z<he.objs.size:=dX P6
 show bE _ _ (c1.SmallTypes.ownedTupleHandOut (.ref z) (.ref he.objs.size) >>= _) _ _ _
 refine bC ?_
 unfold c1.SmallTypes.ownedTupleHandOut
 refine bC (wI (show IsZip (he.push {cls := .type "tuple",data := .seq #[x,y]}) z dW dz .ellipsis from d7 _ P6) (by simp) fun aE IY y0=>?_)
 replace IY:IsZip aE z dW dz (rawInt he.objs.size):=IY
 refine wI IY (by simp) fun aK CI PY=>dv ⟨_,I,?_⟩
 replace CI:IsZip aK z dW dz (rawInt he.objs.size):=CI
 have up:aX.ExtBut z he aK:=fun c o e5 e=>PY.extBut _ _ e5 (y0.extBut _ _ e5 (d7 _ e))
 have pn:IsPair aK he.objs.size x y:=PY.extBut _ _ (Nat.ne_of_gt NQ) (y0.extBut _ _ (Nat.ne_of_gt NQ) (gU _ rfl))
 have ahf:nA (i+1) aK:=Draws.but dT up Z.di (Draws.but dT xe.extBut Z.HK (Draws.but dT iL.extBut Z.vW (Draws.but dT gm.extBut Z.HK c9)))
 have ahg:nB (i+1) aK:=Draws.but jK up Z.dj (Draws.but jK xe.extBut Z.yx ahe)
 show Q (.ref he.objs.size) _
 rw[c0] at CI pn ⊢
 exact fF x y aK ahk hu hv CI (up _ _ Z.TOz ec) ahf ahg pn fun c o e5 gh fD l1 e=>up c o e5 (xe.extBut _ _ gh (iL.extBut _ _ l1 (gm.extBut _ _ gh (mr.extBut _ _ fD (nc.extBut _ _ e5 e)))))
theorem Sy{a b:ao}{Q:Fin->aI->Prop}(dT:Draws prog w A ea mN eT uU nA)(jK:Draws prog w A eg mO dO uV nB)(Z:u4 z dW dz ea eg mN mO)(bI:IsZip s.heap z dW dz .none)(ti:IsPair s.heap dW (.ref ea) (.ref eg))(tj:IsPair s.heap dz a b)(l:i=eT\/(i<eT/\i=dO))(t1:nA i s.heap)(kV:nB i s.heap)
  (jh:∀ h' e cf,(∀ c o,c≠z->c≠dz->c≠ea->c≠eg->s.heap.get? c=J o->h'.get? c=J o)->(∃ o,h'.get? e=J o/\o.cls = .type "StopIteration")->E (.ref e) {s with heap:=h',toks:=cf}) :
  bE (model prog w) A (c1.«zip.__next__» ⟨[.ref z],[]⟩) Q E s:=by
 show bE _ _ (field (.ref z) 2 >>= _) _ _ _
 refine bC (iM bI I (x := .bool ah) I ?_)
 show bE _ _ (field (.ref z) 3 >>= _) _ _ _
 refine bC (iM bI I (x := .ref dW) I (bC (rY ti I ?_)))
 show bE _ _ (c1.SmallTypes.ownedTupleIsFree (.ref z) >>= _) _ _ _
 refine bC ?_
 unfold c1.SmallTypes.ownedTupleIsFree
 refine bC (iM bI I (x := .none) I (dv ?_))
 simp only[if_true]
 refine bC (wpAny_rule (bC (iM bI I (x := .ref dz) I (bC (wI bI (by simp) fun ba rV nc=>?_)))))
 replace rV:IsZip ba z dW dz .ellipsis:=rV
 refine bC ?_
 simp only[List.zipIdx_cons,List.zipIdx_nil,List.forIn_cons,List.forIn_nil]
 refine bC (bC (wpAny_onRaise ?_))
 show bE _ _ (c1.SmallTypes.nextOf (.ref ea) >>= _) _ _ _
 rcases l with rfl | ⟨ei,rfl⟩
 ·refine bC (dT.done _ _ _ (Draws.but dT nc.extBut Z.di t1) fun aq e mr he=>?_)
  obtain⟨ec,ge,ce⟩:=he
  have P4:IsZip aq z dW dz .ellipsis:=mr _ _ Z.i1z.symm rV
  have F1:e≠z:=fun x=>by subst x;rw[P4] at ge;cases ge;simp at ce
  exact wI P4 (by simp) fun hc _ gm=>jh hc e s.toks (fun c o e5 _ fD _ g=>gm.extBut _ _ e5 (mr _ _ fD (nc.extBut _ _ e5 g))) ⟨ec,gm.extBut _ _ F1 ge,ce⟩
 ·refine bC (dT.item i _ _ _ ei (Draws.but dT nc.extBut Z.di t1) fun x aq PI hu c9 mr=>dv ?_)
  have dC:IsPair aq dz a b:=mr.extBut _ _ Z.TOi1 (nc.extBut _ _ Z.TOz tj)
  refine bC (rY dC I (bC (wpAny_updateSeq_pair dC fun hc ik gm=>?_)))
  refine bC (wpAny_letGo (dv ?_))
  refine bC (bC (wpAny_onRaise ?_))
  show bE _ _ (c1.SmallTypes.nextOf (.ref eg) >>= _) _ _ _
  refine bC (jK.done _ _ _ (Draws.but jK gm.extBut Z.yx (Draws.but jK mr.extBut Z.vX (Draws.but jK nc.extBut Z.dj kV))) fun hd e iL he=>?_)
  obtain⟨ec,ge,ce⟩:=he
  have P5:IsZip hd z dW dz .ellipsis:=iL _ _ Z.i2z.symm (gm.extBut _ _ Z.TOz.symm (mr.extBut _ _ Z.i1z.symm rV))
  have F1:e≠z:=fun x=>by subst x;rw[P5] at ge;cases ge;simp at ce
  exact wI P5 (by simp) fun aE _ y0=>jh aE e PI (fun c o e5 gh fD l1 g=>y0.extBut _ _ e5 (iL _ _ l1 (gm.extBut _ _ gh (mr.extBut _ _ fD (nc.extBut _ _ e5 g))))) ⟨ec,y0.extBut _ _ F1 ge,ce⟩
theorem UT{a b:ao}{Q:Option ao->aI->Prop}(dT:Draws prog w A.in1 ea mN eT uU nA)(jK:Draws prog w A.in1 eg mO dO uV nB)(Z:u4 z dW dz ea eg mN mO)(bI:IsZip s.heap z dW dz .none)(ti:IsPair s.heap dW (.ref ea) (.ref eg))(tj:IsPair s.heap dz a b)(ei:i<eT)(et:i<dO)(t1:nA i s.heap)(kV:nB i s.heap)
  (fF:∀ x y h' cf,uU i x->uV i y->IsZip h' z dW dz (rawInt s.heap.objs.size)->IsPair h' dz x y->nA (i+1) h'->nB (i+1) h'->IsPair h' s.heap.objs.size x y->(∀ c o,c≠z->c≠dz->c≠ea->c≠eg->s.heap.get? c=J o->h'.get? c=J o)->Q (J (.ref s.heap.objs.size)) {s with heap:=h',toks:=cf}) :
  bE (model prog w) A (pyNext (.ref z)) Q E s:=by
 have b9:s.TypeIs (.ref z) "zip":=⟨_,bI,rfl⟩
 unfold pyNext
 exact bC (wpAny_attempt (wpAny_callSpecial?_slot (name:=af.ofString "__next__") b9 F.slot_zip_next (wpAny_call_entry F.slot_zip_next b9 F.entry_zip_next (Rz dT jK Z bI ti tj ei et t1 kV fun x y h' cf a1 a2 a3 a4 a5 a6 a7 a8=>dv (fF x y h' cf a1 a2 a3 a4 a5 a6 a7 a8)) (F.args_zip_next_1 _))))
theorem Vq{a b:ao}{Q:Option ao->aI->Prop}(dT:Draws prog w A.in1 ea mN eT uU nA)(jK:Draws prog w A.in1 eg mO dO uV nB)(Z:u4 z dW dz ea eg mN mO)(bI:IsZip s.heap z dW dz .none)(ti:IsPair s.heap dW (.ref ea) (.ref eg))(tj:IsPair s.heap dz a b)(l:i=eT\/(i<eT/\i=dO))(t1:nA i s.heap)(kV:nB i s.heap)
  (fF:∀ h' cf,(∀ c o,c≠z->c≠dz->c≠ea->c≠eg->s.heap.get? c=J o->h'.get? c=J o)->Q aw {s with heap:=h',toks:=cf}) :
  bE (model prog w) A (pyNext (.ref z)) Q E s:=by
 have b9:s.TypeIs (.ref z) "zip":=⟨_,bI,rfl⟩
 unfold pyNext
 refine bC (wpAny_attempt (wpAny_callSpecial?_slot (name:=af.ofString "__next__") b9 F.slot_zip_next (wpAny_call_entry F.slot_zip_next b9 F.entry_zip_next (Sy dT jK Z bI ti tj l t1 kV fun h' e cf hk he=>?_) (F.args_zip_next_1 _))))
 obtain⟨o,aJ,hc⟩:=he
 exact bC (wpAny_isInstance (T:="StopIteration") (b:=ag) ⟨o,aJ,hc⟩ isSubtype_stop (dv (fF _ _ hk)))
end
theorem aix{n a b:Nat}(aj:a<n)(ar:b<n):u4 (n+4) (n+2) (n+3) n (n+1) [n,a] [n+1,b]:=by
 have nm:∀ {x y z:Nat},x≠y->x≠z->x∉[y,z]:=fun aG aL h=>by
  rcases dn.mp h with h | h
  ·exact aG h
  ·exact aL (fy.mp h)
 refine⟨?_,?_,?_,?_,?_,?_,?_,?_,?_,nm ?_ ?_,nm ?_ ?_,nm ?_ ?_,nm ?_ ?_,nm ?_ ?_,nm ?_ ?_⟩<;>(show (_:Nat)≠_;omega)
section
variable {prog:cX} {w:cu} {A:da} {E:ao->aI->Prop} {s:aI}
noncomputable abbrev CJ(h:aX)(a:ae):aX:=h.push {cls := .type "list_iterator",data := .fields #[.ref a,.int 0 0]}
noncomputable abbrev CK(h:aX)(a b:ae):aX:=(CJ h a).push {cls := .type "tuple_iterator",data := .fields #[.ref b,.int 0 0]}
noncomputable abbrev CL(h:aX)(a b:ae):aX:=(CK h a b).push {cls := .type "tuple",data := .seq #[.ref h.objs.size,.ref (CJ h a).objs.size]}
noncomputable abbrev CM(h:aX)(a b:ae):aX:=(CL h a b).push {cls := .type "tuple",data := .seq #[.none,.none]}
noncomputable abbrev wD(h:aX)(a b:ae):aX:=(CM h a b).push {cls := .type "zip",data := .fields #[.none,.bool ah,.bool ah,.ref (CK h a b).objs.size,.ref (CL h a b).objs.size]}
theorem RA(a b:ae)(xs aY:Array ao) :
  Meets (c1.«zip.__new__» ⟨[.type "zip",.ref a,.ref b],[]⟩) (fun _ R s=>s.heap.IsList a xs/\s.heap.IsTuple b aY/\R (.ok (.ret (.ref (CM s.heap a b).objs.size))) {s with heap:=wD s.heap a b}) :=
 .of_wp fun prog w A R s h=>by
  obtain⟨bh,g,d,cf,os⟩:=s
  obtain⟨aG,aL,h⟩:=h
  have abV:=sub_zip
  have fJ:aX.IsList (aI.heap ⟨bh,g,d,cf,os⟩) a xs:=aG
  have lF:aX.IsTuple (aI.heap ⟨bh.push {cls := .type "list_iterator",data := .fields #[.ref a,.int 0 0]},g,d,cf,os⟩) b aY:=aX.IsTuple.push aL _
  wp_walk using wpAny_pyIter_list fJ,wpAny_pyIter_tuple lF
  exact⟨_,I,h⟩
theorem Rq{a b:ae}{xs aY:Array ao}{Q:ao->aI->Prop}(aG:s.heap.IsList a xs)(aL:s.heap.IsTuple b aY)
  (h:∀ h',IsZip h' (s.heap.objs.size+4) (s.heap.objs.size+2) (s.heap.objs.size+3) .none->IsPair h' (s.heap.objs.size+2) (.ref s.heap.objs.size) (.ref (s.heap.objs.size+1))->IsPair h' (s.heap.objs.size+3) .none .none->h'.IsListIter s.heap.objs.size a 0->h'.IsTupleIter (s.heap.objs.size+1) b 0->(∀ c o,s.heap.get? c=J o->h'.get? c=J o)->Q (.ref (s.heap.objs.size+4)) {s with heap:=h'}) :
  bE (model prog w) A (call (.type "zip") [.ref a,.ref b]) Q E s:=by
 refine callType_new F.called_zip (by decide) (F.typeCall_zip_2 _ _) (F.newCall_zip_2 _ _) (fun obj=>F.args_object_init_3 obj _ _) F.entry_zip_new (RA a b xs aY) ⟨aG,aL,?_⟩
 have up:∀ {h:aX} {c o d0},h.get? c=J o->(h.push d0).get? c=J o:=fun e=>d7 _ e
 have s1:(CJ s.heap a).objs.size=s.heap.objs.size+1:=aX.size_push ..
 have s2:(CK s.heap a b).objs.size=s.heap.objs.size+2:=by rw[aX.size_push,s1]
 have hL:(CL s.heap a b).objs.size=s.heap.objs.size+3:=by rw[aX.size_push,s2]
 have qm:(CM s.heap a b).objs.size=s.heap.objs.size+4:=by rw[aX.size_push,hL]
 have F6:(wD s.heap a b).get? (CM s.heap a b).objs.size=J _:=gU _ rfl
 have nS:(wD s.heap a b).get? (CL s.heap a b).objs.size=J _:=up (gU _ rfl)
 have g3:(wD s.heap a b).get? (CK s.heap a b).objs.size=J _:=up (up (gU _ rfl))
 have g2:(wD s.heap a b).get? (CJ s.heap a).objs.size=J _:=up (up (up (gU _ rfl)))
 have g1:(wD s.heap a b).get? s.heap.objs.size=J _:=up (up (up (up (gU _ rfl))))
 show _/\_
 rw[s2,hL,qm] at F6
 rw[hL] at nS
 rw[s1,s2] at g3
 rw[s1] at g2
 rw[qm]
 exact⟨⟨_,F6,I⟩,h _ F6 g3 nS ⟨_,g1,I,I⟩ ⟨_,g2,I,I⟩ fun c o e=>up (up (up (up (up e))))⟩
end
noncomputable def zi(K:bO)(a b:ae)(xs aY:List V):kd :=
 ⟨fun i H=>dQ K H a xs/\jc K H b aY/\i<min xs.length aY.length,fun i H x H'=>∃ (T:ae) (u v:V),H T=aw/\xs[i]?=J u/\aY[i]?=J v/\x = .ref T/\H'=upd H T (.tup [u,v]),fun i H=>dQ K H a xs/\jc K H b aY/\min xs.length aY.length<=i⟩
theorem xd{h:aX}{a:ae}{xs:Array ao}(x:IsTup h a xs):h.IsTuple a xs:=x
theorem WC{P:cX}{w:cu}{K:bO}{elts:List b2}{k:Nat}{aO:Pos}(a b z dW dz ea eg:ae)(xs aY:List V)(eT:a≠ea)(dO:b≠eg)(D:u4 z dW dz ea eg [ea,a] [eg,b]) :
  Turn P w K (.Tuple elts k aO) (zi K a b xs aY) [z,dW,dz,ea,eg] z (fun i h=>i<=min xs.length aY.length/\IsZip h z dW dz .none/\IsPair h dW (.ref ea) (.ref eg)/\(∃ a b,IsPair h dz a b)/\h.IsListIter ea a i/\h.IsTupleIter eg b i) where
 mem:=by simp
 obj:=fun i h st c hc=>by
  obtain⟨_,i6,jH,⟨p,q,lJ⟩,rK,kv⟩:=st
  rcases dn.mp hc with e | hc
  ·subst e;exact⟨_,i6,fun v z=>by cases z⟩
  rcases dn.mp hc with e | hc
  ·subst e;exact⟨_,jH,fun v z=>by cases z⟩
  rcases dn.mp hc with e | hc
  ·subst e;exact⟨_,lJ,fun v z=>by cases z⟩
  rcases dn.mp hc with e | hc
  ·subst e
   obtain⟨o,e,c,d⟩:=rK
   exact⟨o,e,fun v z=>by rw[d] at z;cases z⟩
  ·obtain rfl:=fy.mp hc
   obtain⟨o,e,c,d⟩:=kv
   exact⟨o,e,fun v z=>by rw[d] at z;cases z⟩
 keep:=fun i h h' st k=>by
  obtain⟨aB,i6,jH,⟨p,q,lJ⟩,rK,kv⟩:=st
  exact⟨aB,k z (by simp) _ i6,k dW (by simp) _ jH,⟨p,q,k dz (by simp) _ lJ⟩,rK.at fun o e=>k ea (by simp) o e,PN kv fun o e=>k eg (by simp) o e⟩
 item:=by
  intro X ck hw gQ hc i ak s ab H E aa aE st aK
  subst ck hw gQ
  obtain⟨yb,yc,aB⟩:=aK
  obtain⟨yn,yG,hu,NB⟩:=aa.list yb
  obtain⟨qg,yH,hv,NC⟩:=aa.tuple yc
  have abh:=yG.length
  have abi:=yH.length
  obtain⟨_,i6,jH,⟨m2,aem,lJ⟩,rK,kv⟩:=st
  have fp:=aa.ok.hd hc
  refine UT (i:=i) (Draws.list (A:=X.A.in1) fp ea a eT yn.toArray) (Draws.tup (A:=X.A.in1) fp eg b dO qg.toArray) D i6 jH lJ (by rw[fY];omega) (by rw[fY];omega) ⟨rK,hu.isList⟩ ⟨kv,xd hv⟩ fun o7 lM h' cf BO BP e5 gh fD l1 A5 ft=>?_
  refine⟨_,I,wpAny_letOwnedTupleGo_zip e5 fun MJ YE ah9=>?_⟩
  have ab4:yn[i]?=J o7:=by simpa using BO
  have ab5:qg[i]?=J lM:=by simpa using BP
  have mU:xs[i]?=J (xs[i]'(by omega)):=dm _
  have NA:aY[i]?=J (aY[i]'(by omega)):=dm _
  obtain⟨v1,mT,HZ⟩:=yG.get mU
  obtain⟨v2,oU,H0⟩:=yH.get NA
  rw[ab4] at mT;cases mT
  rw[ab5] at oU;cases oU
  have b9:s.heap.objs.size<=s.heap.objs.size:=cx _
  have GB:=aa.aR.fresh b9
  have lt:∀ {c o},s.heap.get? c=J o->c≠s.heap.objs.size:=fun e=>fj (dX e)
  have NU:∀ c∈[z,dW,dz,ea,eg],c≠s.heap.objs.size:=fun c gW=>by
   rcases dn.mp gW with e | gW
   ·rw[e];exact lt i6
   rcases dn.mp gW with e | gW
   ·rw[e];exact lt jH
   rcases dn.mp gW with e | gW
   ·rw[e];exact lt lJ
   rcases dn.mp gW with e | gW
   ·rw[e];obtain⟨o,e,_⟩:=rK;exact lt e
   ·rw[fy.mp gW];obtain⟨o,e,_⟩:=kv;exact lt e
  have vZ:aX.ExtBut z h' MJ:=ah9.extBut
  refine⟨.ref s.heap.objs.size,upd H s.heap.objs.size (.tup [xs[i]'(by omega),aY[i]'(by omega)]),?_,I,⟨_,_,_,GB,mU,NA,I,I⟩,⟨by omega,YE,vZ _ _ D.TIz (ft _ _ D.TIz D.TITO D.TIi1 D.TIi2 jH),⟨_,_,vZ _ _ D.TOz gh⟩,fD.1.extBut vZ D.i1z,l1.1.extBut vZ D.i2z⟩,fun c gW=>?_⟩
  ·refine aa.PQ (ch:=[z,dz,ea,eg]) (t':=cf) (fun c o p5 pP=>?_) (fun c gW=>aE c ?_) b9 ?_
   ·have nn:∀ {d:ae},d∈[z,dz,ea,eg]->c≠d:=fun hd e=>p5 (e ▸ hd)
    exact vZ c o (nn (by simp)) (ft c o (nn (by simp)) (nn (by simp)) (nn (by simp)) (nn (by simp)) pP)
   ·rcases dn.mp gW with e | gW
    ·rw[e];simp
    ·exact fk _ (fk _ gW)
   ·refine⟨by show 2<=bT;decide,[o7,lM],.cons HZ (.cons H0 .nil),?_⟩
    exact⟨_,vZ _ _ (NU z (by simp)).symm A5,I,_,I⟩
  ·rw[bJ (NU c gW)]
   exact(aE c gW).1
 done:=by
  intro X ck hw gQ hc i ak s ab H E aa aE st aK
  subst ck hw gQ
  obtain⟨yb,yc,aB⟩:=aK
  obtain⟨yn,yG,hu,NB⟩:=aa.list yb
  obtain⟨qg,yH,hv,NC⟩:=aa.tuple yc
  have abh:=yG.length
  have abi:=yH.length
  obtain⟨hle,i6,jH,⟨m2,aem,lJ⟩,rK,kv⟩:=st
  have fp:=aa.ok.hd hc
  refine Vq (i:=i) (Draws.list (A:=X.A.in1) fp ea a eT yn.toArray) (Draws.tup (A:=X.A.in1) fp eg b dO qg.toArray) D i6 jH lJ (by rw[fY,fY];omega) ⟨rK,hu.isList⟩ ⟨kv,xd hv⟩ fun h' cf ft=>⟨I,aa.PO (ch:=[z,dz,ea,eg]) (t':=cf) (fun c o p5 pP=>?_) fun c gW=>aE c ?_⟩
  ·have nn:∀ {d:ae},d∈[z,dz,ea,eg]->c≠d:=fun hd e=>p5 (e ▸ hd)
   exact ft c o (nn (by simp)) (nn (by simp)) (nn (by simp)) (nn (by simp)) pP
  ·rcases dn.mp gW with e | gW
   ·rw[e];simp
   ·exact fk _ (fk _ gW)
 self:=fun A i s Q E st h=>wpAny_pyIter_zip st.2.1 h
section
variable {X:bp}
def acv(K:bO)(bS:gw):dW:=fun ab H R=>bS ab H fun vs H1=>∃ a b xs aY,vs=[.ref a,.ref b]/\dQ K H1 a xs/\jc K H1 b aY/\R (zi K a b xs aY) H1
theorem Ly{l m:b2}{bS:gw}{p aO:Pos}{elts:List b2}{k:Nat}{wA:Pos}(aK:h5 X "zip")(hm:X.mg "zip"=aw)(ba:hx X [l,m] bS)(hs:df [l,m] X.env=[(ah,eval l X.env),(ah,eval m X.env)]:=by rfl)(hF:df [m] X.env=[(ah,eval m X.env)]:=by rfl) :
  iO X (.Tuple elts k wA) (.Call (.Name "zip" p) [l,m] [] aO) (acv X.K bS):=by
 intro ak s ab H R aa h
 refine Call_ (oF aa aK hm boot_zip (PyProof.Rows.callWith_type1 (cz (ba aO ak s ab H (fun vs H1=>∃ a b xs aY,vs=[.ref a,.ref b]/\dQ X.K H1 a xs/\jc X.K H1 b aY/\R (zi X.K a b xs aY) H1) aa h) fun us s1 ⟨vs,H1,aS,cp,cD⟩=>?_) (by rw[hs,hF]) (by rw[hF];rfl)))
 obtain⟨a,b,xs,aY,rfl,yb,yc,q⟩:=cD
 obtain⟨o7,lM,rfl,HZ,H0⟩:=vals2 cp
 obtain rfl:o7=ao.ref a:=HZ
 obtain rfl:lM=ao.ref b:=H0
 obtain⟨yn,yG,hu,NB⟩:=aS.list yb
 obtain⟨qg,yH,hv,NC⟩:=aS.tuple yc
 have ei:a<s1.heap.objs.size:=by obtain⟨o,aJ,_⟩:=hu.isList;exact dX aJ
 have et:b<s1.heap.objs.size:=by obtain⟨o,aJ,_⟩:=xd hv;exact dX aJ
 refine Rq hu.isList (xd hv) fun h' di dj hh IV y1 ft=>?_
 have bA:Inv X ak ab H1 {s1 with heap:=h'}:=aS.kept (t':=s1.toks) ft
 refine wpAny_pyIter_zip di ?_
 refine⟨_,_,_,_,H1,I,bA,WC a b _ _ _ _ _ xs aY (fj ei) (fj (Nat.lt_succ_of_lt et)) (aix ei et),⟨UF _,di,dj,⟨_,_,hh⟩,IV,y1⟩,fun c hc=>?_,q⟩
 have p4:s1.heap.objs.size<=c:=by
  rcases dn.mp hc with e | hc
  ·rw[e];exact Nat.le_add_right ..
  rcases dn.mp hc with e | hc
  ·rw[e];exact Nat.le_add_right ..
  rcases dn.mp hc with e | hc
  ·rw[e];exact Nat.le_add_right ..
  rcases dn.mp hc with e | hc
  ·rw[e];exact cx _
  ·rw[fy.mp hc];exact Nat.le_succ _
 exact aS.pS p4 (aS.aR.fresh p4)
end
theorem K2{K:bO}{a b:ae}{xs aY:List V}{g:gK}{cn:TE}{Q:bx}{H:au}{D:ae}{fO:St}(jg:Nat->V)(S:St->Prop)(bI:min xs.length aY.length<=100000)(bu:S fO)(dB:H D=aw)(n0:dQ K H a xs)(i1:jc K H b aY)
  (aW:∀ i x y,xs[i]?=J x->aY[i]?=J y->∀ b8 H1 T,S b8->er H H1->H1 T=aw->∀ R:St->V->au->Prop,(∀ bR bt,S bR->er (upd H1 T (.tup [x,y])) bt->R bR (jg i) bt)->g (.ref T) b8 (upd H1 T (.tup [x,y])) fun bR ax=>cn bR ax fun z bt=>R bR z bt)
  (aU:∀ H':au,er H H'->H' D=J (.lst ((List.range (min xs.length aY.length)).map jg))->Q (.ref D) H') :
  ot (zi K a b xs aY) g rN cn Q fO H D:=by
 refine⟨fun i m b8 ax=>i<=min xs.length aY.length/\m=min xs.length aY.length - i/\S b8/\er H ax/\ax D=J (.lst ((List.range i).map jg)),⟨min xs.length aY.length,UF _,I,bu,cL dB,aM⟩,?_⟩
 rintro i m b8 ax ⟨aj,rfl,ar,hs,l6⟩
 have cD:=hs.seq n0
 have cE:jc K ax b aY:=i1.elim (fun e => .inl (e.elim (fun e => .inl (hs _ _ e)) fun⟨o,e⟩ => .inr ⟨o,hs _ _ e⟩)) .inr
 rcases jx i (min xs.length aY.length) with z | z
 ·refine .inr ⟨⟨cD,cE,z⟩,?_⟩
  rintro x bt ⟨T,u,v,b9,dN,bl,rfl,rfl⟩
  refine aW i u v dN bl b8 ax T ar hs b9 (fun bR y e3=>∃ zs b1,e3 D=J (.lst zs)/\zs.length<bT/\b1<min xs.length aY.length - i/\(i+1<=min xs.length aY.length/\b1=min xs.length aY.length - (i+1)/\S bR/\er H (upd e3 D (.lst (zs++[y])))/\upd e3 D (.lst (zs++[y])) D=J (.lst ((List.range (i+1)).map jg)))) fun bR e3 fL BL=>?_
  have adA:D≠T:=fun e=>by rw[e,b9] at l6;cases l6
  refine⟨(List.range i).map jg,min xs.length aY.length - (i+1),BL _ _ (by rw[bJ adA];exact l6),?_,by omega,by omega,rfl,fL,?_,?_⟩
  ·rw[cM,lW]
   exact fi (show i<100000 by omega) (by decide)
  ·intro c o e
   rw[bJ (eO e dB)]
   refine BL c o ?_
   rw[bJ (fun e'=>by rw[e',hs.free b9] at e;cases e)]
   exact hs c o e
  ·rw[aM,List.range_succ,fz];rfl
 ·have e:i=min xs.length aY.length:=by omega
  subst e
  exact .inl ⟨⟨cD,cE,cx _⟩,aU ax hs l6⟩
noncomputable def inD(ns:List af):D->Bool
 | .str s=>ns.any fun n=>n == s
 | _=>ah
noncomputable def Bc(d:D)(u:ao):Bool:=match u with
 | .str n _=>(match d with | .str s=>n == s | _=>ah)
 | _=>ah
theorem LQ(d:D):∀ {ns:List af} {us:List ao},Vals (ns.map V.str) us->us.any (Bc d)=inD ns d
 | [],us,h=>by cases h;cases d<;>rfl
 | n::ns,us,h=>by
  obtain⟨u,r,rfl,⟨t,rfl⟩,az⟩:∃ u r,us=u::r/\RelV (.str n) u/\Vals (ns.map V.str) r:=by cases h with | cons a b=>exact⟨_,_,I,a,b⟩
  rw[List.any_cons,LQ d az]
  cases d<;>rfl
theorem Ld{u:ao}:∀ {ns:List af} {us:List ao},Vals (ns.map V.str) us->u∈us->∃ n t,u = .str n t
 | [],us,h,dN=>by cases h;cases dN
 | n::ns,us,h,dN=>by
  obtain⟨v,r,rfl,⟨t,rfl⟩,az⟩:∃ u r,us=u::r/\RelV (.str n) u/\Vals (ns.map V.str) r:=by cases h with | cons a b=>exact⟨_,_,I,a,b⟩
  rcases dn.mp dN with rfl | dN
  ·exact⟨n,t,I⟩
  ·exact Ld az dN
section
variable {X:bp}
theorem WQ(dN:X.A.units+64<cLine):dU X (hP .NotIn) (fun x y H Q=>∃ p ns d,y = .ref p/\dQ X.K H p (ns.map V.str)/\fP H d x/\Q (.aH (!inD ns d)) H):=by
 intro ak s ab H x y v u Q aa bf cd h
 obtain⟨p,ns,d,rfl,aU,hd,q⟩:=h
 cases cd
 obtain⟨bq,r,pl,bI⟩:=aa.list aU
 have BO:X.A.in1.units<cLine:=by show X.A.units+1<cLine;omega
 refine SeqAt.notIn_listAt (Bc d) pl.isList (fun w hw=>?_) ⟨.aH _,H,aa,I,?_⟩
 ·obtain⟨n,t,rfl⟩:=Ld r (by simpa using hw)
  cases d with
  | bL=>obtain rfl:x = .bL:=hd;cases bf;exact SeqAt.EqAt.str_none n t
  | aH b=>obtain rfl:x = .aH b:=hd;cases bf;exact SeqAt.EqAt.str_bool n t b
  | int i=>obtain rfl:x = .int i:=hd;obtain⟨t',rfl⟩:=bf;exact SeqAt.EqAt.str_int n t i t'
  | str z=>obtain⟨rfl,_⟩:=hd;obtain⟨t',rfl⟩:=bf;exact SeqAt.EqAt.str_str n t z t'
  | tup ds =>
   obtain⟨a,vs,rfl,e,_⟩:=hd
   cases bf
   obtain⟨its',e2,tO,_⟩:=aa.tuple (jc.of e)
   exact SeqAt.EqAt.str_tuple n t (xd tO) BO
  | lst ds =>
   obtain⟨a,vs,rfl,e,_⟩:=hd
   cases bf
   obtain⟨its',e2,tO,_⟩:=aa.list (dQ.of e)
   exact SeqAt.EqAt.str_list n t tO.isList BO
 ·rw[show bq.toArray.any (Bc d)=bq.any (Bc d) by simp,LQ d r]
  exact q
end
theorem mH{f:bN}{k:Fin 4}(h:slot f = .b k):f = .bare k:=by
 cases f with
 | bare j=>injection h with h;rw[h]
 | sp a b=>cases h
 | le s=>cases h
 | one j f=>cases h
 | two j ns fs=>cases h
theorem E5{f:bN}(h:slot f = .s):∃ a b,f = .sp a b:=by
 cases f with
 | sp a b=>exact⟨a,b,I⟩
 | bare j=>cases h
 | le s=>cases h
 | one j f=>cases h
 | two j ns fs=>cases h
theorem E6{f:bN}(h:slot f = .l):∃ s,f = .le s:=by
 cases f with
 | le s=>exact⟨s,I⟩
 | sp a b=>cases h
 | bare j=>cases h
 | one j f=>cases h
 | two j ns fs=>cases h
theorem px{f:bN}{k:Fin 3}(h:slot f = .o k):∃ g,f = .one k g:=by
 cases f with
 | one j g=>injection h with h;rw[h];exact⟨g,I⟩
 | sp a b=>cases h
 | bare j=>cases h
 | le s=>cases h
 | two j ns fs=>cases h
theorem va{f:bN}{k:Fin 2}(h:slot f = .t k):∃ ns fs,f = .two k ns fs:=by
 cases f with
 | two j ns fs=>injection h with h;rw[h];exact⟨ns,fs,I⟩
 | sp a b=>cases h
 | bare j=>cases h
 | le s=>cases h
 | one j f=>cases h
theorem ew.get{c:eu}{X:List ae}{H:au}:∀ (fs:List bN) {os:List ae} {i:Nat} {o:ae},ew c X H fs os->os[i]?=J o->∃ f,fs[i]?=J f/\b4 c X H f o
 | [],os,i,o,h,e=>by
  obtain rfl:os=[]:=h
  cases e
 | f::fs,os,0,o,h,e=>by
  obtain⟨d0,r,rfl,q,cE⟩:=h
  cases e
  exact⟨f,I,q⟩
 | f::fs,os,i+1,o,h,e=>by
  obtain⟨d0,r,rfl,q,cE⟩:=h
  exact ew.get fs cE e
theorem EP:∀ {fs:List bN} {i:Nat} {f:bN},gX fs->fs[i]?=J f->gj f/\aW f<=gA fs
 | [],i,f,h,e=>by cases e
 | g::fs,0,f,h,e=>by
  cases e
  rw[gX] at h
  rw[gA]
  exact⟨h.1,Nat.le_max_left ..⟩
 | g::fs,i+1,f,h,e=>by
  rw[gX] at h
  have:=EP h.2 e
  rw[gA]
  exact⟨this.1,ey this.2 (Nat.le_max_right ..)⟩
theorem q3:∀ k:Fin 4,k=0\/k=1\/k=2\/k=3:=by decide
theorem pR:∀ k:Fin 3,k=0\/k=1\/k=2:=by decide
theorem vC:∀ k:Fin 2,k=0\/k=1:=by decide
section
variable {P:cX} {w:cu} {K:bO} {mg:af->Option ao} {base:aX}
structure MethAt(K:bO)(C:ae)(m dy:af)(st:bj)(ps:List af):Prop where
 ex:∃ f fd,c2 K m dy st f fd/\Binds K fd ps []/\sr K C m f
 cl:fe K C
theorem KL{C:ae}{m dy:af}{st:bj}{ps:List af}{k:Nat}{sp:b5}(M:MethAt K C m dy st ps)(h:∀ vs H Q E,¬sp vs H Q E):lS P w K mg base k C m ps sp:=by
 obtain⟨f,fd,F,aq,hm⟩:=M.ex
 exact⟨f,fd,⟨fun vs H Q E q=>absurd q (h _ _ _ _),fun A outer s H args us vs Q E _ _ _ _ q=>absurd q (h _ _ _ _)⟩,aq,hm⟩
end
mutual
noncomputable def n7(has:eW->Bool):bN->Prop
 | .bare k=>has (.b k)=ag
 | .sp _ _=>has .s=ag
 | .le _=>has .l=ag
 | .one k f=>has (.o k)=ag/\n7 has f
 | .two k _ fs=>has (.t k)=ag/\rn has fs
noncomputable def rn(has:eW->Bool):List bN->Prop
 | []=>True
 | f::fs=>n7 has f/\rn has fs
end
def mh(has:eW->Bool)(f:bN):Prop:=gj f/\n7 has f
def B7(has:eW->Bool)(fs:List bN):Prop:=gX fs/\rn has fs
theorem mh.one{has:eW->Bool}{k:Fin 3}{f:bN}(h:mh has (.one k f)):mh has f:=by
 obtain⟨a,b⟩:=h
 rw[gj] at a
 rw[n7] at b
 exact⟨a,b.2⟩
theorem mh.two{has:eW->Bool}{k:Fin 2}{ns:List af}{fs:List bN}(h:mh has (.two k ns fs)):jZ ns=ag/\ns.length=fs.length/\B7 has fs:=by
 obtain⟨a,b⟩:=h
 rw[gj] at a
 rw[n7] at b
 exact⟨a.1,a.2.1,a.2.2,b.2⟩
theorem Lh{has:eW->Bool}:∀ {fs:List bN} {i:Nat} {f:bN},rn has fs->fs[i]?=J f->n7 has f
 | [],i,f,h,e=>by cases e
 | g::fs,0,f,h,e=>by
  cases e
  rw[rn] at h
  exact h.1
 | g::fs,i+1,f,h,e=>by
  rw[rn] at h
  exact Lh h.2 e
theorem B7.get{has:eW->Bool}{fs:List bN}{i:Nat}{f:bN}(h:B7 has fs)(e:fs[i]?=J f):mh has f/\aW f<=gA fs :=
 ⟨⟨(EP h.1 e).1,Lh h.2 e⟩,(EP h.1 e).2⟩
theorem Yc{l:List Nat}{c i:Nat}(h:l[i]?=J c)(hk:∀ k,k<i->l[k]?≠J c):l.idxOf c=i:=by
 induction l generalizing i with
 | nil=>cases h
 | cons a r cA =>
  cases i with
  | zero=>cases h;rw[List.idxOf_cons_self]
  | succ i =>
   have ba:a≠c:=fun e=>hk 0 (by omega) (by rw[e];rfl)
   have aq:(a == c)=ah:=by simpa using ba
   rw[List.idxOf_cons,aq]
   show r.idxOf c+1=i+1
   rw[cA h fun k hk' e=>hk (k+1) (by omega) e]
section
variable {X:bp}
theorem Wh:su X "str.index" (fun x xs H Q=>∃ (y:af) (c:Nat),x = .str y/\xs=[.str ⟨#[c]⟩]/\c∈y.cps.toList/\Q (.int ((y.cps.toList.idxOf c:Nat):Int)) H):=by
 intro ak s ab H x xs v us Q aa bf dH h
 obtain⟨y,c,rfl,rfl,hc,q⟩:=h
 obtain⟨t,rfl⟩:=bf
 obtain⟨u,rfl,t',rfl⟩:=dH.one
 rcases StrLaws.occ_head y ⟨#[c]⟩ 1 (cx _) with⟨_,no⟩ | ⟨i,r,aJ,iY,Hb⟩
 ·obtain⟨i,aB⟩:=List.getElem?_of_mem hc
  exact absurd ((StrLaws.subAt_one y c i).mpr aB) (no i)
 ·have e:=Yc ((StrLaws.subAt_one y c i).mp iY) fun k hk z=>Hb k hk ((StrLaws.subAt_one y c k).mpr z)
  rw[e] at q
  exact call_gives F.slot_str_index (typeIs_str s y t) F.entry_str_index (F.args_str_index_2 _ _) (gives_str_index y ⟨#[c]⟩ t t' i r aJ) ⟨.int _,H,aa.tok _,⟨_,I⟩,q⟩
end
theorem WV{e:ao}{env Mq:Env}(h:env.frame=Mq.frame):noteFrame e env=noteFrame e Mq:=by
 unfold noteFrame PySem.frameOf
 rw[h]
theorem LF{h h' base:aX}:∀ {l:List Env},h.FunFrames base l->(∀ b o,b∈l.filterMap (·.frame)->h.get? b=J o->(∀ vs,o.data≠.fields vs)->h'.get? b=J o)->h'.FunFrames base l
 | [],_,_=>trivial
 | env::rest,aC,k=>by
  obtain⟨hk,⟨L,o,aE,bc,aJ,hd⟩,az⟩:=aC
  have hm:L∈(env::rest).filterMap (·.frame):=by rw[List.filterMap_cons,aE];exact hz
  refine⟨hk,⟨L,o,aE,bc,k L o hm aJ hd,hd⟩,LF az fun b o aq=>k b o ?_⟩
  rw[List.filterMap_cons,aE]
  exact fk _ aq
section
variable {M:Model} {A:da} {E:ao->aI->Prop} {s:aI} {base:aX} {env:Env} {outer:List Env} {L e T:ae} {Q:Unit->aI->Prop} {cls:ao} {d:Option ae} {dq:ao}
theorem adZ(l8:A.frames=J (env::outer))(aC:s.heap.FunFrames base (env::outer))(aE:env.frame=J L)(aW:kc s.heap e cls d T dq)
  (h:∀ h' dw,kc h' e cls d dw (rawInt L)->(dw=T\/s.heap.get? dw=aw)->h'.FunFrames base (env::outer)->uZ ((env::outer).filterMap (·.frame)) e (J T) s.heap h'->Q () {s with heap:=h'}):bE M A (noteFrame (.ref e) env) Q E s:=by
 by_cases z:dq=rawInt L
 ·subst z
  obtain⟨ec,vs,jE,i7,he,hc,hE,hd,aj,lA,b9,h0,bB,jD⟩:=id aW
  exact wpAny_noteFrame_inFlight aE he hd aj b9 h0 bB (h s.heap T aW (.inl I) aC ⟨fun b o _ _ _ e=>e,fun b o _ _ e=>⟨o.slots,e⟩⟩)
 obtain⟨ec,vs,jE,i7,he,hc,hE,hd,aj,lA,b9,h0,bB,jD⟩:=aW
 unfold noteFrame
 simp only[aE]
 refine bC (iM he hd aj ?_)
 rw[if_pos (show (ao.ref T != ao.none)=ag from by simp)]
 refine bC (iM b9 h0 bB ?_)
 rw[if_neg (show ¬((dq == rawInt L)=ag) from fun y=>z (beq_iff_eq.mp y))]
 refine bC (rZ b9 h0 (Array.getElem?_eq_some_iff.mp bB).1 ?_)
 have other:∀ b,b≠T->(s.heap.update T (bo.mapFields (·.setIfInBounds 3 ao.none))).get? b=s.heap.get? b:=fun b aq=>aX.get?_update_other _ _ (d2 aq)
 have tH:∀ b o,s.heap.get? b=J o->(∀ vs,o.data≠.fields vs)->b≠T:=fun b o aq jk q=>by
  rw[q,b9] at aq;injection aq with aq;subst aq;exact jk i7 h0
 have back:∀ b,(s.heap.update T (bo.mapFields (·.setIfInBounds 3 ao.none))).get? b=aw->s.heap.get? b=aw:=fun b aq=>by
  by_cases P8:b=T
  ·subst P8
   rw[aX.get?_update_self _ b9 (bo.isFreed_of_fields (bo.data_mapFields h0 _))] at aq;cases aq
  ·rw[other b P8] at aq;exact aq
 subst hc
 refine FZ (s:={s with heap:=s.heap.update T (bo.mapFields (·.setIfInBounds 3 ao.none))}) l8 (aC.of_keeps fun b o aq jk=>⟨o,(other b (tH b o aq jk)).trans aq,I⟩) aE ((other e (d2 lA)).trans he) hd (Array.getElem?_eq_some_iff.mp aj).1 hE fun h' dw hg gv kX jI=>?_
 exact h h' dw hg (.inr (back _ gv)) kX ⟨fun b o aj ar bB b0=>jI.keep b o aj (by simp) bB ((other b (fun z=>ar (by rw[z]))).trans b0),fun b o aj ar b0=>jI.slot b o aj (by simp) ((other b (fun z=>ar (by rw[z]))).trans b0)⟩
end
structure Jq(fs Z:List ae)(h h':aX):Prop where
 keep:∀ b o,b∉Z->b∉fs->h.get? b=J o->h'.get? b=J o
 slot:∀ b o,b∉Z->h.get? b=J o->∃ c8,h'.get? b=J {o with slots:=c8}
theorem RH{X:bp}{ak:List (ae×bo)}{ab:St}{H1:au}{s1:aI}{h':aX}{Z:List ae}(aa:Inv X ak ab H1 s1)(ay:X.ex=[])(S:Jq (iy X.stack) Z s1.heap h')
  (B5:∀ z,z∈Z->X.de.heap.get? z=aw) (Bh:∀ z,z∈Z->H1 z=aw):fB (iy X.outer) [] X.g4 H1 X.de.heap h'/\fh X.prog X.w H1 h':=by
 have B:=aa.base
 rw[ay] at B
 have HD:∀ b o,X.de.heap.get? b=J o->b∉Z:=fun b o e z=>by rw[B5 b z] at e;cases e
 have rz:∀ b o,X.de.heap.get? b=J o->b≠X.env.locals:=fun b o e=>fj (fi (dX e) aa.ok.above)
 refine⟨⟨fun b o e n aq ay=>?_,fun b o e n aq ay=>?_,B.free,fun b o e ay=>?_,B.lL,B.kM,B.lK⟩,fun b u e=>(aa.aR b u e).mn (fun c v hc q=>?_) (fun _ q=>q) fun _ _ q=>q⟩
 ·refine S.keep b o (HD b o e) (fun z=>?_) (B.keep b o e n aq ay)
  exact(dn.mp (aa.rL b z)).elim (rz b o e) aq
 ·obtain⟨c8,aG⟩:=B.slot b o e n aq ay
  obtain⟨kU,aL⟩:=S.slot b _ (HD b o e) aG
  exact⟨kU,aL⟩
 ·obtain⟨d0,aG⟩:=B.there b o e ay
  obtain⟨kU,aL⟩:=S.slot b _ (HD b o e) aG
  exact⟨_,aL⟩
 ·have p5:∃ z,H1 c=J z:=by
   rcases hc with rfl | hc
   ·exact⟨_,e⟩
   ·exact⟨_,hc⟩
  obtain⟨z,bI⟩:=p5
  refine S.keep c v (fun y=>?_) (fun y=>?_) q
  ·rw[Bh c y] at bI;cases bI
  ·rw[aa.yU c y] at bI;cases bI
noncomputable def BW(X:bp)(E:bP):ao->aI->Prop:=fun e aF=>bE (model X.prog X.w) X.A (leaving X.env e) (fun _ oe=>fv X.prog X.w X.outer X.g4 X.de E e oe) (fun e' oe=>fv X.prog X.w X.outer X.g4 X.de E e' oe) aF
theorem Wy{X:bp}{E:bP}{use:Option (ao->Sem Unit)}{Qf:ao->aI->Prop}{acc:ao}{xF:Env}{ak:List (ae×bo)}{ab:St}{ax:au}{gu:aI}{a C T Cl:ae}{d:Option ae}
  (yl:X.xe=BW X E) (hs:X.stack=X.env::X.outer) (aE:X.env.frame=J X.env.locals) (hex:X.ex=[]) (aa:Inv X ak ab ax gu) (kL:kc gu.heap a (.ref C) d T .none) (fa:ax a=aw) (jC:ax T=aw)
  (iK:X.de.heap.get? a=aw) (h3:X.de.heap.get? T=aw) (q:E (.ref C) d ax) (hY:ax Cl=aw) (yv:X.de.heap.get? Cl=aw) (aan:Cl∉iy X.stack) (aax:∃ m,gu.heap.Ns Cl m) (GN:xF.frame=X.env.frame) :
  notedBy (model X.prog X.w) X.A xF (fun e aF=>compPost (model X.prog X.w) X.A X.xe use Qf acc Cl (.error e) aF) (.ref a) gu:=by
 unfold notedBy
 rw[WV GN]
 have fr:X.A.frames=J (X.env::X.outer):=aa.ok.frames.trans (congrArg J hs)
 have fst:gu.heap.FunFrames X.base (X.env::X.outer):=hs ▸ aa.stack
 have Mp:iy X.stack=(X.env::X.outer).filterMap (·.frame):=by rw[hs];rfl
 have ML:Cl∉(X.env::X.outer).filterMap (·.frame):=by rw[<- Mp];exact aan
 refine HJ fr fst aE kL fun te dw hg gv kX jI=>?_
 suffices x2:∃ m,te.Ns Cl m/\∀ h',aX.SameBut Cl te h'->∀ xF:Env,xF.locals=Cl->bE (model X.prog X.w) X.A (PySem.passOn "comprehension.variables-let-go" (.ref a) xF:Sem ao) (fun _ _=>False) X.xe {gu with heap:=h'} by
  cases use<;>exact x2
 obtain⟨m,yy,aV,fV,x9,M8,agd⟩:=aax
 have HG:∀ {h:aX} {b:ae} {o:bo} {vs:Array ao},h.get? b=J o->o.data = .fields vs->h.get? Cl=J yy->b≠Cl:=fun aG aL dE z=>by
  subst z
  rw[aG] at dE;cases dE
  rw[M8] at aL;cases aL
 have Bk:Cl≠a:=by
  obtain⟨ec,vs,jE,i7,he,hc,hE,hd,_⟩:=kL
  exact(HG he hd x9).symm
 have aal:Cl≠T:=by
  obtain⟨ec,vs,jE,i7,he,hc,hE,hd,aj,lA,b9,h0,_⟩:=kL
  exact(HG b9 h0 x9).symm
 have tJ:te.get? Cl=J yy:=jI.keep Cl yy Bk (fun z=>aal (gN z)) ML x9
 refine⟨m,⟨yy,aV,fV,tJ,M8,agd⟩,fun h' m4 Mj _=>?_⟩
 obtain⟨ec,vs,jE,i7,he,hc,hE,hd,aj,lA,b9,h0,bB,jD⟩:=id hg
 have aam:dw≠Cl:=HG b9 h0 tJ
 have tk:h'.get? a=J ec:=m4.extBut a ec (d2 Bk) he
 have vL:h'.get? dw=J jE:=m4.extBut _ _ aam b9
 have yg:3<i7.size:=(Array.getElem?_eq_some_iff.mp bB).1
 have step:bE (model X.prog X.w) X.A (setFlight (.ref a) Mj.frame) (fun _ m5=>X.xe (.ref a) m5) X.xe {gu with heap:=h'}:=by
  unfold setFlight
  refine bC (iM tk hd aj ?_)
  rw[if_pos (show (ao.ref dw != ao.none)=ag from by simp)]
  refine rZ vL h0 yg ?_
  generalize aa0:(Mj.frame.elim ao.none fun f=>rawInt f)=dq
  have other:∀ b,b≠dw->(h'.update dw (bo.mapFields (·.setIfInBounds 3 dq))).get? b=h'.get? b:=fun b aq=>aX.get?_update_other _ _ (d2 aq)
  have MD:kc (h'.update dw (bo.mapFields (·.setIfInBounds 3 dq))) a (.ref C) d dw dq:=⟨ec,vs,_,_,(other a (d2 lA)).trans tk,hc,hE,hd,aj,lA,aX.get?_update_self _ vL (bo.isFreed_of_fields (bo.data_mapFields h0 _)),bo.data_mapFields h0 _,by simp[yg],jD⟩
  have BV:∀ b o,b≠Cl->b≠dw->te.get? b=J o->(h'.update dw (bo.mapFields (·.setIfInBounds 3 dq))).get? b=J o:=fun b o gp fC e=>(other b fC).trans (m4.extBut b o gp e)
  have MB:(h'.update dw (bo.mapFields (·.setIfInBounds 3 dq))).FunFrames X.base (X.env::X.outer):=LF kX fun b o aq e jk=>BV b o (fun z=>ML (z ▸ aq)) (fun z=>by
   rw[z,b9] at e;cases e;exact jk i7 h0) e
  generalize (h'.update dw (bo.mapFields (·.setIfInBounds 3 dq)))=Go at MD MB BV ⊢
  rw[yl]
  unfold BW leaving
  refine bC (adZ (s:={gu with heap:=Go}) fr MB aE MD fun nU lU j8 i8 nd P2=>?_)
  refine yr (s:={gu with heap:=nU}) nd j8 fun aaj di dj hh=>?_
  have oZ:∀ b o,gu.heap.get? b=J o->b≠dw:=fun b o e z=>by rw[z,gv] at e;cases e
  have PL:∀ b o,b∉[a,T,Cl]->gu.heap.get? b=J o->∃ c8,Go.get? b=J {o with slots:=c8}:=fun b o aq e=>by
   simp only[dn,List.not_mem_nil,or_false,not_or] at aq
   obtain⟨c8,FV⟩:=jI.slot b o aq.1 (fun z=>aq.2.1 (gN z)) e
   exact⟨c8,BV b _ aq.2.2 (oZ b o e) FV⟩
  have HA:∀ b o,b∉[a,T,Cl]->gu.heap.get? b=J o->b≠lU:=fun b o aq e z=>by
   rcases i8 with y | y
   ·exact oZ b o e (z.trans y)
   ·obtain⟨c8,Ba⟩:=PL b o aq e
    have aie:Go.get? lU=aw:=y
    rw[z,aie] at Ba;cases Ba
  have S:Jq (iy X.stack) [a,T,Cl] gu.heap aaj:=by
   refine⟨fun b o aq p1 e=>?_,fun b o aq e=>?_⟩
   ·have iZ:=aq
    simp only[dn,List.not_mem_nil,or_false,not_or] at iZ
    rw[Mp] at p1
    refine hh b o (HA b o aq e) (P2.keep b o iZ.1 (fun z=>oZ b o e (gN z)) p1 ?_)
    exact BV b o iZ.2.2 (oZ b o e) (jI.keep b o iZ.1 (fun z=>iZ.2.1 (gN z)) p1 e)
   ·have iZ:=aq
    simp only[dn,List.not_mem_nil,or_false,not_or] at iZ
    obtain⟨c8,Ba⟩:=PL b o aq e
    obtain⟨kU,Y0⟩:=P2.slot b _ iZ.1 (fun z=>oZ b o e (gN z)) Ba
    exact⟨kU,hh b _ (HA b o aq e) Y0⟩
  have B5:∀ z,z∈[a,T,Cl]->X.de.heap.get? z=aw:=fun z bI=>by
   simp only[dn,List.not_mem_nil,or_false] at bI
   rcases bI with rfl | rfl | rfl
   ·exact iK
   ·exact h3
   ·exact yv
  have Bh:∀ z,z∈[a,T,Cl]->ax z=aw:=fun z bI=>by
   simp only[dn,List.not_mem_nil,or_false] at bI
   rcases bI with rfl | rfl | rfl
   ·exact fa
   ·exact jC
   ·exact hY
  obtain⟨u,hk⟩:=RH aa hex S B5 Bh
  have NT:lU∉[a,T,Cl]->gu.heap.get? lU=aw:=fun bI=>by
   cases e:gu.heap.get? lU with
   | none=>rfl
   | some o=>exact absurd I (HA lU o bI e)
  have f2:ax lU=aw:=by
   by_cases bI:lU∈[a,T,Cl]
   ·exact Bh _ bI
   ·exact aa.aR.none (NT bI)
  have dO:X.de.heap.get? lU=aw:=by
   by_cases bI:lU∈[a,T,Cl]
   ·exact B5 _ bI
   ·cases e:X.de.heap.get? lU with
    | none=>rfl
    | some o =>
     obtain⟨d0,e'⟩:=aa.base.there lU o e (by rw[hex];simp)
     rw[NT bI] at e';cases e'
  exact⟨a,C,d,ax,lU,I,aa.os,aa.bare,u,hk,di,fa,f2,iK,dO,q⟩
 unfold PySem.passOn
 refine bC (iM tk hd aj ?_)
 rw[if_neg (show ¬((ao.ref dw == ao.none)=ag) from by simp)]
 exact bC (cz step fun _ m5 h=>wpAny_throw h)
noncomputable def YN(Y:bp)(E:bP):ao->aI->Prop:=fun e aF=>∃ (ak:List (ae×bo)) (b8:St) (H1:au) (s1:aI),Inv Y ak b8 H1 s1/\fv Y.prog Y.w Y.stack H1 s1 E e aF
noncomputable def lp(X:bp)(E:bP)(cI:Scope)(cl:List (af×ae))(C:ae)(N:List af)(s2:aI)(ax:au)(bH:List ae):bp:=(FR X cI cl C N s2 ax bH).na (YN (FR X cI cl C N s2 ax bH) E)
theorem VC{X:bp}{E:bP}{cI:Scope}{cl:List (af×ae)}{C:ae}{N:List af}{s2:aI}{ax:au}{bH:List ae}:uW (fv X.prog X.w) (lp X E cI cl C N s2 ax bH) fun _=>E :=
 fun ak ab H s e aF aa h=>⟨ak,ab,H,s,aa.lN,h⟩
section
variable {X:bp} {elt hQ iter:b2} {ifs:List b2} {cI:Scope} {aO p:Pos} {eP:List (Nat×af)} {fN:List af} {hO:dW} {g:gK} {fM:gL} {cn:TE}
set_option maxHeartbeats 1000000
theorem Eu{E:bP}{use:Option (ao->Sem Unit)}{Qf:ao->aI->Prop}{ak:List (ae×bo)}{ab:St}{H:au}{s:aI}{Q:bx}
  (Ny:(X.xe=BW X E/\X.stack=X.env::X.outer/\X.env.frame=J X.env.locals/\X.ex=[])\/∀ c d H,¬E c d H) (hc:X.calm=ag) (rk:xH cI (eP.map (·.2))=ag) (p3:qv X eP) (aB:iO X hQ iter hO)
  (aK:∀ cl C s2 ax bH,oy (lp X E cI cl C (fN++eP.map (·.2)) s2 ax bH) hQ g)
  (aW:∀ cl C s2 ax bH,sx (lp X E cI cl C (fN++eP.map (·.2)) s2 ax bH) ifs fM)
  (he:∀ cl C s2 ax bH,bW (lp X E cI cl C (fN++eP.map (·.2)) s2 ax bH) elt cn)
  (aa:Inv X ak ab H s) (h:Ct hO g fM cn (nN fN eP) ab H Q)
  (cF:∀ D C H' aF,Inv X ak ab H' aF->Q (.ref D) H'->H' C=aw->C≠X.env.locals->X.de.heap.objs.size<=C->(∀ x c,X.env.cells.lookup x=J c->c≠C)->(∀ p∈X.pn++ak,p.1≠C)->(∃ m,aF.heap.Ns C m)->
   compPost (model X.prog X.w) X.A X.xe use Qf (.ref D) C (.ok .next) aF)
  (hs:∀ x,foldedSetIterable iter X.env x=pure x:=by intro _;rfl) :
  bE (model X.prog X.w) X.A (comprehension (.ListComp elt [⟨hQ,iter,ifs,0⟩] cI aO) cI X.env p (newList []) ah (eval iter X.env) use) Qf X.xe s:=by
 simp only[xH,h7,iD,beq_iff_eq,bne_iff_ne,Bool.or_eq_true,List.contains_iff_mem] at rk
 obtain⟨⟨⟨⟨gE,e1⟩,h1⟩,tB⟩,j4⟩:=rk
 have abw:∀ y∈cI.names,y.2 = .local->cI.names.lookup y.1=J .local:=fun y bM aC=>(h1 y bM).resolve_left fun z=>z aC
 have Mc:=p3.at
 have l8:∀ y∈cI.names,y.2 = .free->∃ c,X.env.cells.lookup y.1=J c:=fun y bM aE=>by
  have hm:=(tB y bM).resolve_left fun z=>z aE
  obtain⟨q,aU,e⟩:=List.mem_map.mp hm
  have:=(Mc q aU).2
  rw[e] at this
  exact aa.ok.has _ this
 obtain⟨cl,p4,iJ,hZ,_⟩:=Ew cI.names l8 [] (fun x c e=>by cases e)
 have aaM:closureFor cI X.env=pure cl:=by
  refine(show closureFor cI X.env=(_ >>= pure) from rfl).trans ((congrArg (· >>= pure) p4).trans ?_)
  rfl
 refine wpAny_comprehension_free (use:=use) I hs aaM gE abw (cz (aB ak s ab H _ aa h) fun v s1 aj=>cz aj fun Hp s2 ar=>?_)
 obtain⟨it,bH,cH,dD,ax,e,bA,T,jH,f2,oQ⟩:=ar
 subst e
 have iW:ax s2.heap.objs.size=aw:=bA.fresh
 obtain⟨W,⟨m0,jn⟩,turn⟩:=oQ _ iW
 refine wpAny_newObj_type (wpAny_newFunctionEnv e1 (by intro y bM;simp at bM) (fun hr Hc BM=>?_) gE)
 dsimp only at Hc BM ⊢
 generalize Gv:s2.heap.push {cls := .type "list",dict:=aw,data := .seq ([]:List ao).toArray}=bt at Hc BM ⊢
 have hY:bt.objs.size=s2.heap.objs.size+1:=by rw[<- Gv,aX.size_push]
 have MN:s2.heap.objs.size≠bt.objs.size:=by rw[hY];exact fj (Nat.lt_succ_self _)
 have Bl:s2.heap.objs.size<=bt.objs.size:=by rw[hY];exact Nat.le_succ _
 have below:∀ b,b<s2.heap.objs.size->b≠bt.objs.size:=fun b aq=>by rw[hY];exact fj (Nat.lt_succ_of_lt aq)
 have old:∀ b o,s2.heap.get? b=J o->hr.get? b=J o:=fun b o e=>BM.extBut b o (below b (dX e)) (d7 _ (Gv ▸ d7 _ e))
 have aaE:hr.get? s2.heap.objs.size=J {cls := .type "list",dict:=aw,data := .seq ([]:List ao).toArray}:=BM.extBut _ _ MN (d7 _ (Gv ▸ gU _ rfl))
 have ZD:ax bt.objs.size=aw:=bA.aR.fresh Bl
 have F4:∀ b∈bH,b<s2.heap.objs.size:=fun b aq=>by
  obtain⟨o,aJ,_⟩:=T.obj _ _ jH b aq
  exact dX aJ
 let lX:=lp X E cI cl bt.objs.size (fN++eP.map (·.2)) s2 ax bH
 have aec:lX.Ok:=by
  refine⟨bA.ok.mod,gE,bA.ok.glob,bA.ok.blt,Bl,fun x y c ay bM=>bA.ok.inj x y c (iJ _ _ ay) (iJ _ _ bM),fun x ay=>?_,(fun x c aE=>nomatch aE),bA.ok.hd,bA.ok.frames,.inl I,fun b aq=>⟨below b (F4 b aq),fun x c ay=>(f2 b aq).2.2.2.2.1 x c (iJ _ _ ay)⟩,bA.bs,
   ey bA.ok.nL bA.c0,fun b o e aq=>?_,fun b aq z=>?_,bA.stack,bA.yU⟩
  ·exact hZ (x,.free) (Dm (Ka ay e1)) I
  ·rcases(f2 b aq).2.2.2.1 with z | z
   ·exact bA.ok.tI b o e z
   ·exact absurd (fi (dX e) bA.ok.nL) (Nat.not_lt.mpr z)
  ·rcases dn.mp (bA.rL b z) with q | q
   ·exact(f2 b aq).2.1 q
   ·exact(f2 b aq).2.2.1 q
 have ahJ:fB (iy X.stack) bH ax (upd ax s2.heap.objs.size (.lst [])) s2.heap hr:=fB.laid old (cx _) iW
 have abG:fh X.prog X.w (upd ax s2.heap.objs.size (.lst [])) hr:=bA.aR.laid old (cx _) ⟨UF _,[],0,.nil,aaE⟩
 have ow:∀ cf,Inv lX [] (nN fN eP ab) (upd ax s2.heap.objs.size (.lst [])) {s2 with heap:=hr,toks:=cf}:=fun cf=>by
  refine⟨aec,I,bA.bare,ahJ,⟨_,Hc,fun i x v aG aL dE=>?_⟩,fun x c ay=>?_,?_,fun x c ay=>?_,fun q aU=>?_,abG,?_⟩
  ·
   obtain⟨lF,_,i1⟩:=bA.loc
   have i2:fN.length<=i:=by
    rcases jx i fN.length with z | z
    ·have:(nN fN eP ab)[i]?=J aw:=by
      unfold nN
      rw[List.getElem?_append_left (by simpa using z),List.getElem?_replicate,if_pos z]
     rw[this] at aL
     cases aL
    ·exact z
   have xI:(fN++eP.map (·.2))[i]?=J x:=aG
   rw[List.getElem?_append_right i2,fT] at xI
   have FU:(eP.map fun p=>(ab[p.1]?).join)[i - fN.length]?=J (J v):=by
    have:(nN fN eP ab)[i]?=(eP.map fun p=>(ab[p.1]?).join)[i - fN.length]?:=by
     unfold nN
     rw[List.getElem?_append_right (by simpa using i2),List.length_replicate]
    rw[<- this]
    exact aL
   rw[fT] at FU
   cases aU:eP[i - fN.length]? with
   | none=>rw[aU] at xI;cases xI
   | some q =>
    rw[aU] at xI FU
    obtain rfl:q.2=x:=gN xI
    have Bb:(ab[q.1]?).join=J v:=gN FU
    have hq:ab[q.1]?=J (J v):=by
     cases z:ab[q.1]? with
     | none=>rw[z] at Bb;cases Bb
     | some y=>rw[z] at Bb;exact congrArg J Bb
    have Nq:q∈eP:=jy aU
    obtain⟨eT,dO⟩:=Mc q Nq
    have ab8:zR X.env.scope q.2:=by
     rcases dO with z | z
     ·exact .inr (.inl z)
     ·exact .inr (.inr z)
    obtain⟨u,gG,oW⟩:=i1 q.1 q.2 v eT hq ab8
    have xZ:cI.names.lookup q.2=J .free:=j4 q.2 (List.mem_map_of_mem Nq)
    refine⟨u,gG,.inr ⟨J9 xZ,?_⟩⟩
    rcases oW with⟨z,_⟩ | ⟨_,c,Bw,ik,BI,He⟩
    ·rcases dO with y | y<;>(rw[y] at z;cases z)
    ·obtain⟨ia,oR⟩:=hZ (q.2,.free) (Dm xZ) rfl
     have:=iJ _ _ oR
     rw[Bw] at this
     cases this
     exact⟨c,oR,ik,old _ _ BI,He⟩
  ·obtain⟨v,o,aJ,hd⟩:=bA.cell x c (iJ _ _ ay)
   exact⟨v,o,old _ _ aJ,hd⟩
  ·show upd ax s2.heap.objs.size (.lst []) bt.objs.size=aw
   rw[bJ (d2 MN)]
   exact ZD
  ·have GN:=bA.jY x c (iJ _ _ ay)
   obtain⟨v,o,aJ,hd⟩:=bA.cell x c (iJ _ _ ay)
   rw[bJ (fj (dX aJ))]
   exact GN
  ·have:q∈([]:List (ae×bo)):=aU
   cases this
  ·show (nN fN eP ab).length=(fN++eP.map (·.2)).length
   simp[nN]
 have t7:∀ {pins':List (ae×bo)} {H':au},(∀ b∈bH,H' b=aw)->(∀ q∈pins',q.1∉bH)->∀ b∈bH,pw lX pins' H' b:=fun bc bh b aq =>
  ⟨bc b aq,below b (F4 b aq),fun z=>by
   rcases dn.mp (bA.rL b z) with q | q
   ·exact(f2 b aq).2.1 q
   ·exact(f2 b aq).2.2.1 q,.inl aq,fun x c ay=>(f2 b aq).2.2.2.2.1 x c (iJ _ _ ay),fun q aU z=>bh q aU (z ▸ aq)⟩
 have HH:∀ q∈([]:List (ae×bo)),q.1∉bH:=fun _ z=>nomatch z
 have PK:cH 0 hr:=T.keep _ _ _ jH fun b aq o e=>old b o e
 have ZH:∀ b∈bH,(upd ax s2.heap.objs.size (.lst [])) b=aw:=fun b aq=>by
  rw[bJ (fj (F4 b aq))]
  exact(f2 b aq).1
 have err:∀ e gu,lX.xe e gu->notedBy (model X.prog X.w) X.A (compEnvC cI cl bt.objs.size X.env) (fun e aF=>compPost (model X.prog X.w) X.A X.xe use Qf (.ref s2.heap.objs.size) bt.objs.size (.error e) aF) e gu:=by
  rintro e gu ⟨aep,b8,H1,s1,aS,a,C,d,Jd,dw,rfl,os,bare,un,aR,kL,fa,jC,iK,h3,q⟩
  obtain⟨yl,j1,aa2,hex⟩:=Ny.resolve_right fun z=>z _ _ _ q
  have qC:Inv (FR X cI cl bt.objs.size (fN++eP.map (·.2)) s2 ax bH) aep b8 Jd gu:=aS.xE (ch:=[]) os un aR bare (fun b z=>absurd z (by simp))
  have QZ:Inv X ak ab Jd gu:=bA.xE qC.os qC.base qC.aR qC.bare fun b aq=>⟨(f2 b aq).2.2.2.1,(f2 b aq).2.1,(f2 b aq).2.2.2.2.1,(f2 b aq).2.2.2.2.2⟩
  have N4:∀ b,s1.heap.get? b=aw->X.de.heap.get? b=aw:=fun b aq=>by
   cases z:X.de.heap.get? b with
   | none=>rfl
   | some o =>
    obtain⟨d0,e'⟩:=bA.base.there b o z (by rw[hex];simp)
    have adU:b∉bH:=fun hm=>by
     rcases(f2 b hm).2.2.2.1 with y | y
     ·rw[hex] at y;cases y
     ·exact absurd (dX z) (Nat.not_lt.mpr y)
    obtain⟨ajQ,Mn⟩:=aS.base.there b d0 e' adU
    rw[aq] at Mn;cases Mn
  refine Wy yl j1 aa2 hex QZ kL fa jC (N4 a iK) (N4 dw h3) q qC.free ?_ ?_ ?_ I
  ·exact aX.get?_none_of_le (ey bA.c0 Bl)
  ·intro hm
   obtain⟨_,o,aJ,_⟩:=bA.stack.mem hm
   exact below _ (dX aJ) I
  ·obtain⟨m,hm,_⟩:=qC.loc
   exact⟨m,hm⟩
 have loop:∀ rM:aI,rM={s2 with heap:=hr,toks:=s2.toks+([]:List (af×ao)).length}->
   kA (model X.prog X.w) X.A (.compLoop (.ListComp elt [⟨hQ,iter,ifs,0⟩] cI aO) 0 (.ref it) (.ref s2.heap.objs.size) (compEnvC cI cl bt.objs.size X.env))
    (compPost (model X.prog X.w) X.A X.xe use Qf (.ref s2.heap.objs.size) bt.objs.size) rM:=by
  rintro rM rfl
  refine Vo (fun n aF=>∃ i bQ H',Inv lX [] bQ H' aF/\cH i aF.heap/\(∀ b∈bH,H' b=aw)/\W i n bQ H') ?_ m0 ⟨0,_,_,ow _,PK,ZH,jn⟩
  rintro n hL ⟨i,kx,zg,iq,lJ,xN,mq⟩
  rcases turn i n kx zg mq with⟨stop,tZ⟩ | ⟨go,step⟩
  ·refine cz (T.done lX I I I hc i [] hL kx zg _ iq (t7 xN HH) lJ stop) fun r qm bD=>?_
   obtain⟨az,uB⟩:=bD
   subst az
   have un:=uB.base
   refine cF _ _ zg qm (bA.xE uB.os un uB.aR uB.bare fun b aq=>?_) tZ uB.free ?_ (ey bA.c0 Bl) ?_ ?_ ?_
   ·exact⟨(f2 b aq).2.2.2.1,(f2 b aq).2.1,(f2 b aq).2.2.2.2.1,(f2 b aq).2.2.2.2.2⟩
   ·exact d2 (below _ bA.lt)
   ·intro x c ay
    obtain⟨v,o,aJ,hd⟩:=bA.cell x c ay
    exact below c (dX aJ)
   ·intro q aU
    obtain⟨e,_⟩:=bA.pin q aU
    exact below _ (dX e)
   ·obtain⟨m,hm,_⟩:=uB.loc
    exact⟨m,hm⟩
  ·refine cz (T.item lX I I I hc i [] hL kx zg _ iq (t7 xN HH) lJ go) fun r qm bD=>?_
   obtain⟨u,az,b0⟩:=bD
   subst az
   refine cz b0 fun _ wi bD=>?_
   obtain⟨x,fg,nr,t2,IT,kv,F5⟩:=bD
   have C8:=nr.pinned (t7 F5 HH) (T.obj _ _ kv)
   refine ja (aK _ _ _ _ _ _ wi kx fg x u _ C8 t2 (step x fg IT)) (fun _ t4 bD=>?_) fun e gu z=>err e gu z
   obtain⟨wF,e3,nt,rE⟩:=bD
   have again:∀ {ky:St} {ip:au} {o2:aI} {b1:Nat},Inv lX ([]++yE bH wi.heap) ky ip o2->b1<n->W (i+1) b1 ky ip->∃ m,m<n/\∃ i bQ H',Inv lX [] bQ H' o2/\cH i o2.heap/\(∀ b∈bH,H' b=aw)/\W i m bQ H':=fun {ky ip o2 b1} jt hm yY=>by
    refine⟨b1,hm,i+1,ky,ip,jt.CC,T.keep _ _ _ kv fun b aq o e=>(jt.pin (b,o) (mC _ (mC _ (An aq e)))).1,fun b aq=>?_,yY⟩
    obtain⟨o,e,d⟩:=T.obj _ _ kv b aq
    exact(jt.pin (b,o) (mC _ (mC _ (An aq e)))).2.1
   refine ja (aW _ _ _ _ _ _ t4 wF e3 _ nt rE) (fun ok o2 bD=>?_) fun e gu z=>err e gu z
   obtain⟨ip,jt,mj⟩:=bD
   cases ok with
   | false =>
    obtain⟨b1,hm,yY⟩:=mj
    exact again jt hm yY
   | true =>
    refine ja (he _ _ _ _ _ _ o2 wF ip _ jt mj) (fun aif gu bD=>?_) fun e gu z=>err e gu z
    obtain⟨y,mz,qC,agb,HS⟩:=bD
    obtain⟨xs,b1,dB,bI,hm,ahL⟩:=HS
    refine ja (sl (X:=lX) _ gu wF mz (.ref s2.heap.objs.size) [y] (.ref s2.heap.objs.size) [aif] (fun _ C7=>W (i+1) b1 wF C7) qC I (.cons agb .nil) ⟨_,xs,y,I,I,dB,bI,ahL⟩) (fun _ ajU bD=>?_) fun e gu z=>err e gu z
    obtain⟨_,C7,QX,_,HT⟩:=bD
    exact again QX hm HT
 exact codeAny_compStart_list (loop _ I) (T.self _ 0 _ _ _ PK (loop _ I))
theorem XR{E:bP}{g:uk gK}{fM:uk gL}{cn:uk TE}(fN:List af)(eP:List (Nat×af))(yl:X.xe=BW X E)(hc:X.calm=ag)(rk:xH cI (eP.map (·.2))=ag)(p3:qv X eP)(aB:iO X hQ iter hO)
  (aK:∀ cl C s2 ax bH,oy (lp X E cI cl C (fN++eP.map (·.2)) s2 ax bH) hQ (g cl C s2 ax bH))
  (aW:∀ cl C s2 ax bH,sx (lp X E cI cl C (fN++eP.map (·.2)) s2 ax bH) ifs (fM cl C s2 ax bH))
  (he:∀ cl C s2 ax bH,bW (lp X E cI cl C (fN++eP.map (·.2)) s2 ax bH) elt (cn cl C s2 ax bH))
  (l5:∀ cl C s2 ax bH,g cl C s2 ax bH=g [] 0 X.de X.g4 []:=by intros;rfl) (oJ:∀ cl C s2 ax bH,fM cl C s2 ax bH=fM [] 0 X.de X.g4 []:=by intros;rfl) (mJ:∀ cl C s2 ax bH,cn cl C s2 ax bH=cn [] 0 X.de X.g4 []:=by intros;rfl)
  (j1:X.stack=X.env::X.outer:=by rfl) (l8:X.env.frame=J X.env.locals:=by rfl) (hex:X.ex=[]:=by rfl)
  (hs:∀ x,foldedSetIterable iter X.env x=pure x:=by intro _;rfl) :
  bW X (.ListComp elt [⟨hQ,iter,ifs,0⟩] cI aO) (Ct hO (g [] 0 X.de X.g4 []) (fM [] 0 X.de X.g4 []) (cn [] 0 X.de X.g4 []) (nN fN eP)):=by
 intro ak s ab H Q aa h
 rw[eval_ListComp]
 refine Eu (use:=aw) (.inl ⟨yl,j1,l8,hex⟩) hc rk p3 aB (fun cl C s2 ax bH=>l5 cl C s2 ax bH ▸ aK cl C s2 ax bH) (fun cl C s2 ax bH=>oJ cl C s2 ax bH ▸ aW cl C s2 ax bH) (fun cl C s2 ax bH=>mJ cl C s2 ax bH ▸ he cl C s2 ax bH) aa h (fun D C H' aF gS q hY aj ar bB b0 bD=>?_) hs
 obtain⟨m,hm⟩:=bD
 refine⟨m,hm,fun h' ye=>?_⟩
 exact⟨.ref D,H',gS.turned (t':=aF.toks) (fun b o aq e=>ye.extBut b o aq e) hY aj (.inr ar) bB b0,I,q⟩
end
theorem Wi{P:cX}{w:cu}{K:bO}{mg:af->Option ao}{base:aX}{C:ae}{m dy:af}{st:bj}{ps:List af}{k:Nat}{sp:b5}(M:MethAt K C m dy st ps)(h:∀ vs H Q E,¬sp vs H Q E):jb P w K mg base k C m ps sp:=by
 obtain⟨f,fd,F,aq,hm⟩:=M.ex
 exact⟨f,fd,⟨fun vs H Q E q=>absurd q (h _ _ _ _),fun A outer s H args us vs Q E _ _ _ _ q=>absurd q (h _ _ _ _)⟩,aq,hm⟩
end dg
end
section
namespace dg
open PySem PySem.W PySem.Spec PyProof.Rows PySem.SeqAt
mutual
noncomputable def eY:D->Nat
 | .bL=>1
 | .aH _=>1
 | .int _=>1
 | .str _=>1
 | .tup ds=>fI ds+1
 | .lst ds=>fI ds+1
noncomputable def fI:List D->Nat
 | []=>0
 | d::ds=>max (eY d) (fI ds)
end
theorem Sm(d:D):1<=eY d:=by cases d<;>rw[eY]<;>omega
section
variable {X:bp} {ak:List (ae×bo)} {ab:St} {H:au} {s:aI} {A:da} {a1 a2:ae} {ai1 ai2:List D} {CD o8:List V}
end
end dg
end
section
namespace dg
open PySem PySem.W PySem.Spec PyProof.Rows
structure gc where
 has:ae->Prop
noncomputable instance:Membership ae gc:=⟨fun X a=>X.has a⟩
noncomputable def gc.qW(l:ae)(X:gc):gc:=⟨fun a=>a=l\/a∈X⟩
theorem gc.hd{l:ae}{X:gc}:l∈gc.qW l X := .inl rfl
theorem gc.dr{a l:ae}{X:gc}(h:a∈X):a∈gc.qW l X := .inr h
noncomputable def gc.of(H:au):gc:=⟨fun a=>∃ o,H a=J o⟩
mutual
noncomputable def dK{α:Type}[Membership ae α](X:α)(H:au):D->V->Prop
 | .bL,v=>v = .bL
 | .aH b,v=>v = .aH b
 | .int i,v=>v = .int i
 | .str s,v=>v = .str s/\s.length<=100000
 | .tup ds,v=>∃ a vs,v = .ref a/\a∉X/\H a=J (.tup vs)/\c5 X H ds vs/\vs.length<=1000
 | .lst ds,v=>∃ a vs,v = .ref a/\a∉X/\H a=J (.lst vs)/\c5 X H ds vs/\vs.length<=1000
noncomputable def c5{α:Type}[Membership ae α](X:α)(H:au):List D->List V->Prop
 | [],vs=>vs=[]
 | d::ds,vs=>∃ v r,vs=v::r/\dK X H d v/\c5 X H ds r
end
mutual
theorem dK.at{α:Type}[Membership ae α]{X:α}{H:au}:∀ (d:D) {v:V},dK X H d v->fP H d v
 | .bL,v,h=>h
 | .aH b,v,h=>h
 | .int i,v,h=>h
 | .str t,v,h=>h
 | .tup ds,v,h=>by
  obtain⟨a,vs,e,n,gO,q,z⟩:=h
  exact⟨a,vs,e,gO,c5.at ds q,z⟩
 | .lst ds,v,h=>by
  obtain⟨a,vs,e,n,gO,q,z⟩:=h
  exact⟨a,vs,e,gO,c5.at ds q,z⟩
theorem c5.at{α:Type}[Membership ae α]{X:α}{H:au}:∀ (ds:List D) {vs:List V},c5 X H ds vs->ff H ds vs
 | [],vs,h=>h
 | d::ds,vs,h=>by
  obtain⟨v,r,e,q,cE⟩:=h
  exact⟨v,r,e,dK.at d q,c5.at ds cE⟩
end
mutual
theorem dK.keep{α:Type}[Membership ae α]{X:α}{H H':au}(s:∀ b u,b∉X->H b=J u->H' b=J u):∀ (d:D) {v:V},dK X H d v->dK X H' d v
 | .bL,v,h=>h
 | .aH b,v,h=>h
 | .int i,v,h=>h
 | .str t,v,h=>h
 | .tup ds,v,h=>by
  obtain⟨a,vs,e,n,gO,q,z⟩:=h
  exact⟨a,vs,e,n,s _ _ n gO,c5.keep s ds q,z⟩
 | .lst ds,v,h=>by
  obtain⟨a,vs,e,n,gO,q,z⟩:=h
  exact⟨a,vs,e,n,s _ _ n gO,c5.keep s ds q,z⟩
theorem c5.keep{α:Type}[Membership ae α]{X:α}{H H':au}(s:∀ b u,b∉X->H b=J u->H' b=J u):∀ (ds:List D) {vs:List V},c5 X H ds vs->c5 X H' ds vs
 | [],vs,h=>h
 | d::ds,vs,h=>by
  obtain⟨v,r,e,q,cE⟩:=h
  exact⟨v,r,e,dK.keep s d q,c5.keep s ds cE⟩
end
mutual
theorem dK.add{X:List ae}{H:au}{l:ae}(aC:H l=aw):∀ (d:D) {v:V},dK X H d v->dK (l::X) H d v
 | .bL,v,h=>h
 | .aH b,v,h=>h
 | .int i,v,h=>h
 | .str t,v,h=>h
 | .tup ds,v,h=>by
  obtain⟨a,vs,e,n,gO,q,z⟩:=h
  exact⟨a,vs,e,fun y=>(dn.mp y).elim (fun y=>by rw[y,aC] at gO;cases gO) n,gO,c5.add aC ds q,z⟩
 | .lst ds,v,h=>by
  obtain⟨a,vs,e,n,gO,q,z⟩:=h
  exact⟨a,vs,e,fun y=>(dn.mp y).elim (fun y=>by rw[y,aC] at gO;cases gO) n,gO,c5.add aC ds q,z⟩
theorem c5.add{X:List ae}{H:au}{l:ae}(aC:H l=aw):∀ (ds:List D) {vs:List V},c5 X H ds vs->c5 (l::X) H ds vs
 | [],vs,h=>h
 | d::ds,vs,h=>by
  obtain⟨v,r,e,q,cE⟩:=h
  exact⟨v,r,e,dK.add aC d q,c5.add aC ds cE⟩
end
mutual
theorem dK.weak{α:Type}[Membership ae α]{X Y:α}{H:au}(hs:∀ x,x∈X->x∈Y):∀ (d:D) {v:V},dK Y H d v->dK X H d v
 | .bL,v,h=>h
 | .aH b,v,h=>h
 | .int i,v,h=>h
 | .str t,v,h=>h
 | .tup ds,v,h=>by
  obtain⟨a,vs,e,n,gO,q,z⟩:=h
  exact⟨a,vs,e,fun y=>n (hs _ y),gO,c5.weak hs ds q,z⟩
 | .lst ds,v,h=>by
  obtain⟨a,vs,e,n,gO,q,z⟩:=h
  exact⟨a,vs,e,fun y=>n (hs _ y),gO,c5.weak hs ds q,z⟩
theorem c5.weak{α:Type}[Membership ae α]{X Y:α}{H:au}(hs:∀ x,x∈X->x∈Y):∀ (ds:List D) {vs:List V},c5 Y H ds vs->c5 X H ds vs
 | [],vs,h=>h
 | d::ds,vs,h=>by
  obtain⟨v,r,e,q,cE⟩:=h
  exact⟨v,r,e,dK.weak hs d q,c5.weak hs ds cE⟩
end
theorem dK.same{α:Type}[Membership ae α]{X:α}{H H':au}(s:er H H'){d:D}{v:V}(h:dK X H d v):dK X H' d v:=dK.keep (fun b u _ e=>s b u e) d h
theorem c5.same{α:Type}[Membership ae α]{X:α}{H H':au}(s:er H H'){ds:List D}{vs:List V}(h:c5 X H ds vs):c5 X H' ds vs:=c5.keep (fun b u _ e=>s b u e) ds h
theorem c5.snoc{α:Type}[Membership ae α]{X:α}{H:au}{d:D}{v:V}(hd:dK X H d v):∀ (ds:List D) {vs:List V},c5 X H ds vs->c5 X H (ds++[d]) (vs++[v])
 | [],vs,h=>by
  obtain rfl:vs=[]:=h
  exact⟨v,[],I,hd,I⟩
 | e::ds,vs,h=>by
  obtain⟨w,r,rfl,q,cE⟩:=h
  exact⟨w,r++[v],I,q,c5.snoc hd ds cE⟩
end dg
end
section
namespace gf
open PySem dg
inductive R (α:Type) where
 | ok (a:α) (s:List Bool)
 | no (w:Bool) (k:Nat)
 | st
noncomputable def R.bd{α β:Type}:R α->(α->List Bool->R β)->R β
 | .ok a s,f=>f a s
 | .no w k,_ => .no w k
 | .st,_ => .st
noncomputable def R.cH{α:Type}:R α->R α
 | .ok a s => .ok a (s.map (!·))
 | .no w k => .no w k
 | .st => .st
noncomputable def eQ(e u:Bool):List Bool->R Bool
 | b::s => .ok b s
 | []=>if e=ag then .ok u [] else .no ah 0
noncomputable def g9(e:Bool):Nat->Nat->List Bool->R Nat
 | 0,n,s => .ok n s
 | w+1,n,s=>(eQ e ah s).bd fun b s=>g9 e w (2*n+b.toNat) s
noncomputable def jW(e:Bool):Nat->Bool->Nat->List Bool->R Nat
 | 0,_,a,s => .ok a s
 | m+1,u,a,s=>(eQ e u s).bd fun b s=>if b=ag then jW e m ah (a+1) s else .ok a s
noncomputable def e7(e u:Bool)(s:List Bool):R Nat:=(jW e 7 u 0 s).bd fun a s=>(g9 e a 1 s).bd fun g s=>(g9 e (g - 1) 1 s).bd fun m s => .ok (m - 1) s
noncomputable def l3(e:Bool)(s:List Bool):R Int:=(eQ e ah s).bd fun b s=>if b=ag then (e7 e ah s).bd fun n s => .ok ((n:Nat):Int) s else ((e7 e ah (s.map (!·))).bd fun n s => .ok (-1 - ((n:Nat):Int)) s).cH
noncomputable def gi(e:Bool)(m:Nat):Nat->Nat->List Bool->R Nat
 | 0,n,s => .ok n s
 | k+1,n,s=>(eQ e ah s).bd fun b s=>if m/2 ^ k<2*n+b.toNat then .no ag s.length else gi e m k (2*n+b.toNat) s
noncomputable def eA(e:Bool):Nat->Bool->List Int->List Bool->R (List Int)
 | 0,_,_,_ => .st
 | m+1,u,a,s=>(eQ e u s).bd fun b s=>if b=ag then ((e7 e ag (s.map (!·))).bd fun n s=>eA e m (n == 0) (a++[((n:Nat):Int)+1]) s).cH else .ok a s
noncomputable def nO(N:Nat)(e:Bool)(s:List Bool):R (List Int):=(l3 e s).bd fun a s=>(eA e N ah [a] s).bd fun st s=>if hX st=ag then .ok st s else .no ag s.length
theorem nn(s:List Bool):(s.map (!·)).map (!·)=s:=by
 rw[ir]
 have:((fun x:Bool=>!x) ∘ fun x=>!x)=id:=by funext x;cases x<;>rfl
 rw[this,List.map_id]
theorem eF{α β:Type}{r:R α}{f:α->List Bool->R β}{b:β}{s:List Bool}(h:r.bd f = .ok b s):∃ a aF,r = .ok a aF/\f a aF = .ok b s:=by
 cases r with
 | ok a aF=>exact⟨a,aF,I,h⟩
 | no w k=>cases h
 | st=>cases h
theorem sT{α:Type}{r:R α}{a:α}{s:List Bool}(h:r.cH = .ok a s):r = .ok a (s.map (!·)):=by
 cases r with
 | ok b aF =>
  injection h with aj ar
  rw[aj,<- ar,nn]
 | no w k=>cases h
 | st=>cases h
structure cb{α:Type}(F:List Bool->R α):Prop where
 ok:∀ s z a r,F s = .ok a r->F (s++z) = .ok a (r++z)
 wr:∀ s z k,F s = .no ag k->F (s++z) = .no ag (k+z.length)
 st:∀ s z,F s = .st->F (s++z) = .st
theorem cb.pure{α:Type}(a:α):cb (fun s=>R.ok a s):=⟨fun s z b r h=>by injection h with aj ar;rw[aj,ar],fun s z k h=>(nomatch h),fun s z h=>(nomatch h)⟩
theorem cb.rU{α:Type}:cb (fun s=>(R.no ag s.length:R α)):=⟨fun s z b r h=>(nomatch h),fun s z k h=>by injection h with _ ar;show R.no ag (s++z).length=_;rw[dI,ar],fun s z h=>(nomatch h)⟩
theorem cb.stuck{α:Type}:cb (fun _=>(R.st:R α)):=⟨fun s z b r h=>(nomatch h),fun s z k h=>(nomatch h),fun s z h=>rfl⟩
theorem cb.ite{α:Type}{c:Prop}[Decidable c]{F G:List Bool->R α}(b6:cb F)(hG:cb G):cb (fun s=>if c then F s else G s):=by
 by_cases h:c
 ·simp only[if_pos h];exact b6
 ·simp only[if_neg h];exact hG
theorem cb.bd{α β:Type}{F:List Bool->R α}{G:α->List Bool->R β}(b6:cb F)(hG:∀ a,cb (G a)):cb (fun s=>(F s).bd G):=by
 refine⟨fun s z b r h=>?_,fun s z k h=>?_,fun s z h=>?_⟩
 ·obtain⟨a,aF,aj,ar⟩:=eF h
  show (F (s++z)).bd G=_
  rw[b6.ok s z a aF aj]
  exact(hG a).ok _ _ _ _ ar
 ·cases aj:F s with
  | ok a aF =>
   have h:(F s).bd G=_:=h
   rw[aj] at h
   show (F (s++z)).bd G=_
   rw[b6.ok s z a aF aj]
   exact(hG a).wr _ _ _ h
  | no w eD =>
   have h:(F s).bd G=_:=h
   rw[aj] at h
   injection h with aG aL
   subst aG
   show (F (s++z)).bd G=_
   rw[b6.wr s z eD aj,<- aL];rfl
  | st =>
   have h:(F s).bd G=_:=h
   rw[aj] at h;cases h
 ·cases aj:F s with
  | ok a aF =>
   have h:(F s).bd G=_:=h
   rw[aj] at h
   show (F (s++z)).bd G=_
   rw[b6.ok s z a aF aj]
   exact(hG a).st _ _ h
  | no w eD =>
   have h:(F s).bd G=_:=h
   rw[aj] at h;cases h
  | st =>
   show (F (s++z)).bd G=_
   rw[b6.st s z aj];rfl
theorem cb.cH{α:Type}{F:List Bool->R α}(b6:cb F):cb (fun s=>(F (s.map (!·))).cH):=by
 refine⟨fun s z b r h=>?_,fun s z k h=>?_,fun s z h=>?_⟩
 ·have:=b6.ok _ (z.map (!·)) _ _ (sT h)
  show (F ((s++z).map _)).cH=_
  rw[fz,this]
  show R.ok b _=_
  rw[fz,nn,nn]
 ·have h:(F (s.map (!·))).cH=_:=h
  cases aj:F (s.map (!·)) with
  | no w eD =>
   rw[aj] at h
   injection h with aG aL
   subst aG
   show (F ((s++z).map _)).cH=_
   rw[fz,b6.wr _ _ _ aj,cM,<- aL];rfl
  | ok a aF=>rw[aj] at h;cases h
  | st=>rw[aj] at h;cases h
 ·have h:(F (s.map (!·))).cH=_:=h
  cases aj:F (s.map (!·)) with
  | st =>
   show (F ((s++z).map _)).cH=_
   rw[fz,b6.st _ _ aj];rfl
  | ok a aF=>rw[aj] at h;cases h
  | no w k=>rw[aj] at h;cases h
theorem cb.of{α:Type}{F G:List Bool->R α}(h:cb G)(e:∀ s,F s=G s):cb F:=by
 have:F=G:=funext e
 rw[this];exact h
theorem lZ(u:Bool):cb (eQ ah u):=⟨fun s z a r h=>by
 cases s with
 | nil=>cases h
 | cons b s=>injection h with aj ar;rw[<- aj,<- ar];rfl,(fun s z k h=>by cases s<;>cases h),(fun s z h=>by cases s<;>cases h)⟩
theorem xr:∀ w n,cb (g9 ah w n)
 | 0,n=>cb.pure n
 | w+1,n=>(lZ ah).bd fun b=>xr w _
theorem FC:∀ m u a,cb (jW ah m u a)
 | 0,u,a=>cb.pure a
 | m+1,u,a=>(lZ u).bd fun b=>cb.ite (FC m ah _) (cb.pure a)
theorem sO(u:Bool):cb (e7 ah u):=(FC 7 u 0).bd fun a=>(xr a 1).bd fun g=>(xr (g - 1) 1).bd fun m=>cb.pure (m - 1)
theorem A7:cb (l3 ah):=(lZ ah).bd fun b=>cb.ite ((sO ah).bd fun n=>cb.pure _) (cb.cH (F:=fun s=>(e7 ah ah s).bd fun n s => .ok (-1 - ((n:Nat):Int)) s) ((sO ah).bd fun n=>cb.pure _))
theorem sN(m:Nat):∀ k n,cb (gi ah m k n)
 | 0,n=>cb.pure n
 | k+1,n=>(lZ ah).bd fun b=>cb.ite cb.rU (sN m k _)
theorem JA:∀ m u a,cb (eA ah m u a)
 | 0,u,a=>cb.stuck
 | m+1,u,a=>(lZ u).bd fun b=>cb.ite (cb.cH (F:=fun s=>(e7 ah ag s).bd fun n s=>eA ah m (n == 0) (a++[((n:Nat):Int)+1]) s) ((sO ag).bd fun n=>JA m _ _)) (cb.pure a)
theorem Lo(N:Nat):cb (nO N ah):=A7.bd fun a=>(JA N ah [a]).bd fun st=>cb.ite (cb.pure st) cb.rU
theorem cb.cut{α:Type}{F:List Bool->R α}(b6:cb F){s y:List Bool}{a:α}(h:F (s++y) = .ok a [])(bM:y≠[]):∃ k,F s = .no ah k:=by
 cases aj:F s with
 | ok b r =>
  have:=b6.ok s y b r aj
  rw[h] at this
  injection this with _ ar
  exact absurd (List.append_eq_nil_iff.mp ar.symm).2 bM
 | no w k =>
  cases w with
  | false=>exact⟨k,I⟩
  | true =>
   have:=b6.wr s y k aj
   rw[h] at this;cases this
 | st =>
  have:=b6.st s y aj
  rw[h] at this;cases this
theorem oH{u b:Bool}{s r:List Bool}(h:eQ ah u s = .ok b r):s=b::r:=by
 cases s with
 | nil=>cases h
 | cons c s=>injection h with aj ar;rw[aj,ar]
theorem FA:∀ {w n v:Nat} {s r:List Bool},g9 ah w n s = .ok v r->∃ x,x.length=w/\s=x++r/\v=mm n x
 | 0,n,v,s,r,h=>by
  injection h with aj ar
  exact⟨[],I,ar,aj.symm⟩
 | w+1,n,v,s,r,h=>by
  obtain⟨b,aF,aj,ar⟩:=eF h
  obtain⟨x,ay,hs,bl⟩:=FA ar
  exact⟨b::x,by rw[ed,ay],by rw[oH aj,hs];rfl,bl⟩
theorem JP:∀ {m a k:Nat} {u:Bool} {s r:List Bool},jW ah m u a s = .ok k r->a<=k/\k<=a+m/\s=List.replicate (k - a) ag++((if k=a+m then [] else [ah])++r)
 | 0,a,k,u,s,r,h=>by
  injection h with aj ar
  subst aj ar
  refine⟨cx _,cx _,?_⟩
  rw[Nat.sub_self,if_pos (Nat.add_zero _).symm];rfl
 | m+1,a,k,u,s,r,h=>by
  obtain⟨b,aF,aj,ar⟩:=eF h
  rw[oH aj]
  cases b with
  | true =>
   obtain⟨ea,eg,n6⟩:=JP (show jW ah m ah (a+1) aF = .ok k r from ar)
   refine⟨by omega,by omega,?_⟩
   rw[n6,show k - a=(k - (a+1))+1 by omega,List.replicate_succ,show a+1+m=a+(m+1) by omega];rfl
  | false =>
   injection ar with aG aL
   subst aG aL
   refine⟨cx _,by omega,?_⟩
   rw[Nat.sub_self,if_neg (by omega)];rfl
theorem AW{u:Bool}{n:Nat}{s r:List Bool}(h:e7 ah u s = .ok n r):n+1<2 ^ 255/\s=cnt n++r:=by
 obtain⟨a,s1,aj,h⟩:=eF h
 obtain⟨g,s2,ar,h⟩:=eF h
 obtain⟨m,hL,bB,h⟩:=eF h
 injection h with aG aL
 obtain⟨_,a7,c7⟩:=JP aj
 obtain⟨x,ay,ex,l5⟩:=FA ar
 obtain⟨y,bM,ZC,em⟩:=FA bB
 obtain⟨g1,g2,g3⟩:=Lw x 1 (by decide)
 obtain⟨fJ,lF,BZ⟩:=Lw y 1 (by decide)
 rw[<- l5,Lu,ay] at g1
 rw[<- em,Lu,bM] at fJ
 rw[<- l5,ay] at g2
 rw[<- em,bM] at lF
 rw[<- em] at BZ
 have ajl:g≠0:=by rw[l5];exact g3
 have gP:n+1=m:=by omega
 have bm:aZ m=g:=by omega
 have ai6:g<=255:=by
  have:=qS g
  rw[g1] at this
  have:(2:Nat) ^ (1+a)<=2 ^ 8:=Nat.pow_le_pow_right (by decide) (by omega)
  omega
 refine⟨?_,?_⟩
 ·rw[gP]
  refine fi (qS m) (Nat.pow_le_pow_right (by decide) (by omega))
 ·unfold cnt
  rw[gP,bm,g1,show 1+a - 1=a by omega,g2,lF,c7,ex,ZC,<- aL]
  have pP:jU (1+a)=if a=0+7 then [] else [ah]:=by
   unfold jU
   by_cases z:a=7
   ·rw[if_pos (by omega),if_pos (by omega)]
   ·rw[if_neg (by omega),if_neg (by omega)]
  rw[pP]
  simp only[Nat.sub_zero,fA]
theorem JL{n:Int}{s r:List Bool}(h:l3 ah s = .ok n r):(-(2 ^ 255)<n/\n<2 ^ 255 - 1)/\s=iB n++r:=by
 obtain⟨b,s1,aj,h⟩:=eF h
 rw[oH aj]
 cases b with
 | true =>
  obtain⟨k,s2,ar,h⟩:=eF (show (e7 ah ah s1).bd _=_ from h)
  injection h with aG aL
  obtain⟨gp,fC⟩:=AW ar
  subst aG aL
  refine⟨by omega,?_⟩
  unfold iB
  rw[if_neg (by omega),fC,Int.toNat_natCast];rfl
 | false =>
  obtain⟨k,s2,ar,h⟩:=eF (sT (show R.cH _=_ from h))
  injection h with aG aL
  obtain⟨gp,fC⟩:=AW ar
  subst aG
  refine⟨by omega,?_⟩
  unfold iB
  have:=congrArg (List.map (!·)) fC
  rw[nn,fz,aL,nn] at this
  rw[if_pos (by omega),this,show (-1 - (-1 - (k:Int))).toNat=k by omega];rfl
theorem AV{m:Nat}:∀ {k n v:Nat} {s r:List Bool},n<=m/2 ^ k->gi ah m k n s = .ok v r->v<=m/\v/2 ^ k=n/\s=d4 v k++r
 | 0,n,v,s,r,bc,h=>by
  injection h with aj ar
  subst aj ar
  rw[Nat.pow_zero,Nat.div_one] at bc ⊢
  exact⟨bc,I,I⟩
 | k+1,n,v,s,r,bc,h=>by
  obtain⟨b,aF,aj,ar⟩:=eF h
  rw[oH aj]
  by_cases c:m/2 ^ k<2*n+b.toNat
  ·have ar:(if m/2 ^ k<2*n+b.toNat then R.no ag aF.length else gi ah m k (2*n+b.toNat) aF) = .ok v r:=ar
   rw[if_pos c] at ar;cases ar
  ·have ar:(if m/2 ^ k<2*n+b.toNat then R.no ag aF.length else gi ah m k (2*n+b.toNat) aF) = .ok v r:=ar
   rw[if_neg c] at ar
   obtain⟨ea,eg,n6⟩:=AV (by omega) ar
   refine⟨ea,?_,?_⟩
   ·rw[Nat.pow_succ,<- Nat.div_div_eq_div_mul,eg]
    cases b
    ·show (2*n+0)/2=n;omega
    ·show (2*n+1)/2=n;omega
   ·rw[d4,n6,Nat.testBit,Nat.shiftRight_eq_div_pow,eg]
    cases b
    ·have:((1 &&& (2*n+ah.toNat)) != 0)=ah:=by
      rw[Nat.one_and_eq_mod_two];show ((2*n+0)%2 != 0)=ah;rw[show (2*n+0)%2=0 by omega];rfl
     rw[this];rfl
    ·have:((1 &&& (2*n+ag.toNat)) != 0)=ag:=by
      rw[Nat.one_and_eq_mod_two];show ((2*n+1)%2 != 0)=ag;rw[show (2*n+1)%2=1 by omega];rfl
     rw[this];rfl
def uC(x:List Int):Prop:=∀ y∈x,1<=y/\(y - 1).toNat+1<2 ^ 255
theorem JN:∀ {m:Nat} {u:Bool} {a st:List Int} {s r:List Bool},eA ah m u a s = .ok st r->∃ x,st=a++x/\s=more x++r/\uC x/\x.length<m
 | 0,u,a,st,s,r,h=>(nomatch h)
 | m+1,u,a,st,s,r,h=>by
  obtain⟨b,s1,aj,h⟩:=eF h
  rw[oH aj]
  cases b with
  | true =>
   obtain⟨n,s2,ar,h⟩:=eF (sT (show R.cH _=_ from h))
   obtain⟨gp,fC⟩:=AW ar
   obtain⟨x,aG,aL,dE,eJ⟩:=JN h
   have:=congrArg (List.map (!·)) fC
   rw[nn,aL] at this
   refine⟨(((n:Nat):Int)+1)::x,by rw[aG,fA];rfl,?_,?_,by rw[ed];omega⟩
   ·rw[more,this,show ((n:Nat):Int)+1 - 1=((n:Nat):Int) by omega,Int.toNat_natCast]
    simp only[fz,fA,List.cons_append,nn]
   ·intro y bM
    rcases dn.mp bM with rfl | z
    ·exact⟨by omega,by omega⟩
    ·exact dE y z
  | false =>
   injection h with aG aL
   exact⟨[],by rw[List.append_nil,aG],by rw[aL];rfl,fun y bM=>(nomatch bM),by rw[List.length_nil];omega⟩
theorem Sn{N:Nat}{st:List Int}{s r:List Bool}(h:nO N ah s = .ok st r):Good st/\st.length<=N/\s=lx st++r/\(∀ y∈st.take 1,-(2 ^ 255)<y/\y<2 ^ 255 - 1)/\uC (st.drop 1):=by
 obtain⟨a,s1,aj,h⟩:=eF h
 obtain⟨x,s2,ar,h⟩:=eF h
 obtain⟨gp,fC⟩:=JL aj
 obtain⟨y,aG,aL,dE,eJ⟩:=JN ar
 by_cases c:hX x=ag
 ·have h:(if hX x=ag then R.ok x s2 else .no ag s2.length)=_:=h
  rw[if_pos c] at h
  injection h with ea eg
  subst ea eg aG
  refine⟨(u7 _).mp c,by rw[dI];show 1+_<=_;omega,?_,fun z bI=>?_,dE⟩
  ·rw[fC,aL,<- fA];rfl
  ·rw[fy.mp bI];exact gp
 ·have h:(if hX x=ag then R.ok x s2 else .no ag s2.length)=_:=h
  rw[if_neg c] at h
  cases h
theorem L6{e:Bool}:∀ (x:List Bool) (n:Nat) (r:List Bool),g9 e x.length n (x++r) = .ok (mm n x) r
 | [],n,r=>rfl
 | b::x,n,r=>L6 x _ r
theorem LK{e:Bool}{x:List Bool}{w:Nat}(h:x.length=w)(n:Nat)(r:List Bool):g9 e w n (x++r) = .ok (mm n x) r:=by rw[<- h];exact L6 x n r
theorem JQ{e:Bool}:∀ (k m a:Nat) (u:Bool) (r:List Bool),k<=m->jW e m u a (List.replicate k ag++((if k=m then [] else [ah])++r)) = .ok (a+k) r
 | 0,0,a,u,r,_=>rfl
 | 0,m+1,a,u,r,_=>rfl
 | k+1,0,a,u,r,h=>absurd h (by omega)
 | k+1,m+1,a,u,r,h=>by
  have:=JQ (e:=e) k m (a+1) ah r (by omega)
  rw[List.replicate_succ]
  show jW e m ah (a+1) (List.replicate k ag++_)=_
  have pP:(if k+1=m+1 then ([]:List Bool) else [ah])=if k=m then [] else [ah]:=by
   by_cases z:k=m
   ·rw[if_pos z,if_pos (by omega)]
   ·rw[if_neg z,if_neg (by omega)]
  rw[pP,this,show a+1+k=a+(k+1) by omega]
theorem AX{e u:Bool}{n:Nat}(h:n+1<2 ^ 255)(r:List Bool):e7 e u (cnt n++r) = .ok n r:=by
 have hd:aZ (n+1)<=255:=hn h
 have bh:0<aZ (n+1):=pB (by omega)
 have he:aZ (aZ (n+1))<=8:=hn (by omega)
 have aU:0<aZ (aZ (n+1)):=pB (by omega)
 unfold e7 cnt
 have pP:jU (aZ (aZ (n+1)))=if aZ (aZ (n+1)) - 1=7 then [] else [ah]:=by
  unfold jU
  by_cases z:aZ (aZ (n+1))=8
  ·rw[if_pos z,if_pos (by omega)]
  ·rw[if_neg z,if_neg (by omega)]
 rw[pP]
 simp only[fA]
 rw[JQ _ 7 0 u _ (by omega)]
 show (g9 e (0+(aZ (aZ (n+1)) - 1)) 1 _).bd _=_
 rw[Nat.zero_add,LK (kF _ _),LW (by omega)]
 show (g9 e (aZ (n+1) - 1) 1 _).bd _=_
 rw[LK (kF _ _),LW (by omega)]
 rfl
theorem JM{e:Bool}{n:Int}(h : -(2 ^ 255)<n/\n<2 ^ 255 - 1)(r:List Bool):l3 e (iB n++r) = .ok n r:=by
 unfold iB
 by_cases c:n<0
 ·rw[if_pos c]
  show ((e7 e ah (((cnt (-1 - n).toNat).map (!·)++r).map (!·))).bd _).cH=_
  rw[fz,nn,AX (by omega)]
  show R.ok _ _=_
  rw[nn,show -1 - (((-1 - n).toNat:Nat):Int)=n by omega]
 ·rw[if_neg c]
  show (e7 e ah (cnt n.toNat++r)).bd _=_
  rw[AX (by omega)]
  show R.ok _ _=_
  rw[show ((n.toNat:Nat):Int)=n by omega]
theorem JB{e:Bool}{m v:Nat}(bl:v<=m):∀ (k:Nat) (r:List Bool),gi e m k (v/2 ^ k) (d4 v k++r) = .ok v r
 | 0,r=>by
  show R.ok _ _=_
  rw[Nat.pow_zero,Nat.div_one];rfl
 | k+1,r=>by
  rw[d4]
  show (if m/2 ^ k<2*(v/2 ^ (k+1))+(v.testBit k).toNat then R.no ag _ else gi e m k (2*(v/2 ^ (k+1))+(v.testBit k).toNat) _)=_
  have aG:2*(v/2 ^ (k+1))+(v.testBit k).toNat=v/2 ^ k:=by
   rw[Nat.testBit_eq_decide_div_mod_eq,Nat.pow_succ,<- Nat.div_div_eq_div_mul]
   generalize v/2 ^ k=q
   by_cases z:q%2=1
   ·simp[z];omega
   ·simp[z];omega
  rw[aG,if_neg (Nat.not_lt.mpr (Nat.div_le_div_right bl))]
  exact JB bl k r
theorem JO{e:Bool}:∀ (x:List Int) (m:Nat) (u:Bool) (a:List Int) (r:List Bool),x.length<m->uC x->eA e m u a (more x++r) = .ok (a++x) r
 | x,0,u,a,r,h,_=>absurd h (by omega)
 | [],m+1,u,a,r,_,_=>by
  show R.ok a r=_
  rw[List.append_nil]
 | y::x,m+1,u,a,r,h,aB=>by
  obtain⟨aj,ar⟩:=aB y (hz ..)
  rw[more]
  show ((e7 e ag (((cnt (y - 1).toNat++more x).map (!·)++r).map (!·))).bd _).cH=_
  rw[fz,nn,fA,AX ar]
  show (eA e m _ (a++[(((y - 1).toNat:Nat):Int)+1]) (more x++r.map (!·))).cH=_
  rw[JO x m _ _ _ (by rw[ed] at h;omega) (fun z bI=>aB z (fk _ bI)),show (((y - 1).toNat:Nat):Int)+1=y by omega]
  show R.ok _ _=_
  rw[nn,fA];rfl
theorem So{e:Bool}{N:Nat}{st:List Int}(aK:Good st)(aC:st.length<=N)(aj:∀ y∈st.take 1,-(2 ^ 255)<y/\y<2 ^ 255 - 1)(ar:uC (st.drop 1))(r:List Bool):nO N e (lx st++r) = .ok st r:=by
 obtain⟨a,x,rfl⟩:=List.exists_cons_of_ne_nil aK.ne
 unfold nO
 rw[lx,fA,JM (aj a (fy.mpr rfl))]
 show (eA e N ah [a] _).bd _=_
 rw[JO x N ah [a] r (by rw[ed] at aC;omega) ar]
 show (if hX (a::x)=ag then R.ok _ _ else _)=_
 rw[if_pos ((u7 _).mpr aK)];rfl
structure c3{α:Type}(B:Nat)(fx:List Bool->R α)(d6:Bool->List Bool->R α):Prop where
 ok:∀ s a r,fx s = .ok a r->∀ e,d6 e s = .ok a r
 wr:∀ s k,fx s = .no ag k->∀ e,d6 e s = .no ag k
 lI:∀ s k,fx s = .no ah k->∃ a y,d6 ag s = .ok a []/\d6 ah (s++y) = .ok a []/\y.length<=B
def gT{α:Type}(F:List Bool->R α):Prop:=F [] = .no ah 0\/∃ a,F [] = .ok a []
theorem gT.bd{α β:Type}{F:List Bool->R α}{G:α->List Bool->R β}(h:gT F)(k:∀ a,F [] = .ok a []->gT (G a)):gT fun s=>(F s).bd G:=by
 rcases h with h | ⟨a,h⟩
 ·exact .inl (by show (F []).bd G=_;rw[h];rfl)
 ·have:=k a h
  unfold gT
  dsimp only
  rw[h];exact this
theorem c3.le{α:Type}{B B':Nat}{fx:List Bool->R α}{d6:Bool->List Bool->R α}(h:c3 B fx d6)(aq:B<=B'):c3 B' fx d6:=⟨h.ok,h.wr,fun s k q=>by
 obtain⟨a,y,aj,ar,bB⟩:=h.lI s k q
 exact⟨a,y,aj,ar,by omega⟩⟩
theorem c3.pure{α:Type}(a:α):c3 0 (fun s=>R.ok a s) (fun _ s=>R.ok a s):=⟨fun s b r h e=>h,fun s k h=>(nomatch h),fun s k h=>(nomatch h)⟩
theorem c3.rU{α:Type}:c3 0 (fun s=>(R.no ag s.length:R α)) (fun _ s=>R.no ag s.length):=⟨fun s b r h e=>h,fun s k h e=>h,fun s k h=>(nomatch h)⟩
theorem c3.ite{α:Type}{B:Nat}{c:Prop}[Decidable c]{fx G0:List Bool->R α}{d6 G1:Bool->List Bool->R α}(b6:c->c3 B fx d6)(hG:¬c->c3 B G0 G1):c3 B (fun s=>if c then fx s else G0 s) (fun e s=>if c then d6 e s else G1 e s):=by
 by_cases h:c
 ·simp only[if_pos h];exact b6 h
 ·simp only[if_neg h];exact hG h
theorem c3.FL{α β:Type}{Pa:α->Prop}{B B' wK:Nat}{fx:List Bool->R α}{d6:Bool->List Bool->R α}{G0:α->List Bool->R β}{G1:α->Bool->List Bool->R β}(b6:c3 B fx d6)(mP:cb (d6 ah))(ck:∀ e a s r,d6 e s = .ok a r->Pa a)(jh:∀ a,Pa a->c3 B' (G0 a) (G1 a))(hG:∀ a,Pa a->gT (G0 a))(gp:∀ a k,Pa a->G0 a [] = .no ah k->∃ b y,G1 a ag [] = .ok b []/\G1 a ah y = .ok b []/\B+y.length<=wK)(fC:B'<=wK)(oG:B<=wK):c3 wK (fun s=>(fx s).bd G0) (fun e s=>(d6 e s).bd fun a s=>G1 a e s):=by
 refine⟨fun s b r h e=>?_,fun s k h e=>?_,fun s k h=>?_⟩
 ·obtain⟨a,aF,aj,ar⟩:=eF h
  have f:=b6.ok s a aF aj
  show (d6 e s).bd _=_
  rw[f e]
  exact(jh a (ck _ _ _ _ (f e))).ok _ _ _ ar e
 ·have h:(fx s).bd G0=_:=h
  show (d6 e s).bd _=_
  cases aj:fx s with
  | ok a aF =>
   rw[aj] at h
   have f:=b6.ok s a aF aj
   rw[f e]
   exact(jh a (ck _ _ _ _ (f e))).wr _ _ h e
  | no w eD =>
   rw[aj] at h
   injection h with aG aL
   subst aG aL
   rw[b6.wr s eD aj e];rfl
  | st=>rw[aj] at h;cases h
 ·have h:(fx s).bd G0=_:=h
  cases aj:fx s with
  | ok a aF =>
   rw[aj] at h
   have f:=b6.ok s a aF aj
   obtain⟨b,y,g1,g2,g3⟩:=(jh a (ck _ _ _ _ (f ag))).lI _ _ h
   refine⟨b,y,?_,?_,by omega⟩
   ·show (d6 ag s).bd _=_
    rw[f ag];exact g1
   ·show (d6 ah (s++y)).bd _=_
    rw[mP.ok _ y _ _ (f ah)];exact g2
  | no w eD =>
   rw[aj] at h
   injection h with aG aL
   subst aG
   obtain⟨a,y,f1,f2,ha⟩:=b6.lI s eD aj
   have m2:=ck _ _ _ _ f1
   obtain⟨b,z,g1,g2,g3⟩:∃ b z,G1 a ag [] = .ok b []/\G1 a ah z = .ok b []/\B+z.length<=wK:=by
    rcases hG a m2 with n | ⟨b,n⟩
    ·exact gp a _ m2 n
    ·exact⟨b,[],(jh a m2).ok _ _ _ n ag,(jh a m2).ok _ _ _ n ah,by simpa using oG⟩
   refine⟨b,y++z,?_,?_,by rw[dI];omega⟩
   ·show (d6 ag s).bd _=_
    rw[f1];exact g1
   ·show (d6 ah (s++(y++z))).bd _=_
    rw[<- fA,mP.ok _ z _ _ f2];exact g2
  | st=>rw[aj] at h;cases h
theorem c3.bd{α β:Type}{Pa:α->Prop}{B B':Nat}{fx:List Bool->R α}{d6:Bool->List Bool->R α}{G0:α->List Bool->R β}{G1:α->Bool->List Bool->R β}(b6:c3 B fx d6)(mP:cb (d6 ah))(ck:∀ e a s r,d6 e s = .ok a r->Pa a)(jh:∀ a,Pa a->c3 B' (G0 a) (G1 a))(hG:∀ a,Pa a->gT (G0 a)):c3 (B+B') (fun s=>(fx s).bd G0) (fun e s=>(d6 e s).bd fun a s=>G1 a e s):=b6.FL mP ck jh hG (fun a k m2 n=>by
 obtain⟨b,y,aj,ar,bB⟩:=(jh a m2).lI [] k n
 exact⟨b,y,aj,ar,by omega⟩) (by omega) (by omega)
theorem c3.map{α β:Type}{B:Nat}{fx:List Bool->R α}{d6:Bool->List Bool->R α}(f:α->β)(b6:c3 B fx d6)(mP:cb (d6 ah)):c3 B (fun s=>(fx s).bd fun a s => .ok (f a) s) (fun e s=>(d6 e s).bd fun a s => .ok (f a) s):=b6.bd (Pa:=fun _=>True) (B':=0) (G0:=fun a s => .ok (f a) s) (G1:=fun a _ s => .ok (f a) s) mP (fun _ _ _ _ _=>trivial) (fun a _=>c3.pure _) fun a _ => .inr ⟨_,rfl⟩
theorem c3.cH{α:Type}{B:Nat}{fx:List Bool->R α}{d6:Bool->List Bool->R α}(h:c3 B fx d6):c3 B (fun s=>(fx (s.map (!·))).cH) (fun e s=>(d6 e (s.map (!·))).cH):=by
 refine⟨fun s b r q e=>?_,fun s k q e=>?_,fun s k q=>?_⟩
 ·show (d6 e (s.map (!·))).cH=_
  rw[h.ok _ _ _ (sT q) e]
  show R.ok _ _=_
  rw[nn]
 ·have q:(fx (s.map (!·))).cH=_:=q
  show (d6 e (s.map (!·))).cH=_
  cases aj:fx (s.map (!·)) with
  | no w eD =>
   rw[aj] at q
   injection q with aG aL
   subst aG aL
   rw[h.wr _ _ aj e];rfl
  | ok a aF=>rw[aj] at q;cases q
  | st=>rw[aj] at q;cases q
 ·have q:(fx (s.map (!·))).cH=_:=q
  cases aj:fx (s.map (!·)) with
  | no w eD =>
   rw[aj] at q
   injection q with aG aL
   subst aG
   obtain⟨a,y,g1,g2,g3⟩:=h.lI _ _ aj
   refine⟨a,y.map (!·),?_,?_,by rw[cM];exact g3⟩
   ·show (d6 ag (s.map (!·))).cH=_
    rw[g1];rfl
   ·show (d6 ah ((s++y.map (!·)).map (!·))).cH=_
    rw[fz,nn,g2];rfl
  | ok a aF=>rw[aj] at q;cases q
  | st=>rw[aj] at q;cases q
theorem c3.of{α:Type}{B:Nat}{fx G0:List Bool->R α}{d6 G1:Bool->List Bool->R α}(h:c3 B G0 G1)(e:∀ s,fx s=G0 s)(aG:∀ b s,d6 b s=G1 b s):c3 B fx d6:=by
 have a:fx=G0:=funext e
 have b:d6=G1:=funext fun b=>funext fun s=>aG b s
 rw[a,b];exact h
theorem A1(u:Bool):c3 1 (eQ ah u) (fun e=>eQ e u):=by
 refine⟨fun s b r h e=>?_,fun s k h e=>?_,fun s k h=>?_⟩
 ·rw[oH h];rfl
 ·cases s<;>cases h
 ·cases s with
  | nil=>exact⟨u,[u],I,I,cx _⟩
  | cons b s=>cases h
theorem AL(w n:Nat):gT (g9 ah w n):=by
 cases w with
 | zero=>exact .inr ⟨n,I⟩
 | succ w=>exact .inl I
theorem Fg:∀ w n,c3 w (g9 ah w n) (fun e=>g9 e w n)
 | 0,n=>c3.pure n
 | w+1,n=>((A1 ah).bd (Pa:=fun _=>True) (G0:=fun b=>g9 ah w (2*n+b.toNat)) (G1:=fun b e=>g9 e w (2*n+b.toNat)) (lZ ah) (fun _ _ _ _ _=>trivial) (fun b _=>Fg w _) fun b _=>AL w _).le (by omega)
theorem S5(m:Nat)(u:Bool)(a:Nat):gT (jW ah m u a):=by
 cases m with
 | zero=>exact .inr ⟨a,I⟩
 | succ m=>exact .inl I
theorem JC:∀ m u a,c3 m (jW ah m u a) (fun e=>jW e m u a)
 | 0,u,a=>c3.pure a
 | m+1,u,a=>((A1 u).bd (Pa:=fun _=>True) (B':=m) (G0:=fun b s=>if b=ag then jW ah m ah (a+1) s else .ok a s) (G1:=fun b e s=>if b=ag then jW e m ah (a+1) s else .ok a s) (lZ u) (fun _ _ _ _ _=>trivial) (fun b _=>c3.ite (fun _=>JC m ah _) (fun _=>(c3.pure a).le (by omega))) fun b _=>by
   cases b with
   | true=>exact S5 m ah _
   | false=>exact .inr ⟨a,I⟩).le (by omega)
theorem Ff{e:Bool}:∀ {w n v:Nat} {s r:List Bool},g9 e w n s = .ok v r->v<(n+1)*2 ^ w
 | 0,n,v,s,r,h=>by
  injection h with aj ar
  omega
 | w+1,n,v,s,r,h=>by
  obtain⟨b,aF,aj,ar⟩:=eF h
  have:=Ff ar
  have aq:b.toNat<=1:=by cases b<;>decide
  have bB:(2*n+b.toNat+1)*2 ^ w<=(n+1)*2 ^ (w+1):=by
   rw[Nat.pow_succ,Nat.mul_comm (2 ^ w) 2,<- Nat.mul_assoc]
   exact Nat.mul_le_mul_right _ (by omega)
  omega
theorem FD{e:Bool}:∀ {m a k:Nat} {u:Bool} {s r:List Bool},jW e m u a s = .ok k r->k<=a+m
 | 0,a,k,u,s,r,h=>by
  injection h with aj ar
  omega
 | m+1,a,k,u,s,r,h=>by
  obtain⟨b,aF,aj,ar⟩:=eF h
  cases b with
  | true =>
   have:=FD (show jW e m ah (a+1) aF = .ok k r from ar)
   omega
  | false =>
   injection ar with aG aL
   omega
theorem Av{e:Bool}{a g:Nat}{s r:List Bool}(ba:a<=7)(h:g9 e a 1 s = .ok g r):g - 1<=254:=by
 have aj:=Ff h
 have ar:(2:Nat) ^ a<=2 ^ 7:=Nat.pow_le_pow_right (by decide) ba
 omega
theorem Fm(u:Bool):c3 270 (e7 ah u) (fun e=>e7 e u) :=
 ((JC 7 u 0).bd (Pa:=fun a=>a<=7) (B':=261) (G0:=fun a s=>(g9 ah a 1 s).bd fun g s=>(g9 ah (g - 1) 1 s).bd fun m s => .ok (m - 1) s) (G1:=fun a e s=>(g9 e a 1 s).bd fun g s=>(g9 e (g - 1) 1 s).bd fun m s => .ok (m - 1) s) (FC 7 u 0) (fun e a s r h=>by have:=FD h;omega)
  (fun a ba=>((Fg a 1).bd (Pa:=fun g=>g - 1<=254) (B':=254) (G0:=fun g s=>(g9 ah (g - 1) 1 s).bd fun m s => .ok (m - 1) s) (G1:=fun g e s=>(g9 e (g - 1) 1 s).bd fun m s => .ok (m - 1) s) (xr a 1) (fun e g s r h=>Av ba h) (fun g aK=>((Fg (g - 1) 1).map (fun m=>m - 1) (xr _ 1)).le aK) fun g _=>(AL _ _).bd fun m _ => .inr ⟨_,rfl⟩).le (by omega))
  fun a _=>(AL _ _).bd fun g _=>(AL _ _).bd fun m _ => .inr ⟨_,rfl⟩).le (by omega)
theorem Mm:c3 271 (l3 ah) l3:=(A1 ah).bd (Pa:=fun _=>True) (B':=270) (G0:=fun b s=>if b=ag then (e7 ah ah s).bd fun n s => .ok ((n:Nat):Int) s else ((e7 ah ah (s.map (!·))).bd fun n s => .ok (-1 - ((n:Nat):Int)) s).cH) (G1:=fun b e s=>if b=ag then (e7 e ah s).bd fun n s => .ok ((n:Nat):Int) s else ((e7 e ah (s.map (!·))).bd fun n s => .ok (-1 - ((n:Nat):Int)) s).cH) (lZ ah) (fun _ _ _ _ _=>trivial) (fun b _=>c3.ite (fun _=>(Fm ah).map (fun n=>((n:Nat):Int)) (sO ah)) fun _=>c3.cH ((Fm ah).map (fun n => -1 - ((n:Nat):Int)) (sO ah))) fun b _=>by cases b<;>exact .inl I
theorem SA{m k n:Nat}(h:n<=m/2 ^ (k+1)):¬m/2 ^ k<2*n+ah.toNat:=by
 rw[Nat.pow_succ,<- Nat.div_div_eq_div_mul] at h
 show ¬_<2*n+0
 omega
theorem Fi(m k n:Nat):gT (gi ah m k n):=by
 cases k with
 | zero=>exact .inr ⟨n,I⟩
 | succ k=>exact .inl I
theorem xv(m:Nat):∀ k n,n<=m/2 ^ k->c3 k (gi ah m k n) (fun e=>gi e m k n)
 | 0,n,_=>c3.pure n
 | k+1,n,h=>by
  have key:∀ b:Bool,c3 k (fun s=>if m/2 ^ k<2*n+b.toNat then R.no ag s.length else gi ah m k (2*n+b.toNat) s) (fun e s=>if m/2 ^ k<2*n+b.toNat then R.no ag s.length else gi e m k (2*n+b.toNat) s):=fun b=>c3.ite (fun _=>c3.rU.le (by omega)) fun c=>xv m k _ (by omega)
  refine⟨fun s b r q e=>?_,fun s j q e=>?_,fun s j q=>?_⟩
  ·cases s with
   | nil=>cases q
   | cons b s=>exact(key b).ok s _ _ q e
  ·cases s with
   | nil=>cases q
   | cons b s=>exact(key b).wr s _ q e
  ·cases s with
   | nil =>
    have c:=SA h
    have E:=xv m k (2*n+ah.toNat) (by omega)
    have aG:∀ e s,gi e m (k+1) n (ah::s)=gi e m k (2*n+ah.toNat) s:=fun e s=>if_neg c
    have aL:gi ag m (k+1) n []=gi ag m k (2*n+ah.toNat) []:=if_neg c
    rcases Fi m k (2*n+ah.toNat) with z | ⟨a,z⟩
    ·obtain⟨a,y,aj,ar,bB⟩:=E.lI [] 0 z
     exact⟨a,ah::y,by rw[aL];exact aj,by rw[List.nil_append,aG];exact ar,by rw[ed];omega⟩
    ·exact⟨a,[ah],by rw[aL];exact E.ok _ _ _ z ag,by rw[List.nil_append,aG];exact z,by show 1<=k+1;omega⟩
   | cons b s =>
    obtain⟨a,y,aj,ar,bB⟩:=(key b).lI s _ q
    exact⟨a,y,aj,ar,by omega⟩
theorem xu{e:Bool}{m:Nat}:∀ {k n v:Nat} {s r:List Bool},n<=m/2 ^ k->gi e m k n s = .ok v r->v<=m
 | 0,n,v,s,r,bc,h=>by
  injection h with aj ar
  subst aj ar
  rwa [Nat.pow_zero,Nat.div_one] at bc
 | k+1,n,v,s,r,bc,h=>by
  obtain⟨b,aF,aj,ar⟩:=eF h
  have ar:(if m/2 ^ k<2*n+b.toNat then R.no ag aF.length else gi e m k (2*n+b.toNat) aF) = .ok v r:=ar
  by_cases c:m/2 ^ k<2*n+b.toNat
  ·rw[if_pos c] at ar;cases ar
  ·rw[if_neg c] at ar
   exact xu (by omega) ar
theorem Fj{e:Bool}{m v:Nat}(bl:v<=m)(r:List Bool):gi e m (aZ m) 0 (d4 v (aZ m)++r) = .ok v r:=by
 have:=JB (e:=e) bl (aZ m) r
 rwa [Nat.div_eq_of_lt (Nat.lt_of_le_of_lt bl (qS m))] at this
theorem Fl{e u:Bool}{n:Nat}{s r:List Bool}(h:e7 e u s = .ok n r):n<2 ^ 255:=by
 obtain⟨a,s1,aj,h⟩:=eF h
 obtain⟨g,s2,ar,h⟩:=eF h
 obtain⟨m,hL,bB,h⟩:=eF h
 injection h with aG aL
 have a1:=FD aj
 have a2:=Av (by omega) ar
 have a3:=Ff bB
 have a4:(2:Nat) ^ (g - 1)<=2 ^ 254:=Nat.pow_le_pow_right (by decide) a2
 have a5:(2:Nat) ^ 255=2*2 ^ 254:=by decide
 omega
theorem S4{e:Bool}{n:Int}{s r:List Bool}(h:l3 e s = .ok n r):n.natAbs<=2 ^ 255:=by
 obtain⟨b,s1,aj,h⟩:=eF h
 cases b with
 | true =>
  obtain⟨k,s2,ar,h⟩:=eF (show (e7 e ah s1).bd _=_ from h)
  injection h with aG aL
  have:=Fl ar
  omega
 | false =>
  obtain⟨k,s2,ar,h⟩:=eF (sT (show R.cH _=_ from h))
  injection h with aG aL
  have:=Fl ar
  omega
theorem Lp:e7 ag ag [] = .ok 1 []:=rfl
theorem Xo{s:List Bool}{k n:Nat}(h:e7 ah ag s = .no ah k)(aj:e7 ag ag s = .ok n []){y:List Bool}(ar:e7 ah ag (s++y) = .ok n []):n≠0:=by
 rintro rfl
 obtain⟨_,e⟩:=AW ar
 rw[List.append_nil,show cnt 0=[ah] by decide +kernel] at e
 cases s with
 | nil=>rw[Lp] at aj;injection aj with z;cases z
 | cons b s =>
  injection e with aG aL
  have:=(List.append_eq_nil_iff.mp aL).1
  subst this aG
  have z:e7 ah ag [ah] = .ok 0 []:=rfl
  rw[z] at h;cases h
def ou(u:Bool)(a:List Int):Prop:=(∃ x r,a=x::r/\∀ y∈r,1<=y)/\(u=ah->hX a=ag)
theorem ou.step{u:Bool}{a:List Int}(h:ou u a)(n:Nat):ou (n == 0) (a++[((n:Nat):Int)+1]):=by
 obtain⟨⟨x,r,rfl,az⟩,_⟩:=h
 refine⟨⟨x,r++[((n:Nat):Int)+1],I,fun y bM=>?_⟩,fun bc=>?_⟩
 ·rcases List.mem_append.mp bM with z | z
  ·exact az y z
  ·rw[fy.mp z];omega
 ·have bc:n≠0:=by simpa using bc
  refine(u7 _).mpr ⟨fun y bM=>?_,fun n1=>?_⟩
  ·rcases List.mem_append.mp bM with z | z
   ·exact az y z
   ·rw[fy.mp z];omega
  ·have aU:∀ (h:r++[((n:Nat):Int)+1]≠[]),2<=(r++[((n:Nat):Int)+1]).getLast h:=fun h=>by rw[List.getLast_append_of_ne_nil _ (mE _ _),List.getLast_singleton];omega
   exact aU n1
theorem sR:∀ (m:Nat) (u:Bool) (a:List Int) (s:List Bool),ou u a->
  (∀ st r,eA ah m u a s = .ok st r->∀ e,eA e (m+2) u a s = .ok st r)/\(∀ k,eA ah m u a s = .no ag k->∀ e,eA e (m+2) u a s = .no ag k)/\
  (∀ k,eA ah m u a s = .no ah k->∃ st y,eA ag (m+2) u a s = .ok st []/\eA ah (m+2) u a (s++y) = .ok st []/\y.length<=280/\hX st=ag)
 | 0,u,a,s,ef=>⟨fun st r h=>(nomatch h),fun k h=>(nomatch h),fun k h=>(nomatch h)⟩
 | m+1,u,a,[],ef=>by
  refine⟨fun st r h=>(nomatch h),fun k h=>(nomatch h),fun k h=>?_⟩
  cases u with
  | false=>exact⟨a,[ah],I,I,by decide,ef.2 rfl⟩
  | true =>
   refine⟨a++[2],ag::((cnt 1).map (!·)++[ag]),?_,?_,by decide +kernel,(ef.step 1).2 rfl⟩
   ·have aG:eA ag (m+1+2) ag a []=((e7 ag ag []).bd fun n s=>eA ag (m+2) (n == 0) (a++[((n:Nat):Int)+1]) s).cH:=rfl
    rw[aG,Lp]
    rfl
   ·have aG:eA ah (m+1+2) ag a ([]++ag::((cnt 1).map (!·)++[ag]))=((e7 ah ag (((cnt 1).map (!·)++[ag]).map (!·))).bd fun n s=>eA ah (m+2) (n == 0) (a++[((n:Nat):Int)+1]) s).cH:=rfl
    rw[aG,fz,nn,AX (by decide)]
    rfl
 | m+1,u,a,ah::s,ef=>⟨fun st r h e=>h,fun k h=>(nomatch h),fun k h=>(nomatch h)⟩
 | m+1,u,a,ag::s,ef=>by
  have pO:∀ (e:Bool) (m:Nat) (s:List Bool),eA e (m+1) u a (ag::s)=((e7 e ag (s.map (!·))).bd fun n s=>eA e m (n == 0) (a++[((n:Nat):Int)+1]) s).cH:=fun _ _ _=>rfl
  have C:=Fm ag
  refine⟨fun st r h e=>?_,fun k h e=>?_,fun k h=>?_⟩
  ·rw[pO] at h ⊢
   obtain⟨n,aF,aj,ar⟩:=eF (sT h)
   have q5:e7 e ag (s.map (!·))=_:=C.ok _ _ _ aj e
   rw[q5]
   show (eA e (m+2) (n == 0) _ aF).cH=_
   rw[(sR m _ _ aF (ef.step n)).1 _ _ ar e]
   show R.ok _ _=_
   rw[nn]
  ·rw[pO] at h ⊢
   cases aj:e7 ah ag (s.map (!·)) with
   | ok n aF =>
    rw[aj] at h
    have q5:e7 e ag (s.map (!·))=_:=C.ok _ _ _ aj e
    rw[q5]
    have h:(eA ah m (n == 0) (a++[((n:Nat):Int)+1]) aF).cH=_:=h
    show (eA e (m+2) (n == 0) _ aF).cH=_
    cases ar:eA ah m (n == 0) (a++[((n:Nat):Int)+1]) aF with
    | no w eD =>
     rw[ar] at h
     injection h with aG aL
     subst aG aL
     rw[(sR m _ _ aF (ef.step n)).2.1 _ ar e];rfl
    | ok _ _=>rw[ar] at h;cases h
    | st=>rw[ar] at h;cases h
   | no w eD =>
    rw[aj] at h
    injection h with aG aL
    subst aG aL
    have q5:e7 e ag (s.map (!·))=_:=C.wr _ _ aj e
    rw[q5];rfl
   | st=>rw[aj] at h;cases h
  ·rw[pO] at h
   cases aj:e7 ah ag (s.map (!·)) with
   | ok n aF =>
    rw[aj] at h
    have h:(eA ah m (n == 0) (a++[((n:Nat):Int)+1]) aF).cH=_:=h
    cases ar:eA ah m (n == 0) (a++[((n:Nat):Int)+1]) aF with
    | no w eD =>
     rw[ar] at h
     injection h with aG aL
     subst aG
     obtain⟨st,y,g1,g2,g3,nS⟩:=(sR m _ _ aF (ef.step n)).2.2 _ ar
     refine⟨st,y.map (!·),?_,?_,by rw[cM];exact g3,nS⟩
     ·rw[pO]
      have q5:e7 ag ag (s.map (!·))=_:=C.ok _ _ _ aj ag
      rw[q5]
      show (eA ag (m+2) (n == 0) _ aF).cH=_
      rw[g1];rfl
     ·rw[List.cons_append,pO,fz,nn,(sO ag).ok _ y _ _ aj]
      show (eA ah (m+2) (n == 0) _ (aF++y)).cH=_
      rw[g2];rfl
    | ok _ _=>rw[ar] at h;cases h
    | st=>rw[ar] at h;cases h
   | no w eD =>
    rw[aj] at h
    injection h with aG aL
    subst aG
    obtain⟨n,y,g1,g2,g3⟩:=C.lI _ _ aj
    have bc:=Xo aj g1 g2
    have aq:(n == 0)=ah:=by simpa using bc
    refine⟨a++[((n:Nat):Int)+1],(y++[ah]).map (!·),?_,?_,by rw[cM,dI];show _+1<=_;omega,(ef.step n).2 aq⟩
    ·rw[pO]
     have g1:e7 ag ag (s.map (!·))=_:=g1
     rw[g1]
     show (eA ag (m+2) (n == 0) _ []).cH=_
     rw[aq];rfl
    ·rw[List.cons_append,pO,fz,nn,<- fA,(sO ag).ok _ [ah] _ _ g2]
     show (eA ah (m+2) (n == 0) _ ([]++[ah])).cH=_
     rw[aq];rfl
   | st=>rw[aj] at h;cases h
theorem ou.one(a:Int):ou ah [a]:=⟨⟨a,[],rfl,fun y bM=>(nomatch bM)⟩,fun _=>(u7 _).mpr ⟨fun y bM=>(nomatch bM),fun h=>absurd rfl h⟩⟩
theorem Rl{N:Nat}(bU:1<=N):c3 551 (nO N ah) (nO (N+2)):=Mm.bd (Pa:=fun _=>True) (B':=280) (G0:=fun a s=>(eA ah N ah [a] s).bd fun st s=>if hX st=ag then .ok st s else .no ag s.length) (G1:=fun a e s=>(eA e (N+2) ah [a] s).bd fun st s=>if hX st=ag then .ok st s else .no ag s.length) A7 (fun _ _ _ _ _=>trivial) (fun a _=>by
  refine⟨fun s b r h e=>?_,fun s k h e=>?_,fun s k h=>?_⟩
  ·obtain⟨st,aF,aj,ar⟩:=eF h
   show (eA e (N+2) ah [a] s).bd _=_
   rw[(sR N _ _ s (ou.one a)).1 _ _ aj e];exact ar
  ·show (eA e (N+2) ah [a] s).bd _=_
   have h:(eA ah N ah [a] s).bd _=_:=h
   cases aj:eA ah N ah [a] s with
   | ok st aF =>
    rw[aj] at h
    rw[(sR N _ _ s (ou.one a)).1 _ _ aj e];exact h
   | no w eD =>
    rw[aj] at h
    injection h with aG aL
    subst aG aL
    rw[(sR N _ _ s (ou.one a)).2.1 _ aj e];rfl
   | st=>rw[aj] at h;cases h
  ·have h:(eA ah N ah [a] s).bd _=_:=h
   cases aj:eA ah N ah [a] s with
   | ok st aF =>
    rw[aj] at h
    have h:(if hX st=ag then R.ok st aF else .no ag aF.length)=_:=h
    split at h<;>cases h
   | no w eD =>
    rw[aj] at h
    injection h with aG aL
    subst aG
    obtain⟨st,y,g1,g2,g3,nS⟩:=(sR N _ _ s (ou.one a)).2.2 _ aj
    refine⟨st,y,?_,?_,g3⟩
    ·show (eA ag (N+2) ah [a] s).bd _=_
     rw[g1]
     show (if hX st=ag then R.ok st [] else .no ag 0)=_
     rw[if_pos nS]
    ·show (eA ah (N+2) ah [a] (s++y)).bd _=_
     rw[g2]
     show (if hX st=ag then R.ok st [] else .no ag 0)=_
     rw[if_pos nS]
   | st=>rw[aj] at h;cases h) fun a _ => .inl (by
 obtain⟨n,rfl⟩:∃ n,N=n+1:=⟨N - 1,by omega⟩
 rfl)
end gf
end
section
namespace dg
open PySem PySem.W PySem.Spec PyProof.Rows
section
variable {X:bp} {e1 eD:Nat} {C:ae} {m:af} {ps:List af} {yL:b5} {e o:b2} {aV:List b2} {t:gw} {bS:TE} {aO apos:Pos} {E:St->bP}
theorem lY{pl:Sem Bool}(h':jb X.prog X.w X.K X.mg X.base e1 C m ps yL)(c:fe X.K C)(az:e4 eD X.A)(ay:uW (fv X.prog X.w) X E)(he:bW X o bS)(hk':e1<=eD:=by decide)
  (aW:eval (.Call (.Attribute o m apos) [] [] aO) X.env=(do
   let ov <- eval o X.env
   standAt apos.atName
   let (f,first) <- holding [ov] (getMethod ov m pl)
   callWith aO f first (backTo aO (df [] X.env)) (backToKw aO (qs [] X.env))):=by rfl) :
  bW X (.Call (.Attribute o m apos) [] [] aO) (fun ab H Q=>bS ab H fun x H1=>∃ a al fs,x = .ref a/\H1 a=J (.ins C al fs)/\fs.lookup m=aw/\yL [x] H1 Q (E ab)):=by
 obtain⟨f2,ZF,pv,GH,hm⟩:=h'
 intro ak s ab H Q aa aU
 refine y4 (pl:=pl) (cz (he ak s ab H _ aa aU) fun u s1 bD=>?_) aW
 obtain⟨x,H1,aS,bf,a,al,fs,ex,c7,l,cE⟩:=bD
 subst ex
 obtain rfl:u=ao.ref a:=bf
 refine xf aS c7 c hm l ?_
 refine PySem.W.callWith_K0 (first:=[.ref a]) aS.es hm.ij ?_
 have el:Vals [V.ref a] [ao.ref a] := .cons rfl .nil
 have aC:[ao.ref a].length=ps.length:=by rw[<- el.length];exact pv.len _ _ _ _ cE
 have iZ:=GH s1 [.ref a] aS.es (by rw[List.append_nil];exact aC)
 rw[List.append_nil] at iZ
 refine pd (lP (pv.run X.A X.stack s1 H1 ⟨[.ref a],[]⟩ [.ref a] [.ref a] Q (E ab) (az.mono hk') aS.vw iZ el cE) fun r aF aU=>?_)
 cases r with
 | error e=>exact ay ak ab H1 s1 e aF aS aU
 | ok dq =>
  cases dq with
  | ret u=>exact aS.after aU
  | next=>exact False.elim aU
  | brk=>exact False.elim aU
  | cont=>exact False.elim aU
end
section
variable {X:bp} {e1 eD:Nat} {m:af} {ps:List af} {oj:Type} {cl:oj->ae} {yL:oj->b5} {e o:b2} {aV:List b2} {t:gw} {bS:TE} {aO apos:Pos} {E:St->bP}
def qu(P:cX)(w:cu)(K:bO)(mg:af->Option ao)(base:aX)(k:Nat)(m:af)(ps:List af){oj:Type}(cl:oj->ae)(sp:oj->b5):Prop:=∀ i,jb P w K mg base k (cl i) m ps (sp i)/\fe K (cl i)
theorem uF{pl:Sem Bool}(h':qu X.prog X.w X.K X.mg X.base e1 m ps cl yL)(az:e4 eD X.A)(ay:uW (fv X.prog X.w) X E)(he:bW X o bS)(ba:hx X (e::aV) t)(hk':e1<=eD:=by decide)
  (j1:df (e::aV) X.env=(ah,eval e X.env)::df aV X.env:=by rfl) (f6:(backTo aO (df aV X.env)).any (·.1)=ah:=by rfl)
  (aW:eval (.Call (.Attribute o m apos) (e::aV) [] aO) X.env=(do
   let ov <- eval o X.env
   standAt apos.atName
   let (f,first) <- holding [ov] (getMethod ov m pl)
   callWith aO f first (backTo aO (df (e::aV) X.env)) (backToKw aO (qs [] X.env))):=by rfl) :
  bW X (.Call (.Attribute o m apos) (e::aV) [] aO) (fun ab H Q=>bS ab H fun x H1=>∃ a i al fs,x = .ref a/\H1 a=J (.ins (cl i) al fs)/\fs.lookup m=aw/\t ab H1 fun vs ax=>yL i (x::vs) ax Q (E ab)):=by
 intro ak s ab H Q aa aU
 refine y4 (pl:=pl) (cz (he ak s ab H _ aa aU) fun u s1 bD=>?_) aW
 obtain⟨x,H1,aS,bf,a,i,al,fs,ex,c7,l,q⟩:=bD
 subst ex
 obtain rfl:u=ao.ref a:=bf
 obtain⟨⟨f2,ZF,pv,GH,hm⟩,c⟩:=h' i
 refine xf aS c7 c hm l ?_
 refine wG (first:=[.ref a]) (h₀:=X.base) aa.ok.mod.qi hm.ij (cz (ba aO ak s1 ab H1 _ aS q) fun us s2 bD=>?_) j1 f6
 obtain⟨vs,ax,bA,r,cE⟩:=bD
 refine ⟨bA.es,?_⟩
 have el:Vals (V.ref a::vs) (ao.ref a::us) := .cons rfl r
 have aC:(ao.ref a::us).length=ps.length:=by rw[<- el.length];exact pv.len _ _ _ _ cE
 have iZ:=GH s2 (.ref a::us) bA.es (by rw[List.append_nil];exact aC)
 rw[List.append_nil] at iZ
 refine pd (lP (pv.run X.A X.stack s2 ax ⟨.ref a::us,[]⟩ (.ref a::us) (.ref a::vs) Q (E ab) (az.mono hk') bA.vw iZ el cE) fun r aF aU=>?_)
 cases r with
 | error e=>exact ay ak ab ax s2 e aF bA aU
 | ok dq =>
  cases dq with
  | ret u=>exact bA.after aU
  | next=>exact False.elim aU
  | brk=>exact False.elim aU
  | cont=>exact False.elim aU
end
section
variable {X:bp}
theorem RW:dU X (hP .IsNot) (fun x y H Q=>∃ b,y = .aH b/\N6 x=ag/\Q (.aH (!decide (x = .aH b))) H):=by
 intro ak s ab H x y v u Q aa bf cd h
 obtain⟨b,rfl,ay,q⟩:=h
 cases cd
 cases x with
 | bL=>cases bf;exact dv (eE aa q (by cases b<;>rfl))
 | aH c=>cases bf;cases b<;>cases c<;>exact dv (eE aa q I)
 | int i=>obtain⟨t,rfl⟩:=bf;exact dv (eE aa q (by cases b<;>rfl))
 | str i=>obtain⟨t,rfl⟩:=bf;exact dv (eE aa q (by cases b<;>rfl))
 | ref a=>cases bf;exact dv (eE aa q (by cases b<;>rfl))
 | _=>cases ay
end
theorem gH.ahw{P:cX}{w:cu}{K:bO}{mg:af->Option ao}{base:aX}{k:Nat}{x:af}{ps:List af}{sp:b5}(h:gH P w K mg base k x ps sp):bK P w K mg base k x ps (fun vs H Q _=>sp vs H Q fun _ _ _=>False):=by
 obtain⟨f,fd,F,b,ij,g⟩:=h
 refine⟨f,fd,⟨fun vs H Q E q=>F.len _ _ _ _ q,fun A outer s H args us vs Q E a b c d q=>lP (F.run A outer s H args us vs Q (fun _ _ _=>False) a b c d q) fun r aF c=>?_⟩,b,ij,g⟩
 cases r with
 | error e =>
  obtain⟨_,_,_,_,_,_,_,_,_,_,_,_,_,_,_,z⟩:=c
  exact z.elim
 | ok dq=>cases dq<;>exact c
section
variable {X:bp} {a b:b2} {bS c9:TE} {aO:Pos}
theorem bV(i:Nat){x:af}{e:b2}{cn:TE}{pos':Pos}(bU:X.N.Nodup)(he:bW X e cn)(aB:X.N[i]?=J x:=by rfl)(ay:Loc X.env.scope x:=by first | exact Or.inl I | exact Or.inr I)(hs:swapsWith e (J (.Name x pos')) aO.line X.env=pure ah:=by rfl)(aE:X.fn x=ag\/X.env.scope.names.lookup x=J .local:=by first | exact .inl I | exact .inr I | assumption) :
  jv X (.Assign [.Name x pos'] e aO) (wu cn (vD i)):=SG bU aB ay he hs aE
theorem gV{op:CmpOp}{r:h6}(aJ:dU X (hP op) r)(ba:bW X a bS)(aq:bW X b c9)(h:op≠.In:=by decide)(ar:op≠.NotIn:=by decide):bW X (.Compare a [op] [b] aO) (o5 r bS c9):=LA aJ ba aq (L2 _ h ar)
theorem cm{op:CmpOp}{r:h6}(aJ:dU X (hP op) r)(ba:bW X a bS)(aq:bW X b c9)(h:op≠.In:=by decide)(ar:op≠.NotIn:=by decide):jO X (.Compare a [op] [b] aO) (Cw (o5 r bS c9)):=E9 aJ ba aq (L2 _ h ar)
theorem cN{r:h6}(az:nu X r)(ba:bW X a bS)(aq:bW X b c9)(hs:Jk b:=by intro _ _;rfl):bW X (.Subscript a b aO) (o5 r bS c9):=Tb az ba aq hs
theorem g8(ba:bW X a bS)(he:∀ whole,isTrue a X.env whole=(do let v <- whole;standAt a.pos;holding [v] (truthy v)):=by intro _;rfl) :
  jO X a (fun ab H Q=>bS ab H fun x H'=>∃ k,zO X.K x H' k/\Q k H'):=XP ba he
end
section
variable {X:bp} {elt hQ iter:b2} {ifs:List b2} {cI:Scope} {aO p:Pos} {hO:dW} {g:uk gK} {fM:uk gL} {cn:uk TE}
theorem iQ(fN:List af)(eP:List (Nat×af))(hc:X.calm=ag)(rk:xH cI (eP.map (·.2))=ag)(p3:qv X eP)(aB:iO X hQ iter hO)
  (aK:∀ cl C s2 ax bH,oy (lp X il cI cl C (fN++eP.map (·.2)) s2 ax bH) hQ (g cl C s2 ax bH))
  (aW:∀ cl C s2 ax bH,sx (lp X il cI cl C (fN++eP.map (·.2)) s2 ax bH) ifs (fM cl C s2 ax bH))
  (he:∀ cl C s2 ax bH,bW (lp X il cI cl C (fN++eP.map (·.2)) s2 ax bH) elt (cn cl C s2 ax bH))
  (l5:∀ cl C s2 ax bH,g cl C s2 ax bH=g [] 0 X.de X.g4 []:=by intros;rfl) (oJ:∀ cl C s2 ax bH,fM cl C s2 ax bH=fM [] 0 X.de X.g4 []:=by intros;rfl) (mJ:∀ cl C s2 ax bH,cn cl C s2 ax bH=cn [] 0 X.de X.g4 []:=by intros;rfl)
  (hs:∀ x,foldedSetIterable iter X.env x=pure x:=by intro _;rfl) :
  bW X (.ListComp elt [⟨hQ,iter,ifs,0⟩] cI aO) (Ct hO (g [] 0 X.de X.g4 []) (fM [] 0 X.de X.g4 []) (cn [] 0 X.de X.g4 []) (nN fN eP)):=by
 intro ak s ab H Q aa h
 rw[eval_ListComp]
 refine Eu (use:=aw) (.inr fun _ _ _ z=>z) hc rk p3 aB (fun cl C s2 ax bH=>l5 cl C s2 ax bH ▸ aK cl C s2 ax bH) (fun cl C s2 ax bH=>oJ cl C s2 ax bH ▸ aW cl C s2 ax bH) (fun cl C s2 ax bH=>mJ cl C s2 ax bH ▸ he cl C s2 ax bH) aa h (fun D C H' aF gS q hY aj ar bB b0 bD=>?_) hs
 obtain⟨m,hm⟩:=bD
 refine⟨m,hm,fun h' ye=>?_⟩
 exact⟨.ref D,H',gS.turned (t':=aF.toks) (fun b o aq e=>ye.extBut b o aq e) hY aj (.inr ar) bB b0,I,q⟩
theorem VB{i:Nat}{y:af}{py Pz:Pos}(fN:List af)(eP:List (Nat×af))(bU:X.N.Nodup)(aba:X.N[i]?=J y)(bM:X.env.scope.names.lookup y=J .local)(hc:X.calm=ag)(rk:xH cI (eP.map (·.2))=ag)(p3:qv X eP)(aB:iO X hQ iter hO)
  (aK:∀ cl C s2 ax bH,oy (lp X il cI cl C (fN++eP.map (·.2)) s2 ax bH) hQ (g cl C s2 ax bH))
  (aW:∀ cl C s2 ax bH,sx (lp X il cI cl C (fN++eP.map (·.2)) s2 ax bH) ifs (fM cl C s2 ax bH))
  (he:∀ cl C s2 ax bH,bW (lp X il cI cl C (fN++eP.map (·.2)) s2 ax bH) elt (cn cl C s2 ax bH))
  (l5:∀ cl C s2 ax bH,g cl C s2 ax bH=g [] 0 X.de X.g4 []:=by intros;rfl) (oJ:∀ cl C s2 ax bH,fM cl C s2 ax bH=fM [] 0 X.de X.g4 []:=by intros;rfl) (mJ:∀ cl C s2 ax bH,cn cl C s2 ax bH=cn [] 0 X.de X.g4 []:=by intros;rfl)
  (abW:swapsWith (.ListComp elt [⟨hQ,iter,ifs,0⟩] cI aO) (J (.Name y py)) Pz.line X.env=pure ag:=by rfl)
  (hs:∀ x,foldedSetIterable iter X.env x=pure x:=by intro _;rfl) :
  jv X (.Assign [.Name y py] (.ListComp elt [⟨hQ,iter,ifs,0⟩] cI aO) Pz) (wu (Ct hO (g [] 0 X.de X.g4 []) (fM [] 0 X.de X.g4 []) (cn [] 0 X.de X.g4 []) (nN fN eP)) (vD i)):=by
 intro ak s ab H D aa h
 rw[exec_Assign_Name_used _ _ _ _ abW]
 refine bC (wpAny_standAt (bC ?_))
 show bE _ X.A (do let _ <- comprehension (.ListComp elt [⟨hQ,iter,ifs,0⟩] cI aO) cI X.env _ (newList []) ah (eval iter X.env) (J (assign (.Name y py) X.env))) _ _ s
 refine bC (cz (Eu (use:=J (assign (.Name y py) X.env)) (Qf:=fun _ aF=>uX X ak D .next aF) (.inr fun _ _ _ z=>z) hc rk p3 aB (fun cl C s2 ax bH=>l5 cl C s2 ax bH ▸ aK cl C s2 ax bH) (fun cl C s2 ax bH=>oJ cl C s2 ax bH ▸ aW cl C s2 ax bH) (fun cl C s2 ax bH=>mJ cl C s2 ax bH ▸ he cl C s2 ax bH) aa h (fun I6 C H' aF gS q hY aj ar bB b0 bD=>?_) hs) fun _ aF aU=>dv (dv aU))
 obtain⟨m,hm⟩:=bD
 show bE _ X.A (assign (.Name y py) X.env (.ref I6)) _ _ _
 refine wpAny_assign_Name (Ky gS bU aba (.inl bM) (v := .ref I6) I (fun oe QW bD=>?_) (.inr bM))
 obtain⟨a,ye,ba⟩:=bD
 have Bk:C≠a:=by
  rcases ba with z | z
  ·rw[z];exact aj
  ·exact d2 (bB _ _ z)
 refine⟨m,hm.sameBut ye Bk,fun h' abP=>?_⟩
 exact⟨_,H',QW.turned (t':=oe.toks) (fun b o aq e=>abP.extBut b o aq e) hY aj (.inr ar) bB b0,q⟩
end
section
variable {P:cX} {w:cu} {K:bO} {mg:af->Option ao} {base:aX} {x dy:af} {st:bj} {f:ae} {fd:fu} {N ps:List af} {k:Nat} {sp:b5}
theorem c2.hJ(F:c2 K x dy st f fd)(S:bZ N ps (bF st)) (jj:∀ (bb:ao) (A:da) (outer:List Env) (s:aI) (H:au) (vs:List V) (Q:bx) (E:bP),e4 k (A.deeper (envOfC dy (bF st) s.heap.objs.size f bb))->sp vs H Q E->
   ∃ t,hj (jV dk P w K mg base N dy (bF st) f bb A outer s H E).rA (iw st) t/\t {nx:=fun _ H'=>∃ bY,Sub H bY H'/\Q .bL bY,rt:=fun v H'=>∃ bY,Sub H bY H'/\Q v bY} (start N vs) H) (len:∀ vs H Q E,sp vs H Q E->vs.length=ps.length:=by intro vs H Q E h;first | (cases h;subst_vars;rfl) | ((repeat (obtain⟨_,h⟩:=h))<;>(subst_vars;rfl))):cg P w K mg base dk (k+1) f fd ps sp:=F.N3 S len jj
theorem c2.iz(F:c2 K x dy st f fd)(S:bZ N ps (bF st)) (jj:∀ (bb:ao) (A:da) (outer:List Env) (s:aI) (H:au) (vs:List V) (Q:bx) (E:bP),e4 k (A.deeper (envOfC dy (bF st) s.heap.objs.size f bb))->sp vs H Q E->
   ∃ t,hj (jV (fv P w) P w K mg base N dy (bF st) f bb A outer s H (lr H E)) (iw st) t/\t {nx:=fun _ H'=>∃ bY,Sub H bY H'/\Q .bL bY,rt:=fun v H'=>∃ bY,Sub H bY H'/\Q v bY} (start N vs) H) (len:∀ vs H Q E,sp vs H Q E->vs.length=ps.length:=by intro vs H Q E h;first | (cases h;subst_vars;rfl) | ((repeat (obtain⟨_,h⟩:=h))<;>(subst_vars;rfl))):cg P w K mg base (fv P w) (k+1) f fd ps sp:=F.B6 S len jj
theorem dF.fK(F:dF K mg x st ps f fd)(S:bZ N ps (bF st)) (jj:∀ (bb:ao) (A:da) (outer:List Env) (s:aI) (H:au) (vs:List V) (Q:bx) (E:bP),e4 k (A.deeper (envOfC x (bF st) s.heap.objs.size f bb))->sp vs H Q E->
   ∃ t,hj (jV dk P w K mg base N x (bF st) f bb A outer s H E).rA (iw st) t/\t {nx:=fun _ H'=>∃ bY,Sub H bY H'/\Q .bL bY,rt:=fun v H'=>∃ bY,Sub H bY H'/\Q v bY} (start N vs) H) (len:∀ vs H Q E,sp vs H Q E->vs.length=ps.length:=by intro vs H Q E h;first | (cases h;subst_vars;rfl) | ((repeat (obtain⟨_,h⟩:=h))<;>(subst_vars;rfl))):bK P w K mg base (k+1) x ps sp:=F.ok S len jj
theorem dF.iz(F:dF K mg x st ps f fd)(S:bZ N ps (bF st)) (jj:∀ (bb:ao) (A:da) (outer:List Env) (s:aI) (H:au) (vs:List V) (Q:bx) (E:bP),e4 k (A.deeper (envOfC x (bF st) s.heap.objs.size f bb))->sp vs H Q E->
   ∃ t,hj (jV (fv P w) P w K mg base N x (bF st) f bb A outer s H (lr H E)) (iw st) t/\t {nx:=fun _ H'=>∃ bY,Sub H bY H'/\Q .bL bY,rt:=fun v H'=>∃ bY,Sub H bY H'/\Q v bY} (start N vs) H) (len:∀ vs H Q E,sp vs H Q E->vs.length=ps.length:=by intro vs H Q E h;first | (cases h;subst_vars;rfl) | ((repeat (obtain⟨_,h⟩:=h))<;>(subst_vars;rfl))):gH P w K mg base (k+1) x ps sp:=F.B6 S len jj
end
end dg
end
namespace KR
open PySem dg gf
abbrev bX:=@dQ.of
abbrev dc:=@jc.of
abbrev dR:=@er.refl
noncomputable def top(i:Nat):bj:=PySem.Challenge.pw_keyrise_k41_read_whole.main.body.getD i (.Pass ⟨0,0,0,0⟩)
noncomputable section
abbrev u1:bj:=dp (top 4) 0
abbrev u0:bj:=dp (top 5) 0
abbrev uE:bj:=dp (top 6) 0
abbrev DQ:bj:=dp (top 14) 0
abbrev zE:bj:=dp (top 14) 1
abbrev zD:bj:=dp (top 14) 2
abbrev zl:bj:=dp (top 14) 3
abbrev zC:bj:=dp (top 14) 4
abbrev z1:bj:=dp (top 14) 5
abbrev km:bj:=dp (top 49) 0
abbrev zm:bj:=dp (top 50) 0
abbrev zS:bj:=dp (top 50) 1
abbrev zo:bj:=dp (top 50) 3
abbrev z8:bj:=dp (top 51) 0
abbrev z0:bj:=dp (top 51) 1
abbrev z9:bj:=dp (top 51) 3
abbrev zK:bj:=dp (top 52) 0
abbrev zZ:bj:=dp (top 52) 1
abbrev z7:bj:=dp (top 52) 3
abbrev Eb:bj:=dp (top 53) 0
abbrev Ad:bj:=dp (top 53) 1
abbrev zk:bj:=dp (top 53) 2
abbrev Ae:bj:=dp (top 53) 4
abbrev z3:bj:=dp (top 54) 0
abbrev z5:bj:=dp (top 54) 1
abbrev zj:bj:=dp (top 54) 3
abbrev DL:bj:=dp (top 55) 0
abbrev zq:bj:=dp (top 55) 1
abbrev zW:bj:=dp (top 55) 2
abbrev zT:bj:=dp (top 55) 3
abbrev zr:bj:=dp (top 55) 5
abbrev D0:bj:=dp (top 63) 0
abbrev Aa:bj:=dp (top 63) 1
abbrev z2:bj:=dp (top 63) 2
abbrev Ab:bj:=dp (top 63) 4
abbrev Ec:bj:=dp (top 64) 0
abbrev Af:bj:=dp (top 64) 1
abbrev zp:bj:=dp (top 64) 2
abbrev Ag:bj:=dp (top 64) 4
abbrev DR:bj:=dp (top 65) 0
abbrev zF:bj:=dp (top 65) 1
abbrev zV:bj:=dp (top 65) 2
abbrev zG:bj:=dp (top 65) 4
abbrev DS:bj:=dp (top 66) 0
abbrev zH:bj:=dp (top 66) 1
abbrev zX:bj:=dp (top 66) 2
abbrev zI:bj:=dp (top 66) 4
abbrev DP:bj:=dp (top 67) 0
abbrev zA:bj:=dp (top 67) 1
abbrev zU:bj:=dp (top 67) 2
abbrev zB:bj:=dp (top 67) 4
abbrev Ef:bj:=top 16
abbrev Ei:bj:=top 17
abbrev Eo:bj:=top 18
abbrev DT:bj:=top 22
abbrev DJ:bj:=top 23
abbrev En:bj:=top 24
abbrev zY:bj:=top 25
abbrev D9:bj:=top 26
abbrev D1:bj:=top 27
abbrev D8:bj:=top 28
abbrev Dw:bj:=top 29
abbrev DZ:bj:=top 30
abbrev DX:bj:=top 31
abbrev DY:bj:=top 32
abbrev Eg:bj:=top 34
abbrev Ea:bj:=top 35
abbrev DO:bj:=top 36
abbrev Dc:bj:=top 37
abbrev DN:bj:=top 38
abbrev C9:bj:=top 39
abbrev DI:bj:=top 40
abbrev Dl:bj:=top 41
abbrev D7:bj:=top 47
abbrev Ey:bj:=top 48
abbrev Ez:bj:=top 61
abbrev Ej:bj:=top 62
abbrev Ek:bj:=top 69
abbrev El:bj:=top 70
abbrev D2:bj:=top 71
abbrev D3:bj:=top 72
abbrev DU:bj:=top 73
abbrev Al:bj:=top 74
abbrev Ak:bj:=top 75
abbrev Em:bj:=top 76
abbrev DV:bj:=top 77
abbrev DK:bj:=top 78
abbrev Ac:bj:=top 79
abbrev D5:bj:=top 80
abbrev D4:bj:=top 81
abbrev Aj:bj:=top 82
abbrev DW:bj:=top 83
abbrev D6:bj:=top 84
abbrev FI:bj:=top 85
abbrev aiQ:bj:=top 60
abbrev aiO:bj:=dp (top 50) 2
abbrev aiI:bj:=dp (top 51) 2
abbrev aiH:bj:=dp (top 52) 2
abbrev aiK:bj:=dp (top 53) 3
abbrev aiN:bj:=dp (top 54) 2
abbrev aiP:bj:=dp (top 55) 4
abbrev aiJ:bj:=dp (top 63) 3
abbrev aiL:bj:=dp (top 64) 3
abbrev aiS:bj:=dp (top 65) 3
abbrev aiT:bj:=dp (top 66) 3
abbrev aiR:bj:=dp (top 67) 3
end
theorem Uz:bZ ["self","place"] ["self","place"] (bF u1):=cc
theorem Uu:bZ ["self","place"] ["self","place"] (bF u0):=cc
theorem U6:bZ ["self","place"] ["self","place"] (bF uE):=cc
theorem Ue:bZ ["self","signs","at"] ["self","signs","at"] (bF DQ):=cc
theorem DH:bZ ["self","wished","sign"] ["self"] (bF zE):=cc
theorem Ud:bZ ["self"] ["self"] (bF zD):=cc
theorem Zip:bZ ["self"] ["self"] (bF zl):=cc
theorem Uc:bZ ["self","sign"] ["self","sign"] (bF zC):=cc
theorem TH:bZ ["self"] ["self"] (bF z1):=cc
theorem Vy:bZ ["self","value"] ["self","value"] (bF km):=cc
theorem TV:bZ ["self","value"] ["self","value"] (bF zm):=cc
theorem To:bZ ["self","value"] ["self","value"] (bF zS):=cc
theorem TX:bZ ["self","source"] ["self","source"] (bF zo):=cc
theorem Ux:bZ ["self","value"] ["self","value"] (bF z8):=cc
theorem TG:bZ ["self","value"] ["self","value"] (bF z0):=cc
theorem Uy:bZ ["self","source"] ["self","source"] (bF z9):=cc
theorem Uv:bZ ["self","value"] ["self","value"] (bF zK):=cc
theorem TF:bZ ["self","value"] ["self","value"] (bF zZ):=cc
theorem Uw:bZ ["self","source"] ["self","source"] (bF z7):=cc
theorem U1:bZ ["self","low","high"] ["self","low","high"] (bF Eb):=cc
theorem U2:bZ ["self","value"] ["self","value"] (bF Ad):=cc
theorem TU:bZ ["self","value"] ["self","value"] (bF zk):=cc
theorem U3:bZ ["self","source"] ["self","source"] (bF Ae):=cc
theorem TJ:bZ ["self","value"] ["self","value"] (bF z3):=cc
theorem Tj:bZ ["self","value"] ["self","value"] (bF z5):=cc
theorem TK:bZ ["self","source"] ["self","source"] (bF zj):=cc
theorem TZ:bZ ["self","signs"] ["self","signs"] (bF DL):=cc
theorem T1:bZ ["self","value"] ["self","value"] (bF zq):=cc
theorem Tt:bZ ["self","text"] ["self","text"] (bF zW):=cc
theorem JR:bZ ["self","value","most"] ["self","value"] (bF zT):=cc
theorem Dk:bZ ["self","source","text"] ["self","source"] (bF zr):=cc
theorem UA:bZ ["self","inner"] ["self","inner"] (bF D0):=cc
theorem UB:bZ ["self","value"] ["self","value"] (bF Aa):=cc
theorem TI:bZ ["self","value"] ["self","value"] (bF z2):=cc
theorem UC:bZ ["self","source"] ["self","source"] (bF Ab):=cc
theorem U4:bZ ["self","inner"] ["self","inner"] (bF Ec):=cc
theorem U5:bZ ["self","value"] ["self","value"] (bF Af):=cc
theorem TY:bZ ["self","value"] ["self","value"] (bF zp):=cc
theorem J8:bZ ["self","source","values"] ["self","source"] (bF Ag):=cc
theorem Ug:bZ ["self","parts"] ["self","parts"] (bF DR):=cc
theorem Uh:bZ ["self","value"] ["self","value"] (bF zF):=cc
theorem Ts:bZ ["self","value"] ["self","value"] (bF zV):=cc
theorem Ui:bZ ["self","source"] ["self","source"] (bF zG):=cc
theorem Uj:bZ ["self","cases"] ["self","cases"] (bF DS):=cc
theorem Uk:bZ ["self","value"] ["self","value"] (bF zH):=cc
theorem JS:bZ ["self","value","place"] ["self","value"] (bF zX):=cc
theorem JZ:bZ ["self","source","place"] ["self","source"] (bF zI):=cc
theorem Ua:bZ ["self","inner"] ["self","inner"] (bF DP):=cc
theorem Ub:bZ ["self","value"] ["self","value"] (bF zA):=cc
theorem Tr:bZ ["self","value"] ["self","value"] (bF zU):=cc
theorem JY:bZ ["self","source","value"] ["self","source"] (bF zB):=cc
theorem Ke:bZ ["form","source","value"] ["form","source"] (bF Ef):=cc
theorem Vu:bZ ["form","signs"] ["form","signs"] (bF Ei):=cc
theorem Ki:bZ ["form","signs","source"] ["form","signs"] (bF Eo):=cc
theorem Us:bZ ["row"] ["row"] (bF DT):=cc
theorem TT:bZ ["n","width"] ["n","width"] (bF DJ):=cc
theorem Vx:bZ ["n"] ["n"] (bF En):=cc
theorem JT:bZ ["n"] ["n"] (bF zY):=cc
theorem wY:bZ ["n","m","digits","ahead","end"] ["n"] (bF D9):=cc
theorem UX:bZ ["n"] ["n"] (bF D1):=cc
theorem UZ:bZ ["n","most"] ["n","most"] (bF D8):=cc
theorem z4:bZ ["source","width","n","k"] ["source","width"] (bF Dw):=cc
theorem zz:bZ ["source","ahead","digits"] ["source"] (bF DZ):=cc
theorem J3:bZ ["source","n"] ["source"] (bF DX):=cc
theorem zy:bZ ["source","most","n","k"] ["source","most"] (bF DY):=cc
theorem sD:bZ ["fraction","steps","top","bottom","rest"] ["fraction"] (bF Eg):=cc
theorem U0:bZ ["steps"] ["steps"] (bF Ea):=cc
theorem sJ:bZ ["steps","top","bottom","step","turned_over"] ["steps"] (bF DO):=cc
theorem z6:bZ ["one","other","rest"] ["one","other"] (bF Dc):=cc
theorem T9:bZ ["fraction"] ["fraction"] (bF DN):=cc
theorem Jn:bZ ["fraction","steps"] ["fraction"] (bF C9):=cc
theorem sI:bZ ["steps","last","rows","k","step","row"] ["steps"] (bF DI):=cc
theorem JU:bZ ["source","steps"] ["source"] (bF Dl):=cc
theorem UY:bZ ["value"] ["value"] (bF D7):=cc
theorem V6:bZ ["text","signs"] ["text","signs"] (bF Ey):=cc
theorem V7:bZ ["name"] ["name"] (bF Ez):=cc
theorem Kf:bZ ["parts","names"] ["parts"] (bF Ej):=cc
theorem sE:bZ ["_law_script","_law_pool_here","_law_k","_law_number"] ["_law_script"] (bF Ek):=cc
theorem Vw:bZ ["_law_pool_here"] ["_law_pool_here"] (bF El):=cc
theorem oC:bZ ["_law_cell","_law_rest","_law_size","_law_number","_law_found","_law_k","_law_at"] ["_law_cell"] (bF D2):=cc
theorem nJ:bZ ["_law_cell","_law_many","_law_some","_law_size","_law_at","_law_step","_law_number","_law_first","_law_stem","_law_k"] ["_law_cell","_law_many"] (bF D3):=cc
theorem DM:bZ ["_law_pool_here","_law_way","_law_low","_law_cell"] ["_law_pool_here","_law_way"] (bF DU):=cc
theorem pG:bZ ["_law_pool_here","_law_deep","_law_cell","_law_way","_law_many","_law_names_here","_law_inner","_law_k"] ["_law_pool_here","_law_deep"] (bF Al):=cc
theorem Kh:bZ ["_law_form_here","_law_word"] ["_law_form_here"] (bF Ak):=cc
theorem Kg:bZ ["_law_cell","_law_number"] ["_law_cell"] (bF Em):=cc
theorem Ut:bZ ["_law_cell"] ["_law_cell"] (bF DV):=cc
theorem qM:bZ ["_law_one","_law_other","_law_top","_law_bottom","_law_low","_law_by","_law_rest"] ["_law_one","_law_other"] (bF DK):=cc
theorem mG:bZ ["_law_pool_here","_law_form_here","_law_word","_law_cell","_law_size","_law_text","_law_k","_law_name","_law_inner"] ["_law_pool_here","_law_form_here"] (bF Ac):=cc
theorem J7:bZ ["_law_pool_here","_law_cell"] ["_law_pool_here"] (bF D5):=cc
theorem zJ:bZ ["_law_kept","_law_kinds_here"] ["_law_kept"] (bF D4):=cc
theorem Vv:bZ ["_law_found","_law_due"] ["_law_found","_law_due"] (bF Aj):=cc
theorem zt:bZ ["_law_number","_law_found"] ["_law_number"] (bF DW):=cc
theorem sL:bZ ["_law_made_here","_law_signs_here","_law_fills","_law_found","_law_kept","e"] ["_law_made_here","_law_signs_here","_law_fills"] (bF D6):=cc
theorem ki:bZ ["_law_script","_law_pool_here","_law_form_here","_law_made_here","_law_value_here","_law_row","_law_cell","_law_tail","_law_fills","_law_found","_law_kept","_law_cut"] ["_law_script"] (bF FI):=cc
structure dV(mg:af->Option ao):Prop where
 dZ:mg "len"=aw
 oc:mg "range"=aw
 tA:mg "int"=aw
 Iq:mg "str"=aw
 A4:mg "bool"=aw
 rO:mg "tuple"=aw
 gB:mg "isinstance"=aw
 Hx:mg "min"=aw
 Hv:mg "list"=aw
 vr:mg "all"=aw
 agp:mg "reversed"=aw
 Zr:mg "enumerate"=aw
 P7:mg "zip"=aw
 Of:mg "set"=aw
 Yw:mg "abs"=aw
section
open PySem dg gf
variable {P:cX} {w:cu} {K:bO} {mg:af->Option ao} {base:aX}
variable {f C:ae}{fd:fu}{c:eu}{n:Nat}{bz:D->Bool}{has:eW->Bool}{fw:D->List Bool}
seal bW jO gJ hx jv hj oy w3 iO sx Q4 w4
local macro_rules | `(tactic| walk_at "g1")=>`(tactic| first
 | with_reducible exact True.intro
 | refine⟨_,I,?_⟩
 | refine⟨_,_,I,I,?_⟩
 | refine Or.inl ⟨_,_,I,I,?_⟩
 | refine Or.inr ⟨_,_,I,I,?_⟩
 | refine⟨I,?_⟩
 | refine⟨(by first | omega | decide),?_⟩)
local macro_rules | `(tactic| walk_at "g")=>`(tactic| repeat walk_at "g1")
theorem e0{p A B:Prop}[Decidable p](aj:p->A)(ar:¬p->B):if decide p=ag then A else B:=by
 by_cases h:p
 ·rw[if_pos (ek h)];exact aj h
 ·rw[if_neg (by simpa using h)];exact ar h
theorem gC{p A B:Prop}[Decidable p](h:¬p)(ar:B):if decide p=ag then A else B:=by rw[if_neg (by simpa using h)];exact ar
theorem jl{p A B:Prop}[Decidable p](h:p)(ar:A):if decide p=ag then A else B:=by rw[if_pos (ek h)];exact ar
theorem ku{n:Nat}(h:n<=16000000):n<=bT:=ey h (by decide)
inductive Jm(vs:List V)(H:au)(Q:bx)(E:bP):Prop where
 |mk (l:List Bool) (bu:vs=[.str (bw l)]) (aj:l.length<=16000000) (ar:Q (.str (bw (l.map (!·)))) H):Jm  vs H Q E
def w5:b5:=fun vs H Q E=>Jm  vs H Q E
theorem eX{n:Nat}(h:n<=100000):n<=bT:=ey h (by decide)
theorem X1(l:List Bool){jg:Nat->V}(g:Bool->Bool)(h:∀ i,i<l.length->jg i = .str (bw [g (l.getD i ah)])):(List.range l.length).map jg=((l.map g).map fun b=>bw [b]).map V.str:=by
 apply List.ext_getElem?
 intro i
 rw[fT,fT,fT,fT]
 rcases jx i l.length with z | z
 ·rw[List.getElem?_range z,dm z]
  have:=h i z
  rw[e9,dm z] at this
  exact congrArg J this
 ·rw[zQ (by simpa using z),zQ z];rfl
theorem Lg(l:List Bool):((l.map fun b=>bw [b]).map (·.length)).sum+(l.map fun b=>bw [b]).length*(af.ofString "").length=l.length:=by
 have e:(af.ofString "").length=0:=by decide +kernel
 rw[e,Nat.mul_zero,Nat.add_zero]
 induction l with
 | nil=>rfl
 | cons b r cA=>simp only[jw,List.sum_cons,cA,dA,ed,List.length_nil];omega
theorem EO{ab:St}(h:ab.length=1):∃ z,ab=[z]:=by
 match ab,h with
 | [z],_=>exact⟨z,I⟩
theorem UD(F:dF K mg "turned_row" DT ["row"] f fd):bK P w K mg base 1 "turned_row" ["row"] w5:=by
 refine F.fK Us (fun bb A outer s H vs Q E az h=>?_)
 obtain⟨l,rfl,aC,q⟩:=h
 refine⟨_,(aT (bG (jP PySem.F.plainAttrs_str PySem.F.slot_str_join PySem.F.type_str_join vh cJ (av (iQ ["sign"] [] I (by decide +kernel) trivial (j7 (ai 0)) (fun _ _ _ _ _=>(eG (i:=0) (show (["sign"]:List af).Nodup by decide +kernel) rfl (by first | exact Or.inl I | exact Or.inr I))) (fun _ _ _ _ _=>iE) (fun _ _ _ _ _=>(nH (cm dd (ai 0) cJ) cJ cJ))) aA)))),?_⟩
 try dsimp only[cS,cT,cU,cV]
 refine⟨I,.inr ⟨_,I,_,I,fun D dB=>?_⟩⟩
 refine E1 l.length (fun i => .str (bw [l.getD i ah])) (fun i => .str (bw [!l.getD i ah])) (fun ab=>ab.length=1) (ku aC) ?_ ?_ ?_ ?_ ?_ ?_
 ·rfl
 ·intro i H1 aB;show i<(bw l).cps.size;simpa [bw] using aB
 ·intro H1;show (bw l).cps.size<=l.length;simp[bw]
 ·rintro i H1 x ax aB ⟨rfl,c,hc,rfl⟩
  exact⟨I,XI hc⟩
 ·intro i b8 H1 aB b7 R cY
  obtain⟨z,rfl⟩:=EO b7
  refine⟨_,I,I,_,I,?_⟩
  revert cY
  rw[s0,s1,XM]
  cases l.getD i ah
  ·intro cY;exact gD (cY _ (by rfl))
  ·intro cY;exact eb (cY _ (by rfl))
 ·refine⟨_,D,(l.map (!·)).map fun b=>bw [b],I,I,bX ?_,?_,H,.refl ?_,?_⟩
  ·rw[aM];exact congrArg (fun x=>J (cv.lst x)) (X1 l (!·) fun i _=>I)
  ·rw[Lg,cM];omega
  ·exact cL dB
  ·rw[KS];exact q
inductive OZ(vs:List V)(H:au)(Q:bx)(E:bP):Prop where
 |mk (n d:Nat) (bu:vs=[.int n,.int d]) (aj:d<=16000000) (ar:Q (.str (bw (d4 n d))) H):OZ  vs H Q E
def Ie:b5:=fun vs H Q E=>OZ  vs H Q E
theorem VX(n d:Nat):d4 n d=(List.range d).map fun i=>n.testBit (d - 1 - i):=by
 induction d with
 | zero=>rfl
 | succ d cA =>
  rw[d4,cA,List.range_succ_eq_map,jw,ir]
  congr 1
  apply pE
  intro i aB
  show n.testBit (d - 1 - i)=n.testBit (d+1 - 1 - (i+1))
  congr 1
  omega
theorem Su(n k:Nat):c1.bitAnd ((n:Int)/2 ^ k) 1=((n.testBit k).toNat:Int):=by
 rw[PyProof.Rows.bitAnd_m1]
 have e:((n:Int)/2 ^ k)%2=((n/2 ^ k%2:Nat):Int):=by
  rw[Int.natCast_emod,Int.natCast_ediv,Int.natCast_pow];rfl
 rw[e,Nat.testBit_eq_decide_div_mod_eq]
 have:n/2 ^ k%2<2:=Nat.mod_lt _ (by decide)
 by_cases q:n/2 ^ k%2=1
 ·simp[q]
 ·have:n/2 ^ k%2=0:=by omega
  simp[this]
theorem T3(nb:dV mg)(F:dF K mg "lower_digits" DJ ["n","width"] f fd):bK P w K mg base 1 "lower_digits" ["n","width"] Ie:=by
 refine F.fK TT (fun bb A outer s H vs Q E az h=>?_)
 obtain⟨n,d,rfl,aC,q⟩:=h
 refine⟨_,(aT (bG (jP PySem.F.plainAttrs_str PySem.F.slot_str_join PySem.F.type_str_join vh cJ (av (iQ ["k"] [(0,"n")] I (by decide +kernel) ⟨I,.inl I,trivial⟩ (KG I nb.oc (av (aQ gb (ai 1) aD) (av (lj k3 aD) (av (lj k3 aD) aA)))) (fun _ _ _ _ _=>(eG (i:=0) (show (["k","n"]:List af).Nodup by decide +kernel) rfl (by first | exact Or.inl I | exact Or.inr I))) (fun _ _ _ _ _=>iE) (fun _ _ _ _ _=>(nH (cm dd (aQ SP (aQ LZ (ai 1) (ai 0)) aD) aD) cJ cJ))) aA)))),?_⟩
 try dsimp only[cS,cT,cU,cV]
 refine⟨I,_,I,_,_,I,I,_,I,_,I,_,_,I,⟨by omega,by omega,by decide,by decide⟩,fun D dB=>?_⟩
 have bc:(((d:Int) - 1) - (-1)).toNat=d:=by omega
 refine E1 (((d:Int) - 1) - (-1)).toNat (fun i => .int ((d:Int) - 1+i*(-1))) (fun i => .str (bw [n.testBit (d - 1 - i)])) (fun ab=>∃ z,ab=[z,J (.int n)]) (by rw[bc];exact ku aC) ?_ ?_ ?_ ?_ ?_ ?_
 ·exact⟨_,I⟩
 ·intro i H1 aB;exact aB
 ·intro H1;exact cx _
 ·rintro i H1 x ax aB ⟨rfl,rfl⟩
  exact⟨I,I⟩
 ·rintro i b8 H1 aB ⟨z,rfl⟩ R cY
  rw[bc] at aB
  have nR:((d:Int) - 1+(i:Int)*(-1)).toNat=d - 1 - i:=by omega
  refine⟨_,I,_,I,_,_,I,I,(by omega),_,_,I,I,I,_,I,?_⟩
  have aq:c1.bitAnd ((n:Int)/2 ^ ((d:Int) - 1+(i:Int)*(-1)).toNat) 1=((n.testBit (d - 1 - i)).toNat:Int):=by rw[nR];exact Su _ _
  revert cY
  rw[s0,s1]
  cases e:n.testBit (d - 1 - i)
  ·rw[e] at aq
   intro cY;exact gC (fun c=>absurd (aq.symm.trans (V.int.inj c)) (by decide)) (cY _ ⟨_,I⟩)
  ·rw[e] at aq
   intro cY;exact jl (congrArg V.int aq) (cY _ ⟨_,I⟩)
 ·refine⟨_,D,(d4 n d).map fun b=>bw [b],I,I,bX ?_,?_,H,.refl ?_,?_⟩
  ·rw[aM,bc,VX,ir,ir];rfl
  ·rw[Lg,kF];omega
  ·exact cL dB
  ·rw[KS];exact q
inductive OB(vs:List V)(H:au)(Q:bx)(E:bP):Prop where
 |mk (n m:Nat) (bu:vs=[.int n,.int m]) (aj:n<=m) (ar:aZ m<=16000000) (bB:Q (.str (bw (d4 n (aZ m)))) H):OB  vs H Q E
def yN:b5:=fun vs H Q E=>OB  vs H Q E
theorem Ve(F:dF K mg "fixed_row" D8 ["n","most"] f fd)(sd:bK P w K mg base 1 "lower_digits" ["n","width"] Ie):bK P w K mg base 2 "fixed_row" ["n","most"] yN:=by
 refine F.fK UZ (fun bb A outer s H vs Q E az h=>?_)
 obtain⟨n,m,rfl,aC,aq,q⟩:=h
 refine⟨_,(aP (cR (gJ.pt (kf (cm oa (ai 0) aD) (k4 (cm kS (ai 0) (ai 1))))) (aT nG) cQ)
  (aT (bG (cq sd az (av (ai 0) (av (xw PySem.F.plainAttrs_int PySem.F.slot_int_bit_length PySem.F.type_int_bit_length xh (ai 1)) aA)))))),?_⟩
 try dsimp only[cS,cT,cU,cV]
 refine⟨_,I,.inl ⟨_,_,I,I,_,I,?_⟩⟩
 refine gC (by omega) ⟨_,I,_,I,_,_,I,I,_,I,?_⟩
 refine gC (by omega) ⟨_,I,_,I,I,_,I,I,?_⟩
 rw[vl]
 exact⟨n,aZ m,I,aq,H,.refl (dR _),q⟩
structure y7(K:bO)(mg:af->Option ao)(x:af)(D:ae):Prop where
 MF:mg x=J (.ref D)
 aiZ:I2 K (.ref D) "__getattribute__"=J (J (.builtin "type.__getattribute__"))
 ai0:PySem.W.readsIn K D (.type "type")=ag
 aiY:PySem.W.findCls K (.ref D) (.type "type") "__init__"=J (.val (.builtin "ValueError.__init__"))
theorem FJ(a:af)(h:a.length<=100):(af.empty++a).length<=100:=by
 rw[strLen_append]
 have:af.empty.length=0:=rfl
 omega
theorem Ir{n:Nat}(h:n<=3000):n<=bT:=ey h (by decide)
theorem yV(a:af)(ba:a.length<=100):(af.empty++a).length<=bT:=Ir (ey (FJ a ba) (by decide))
theorem Cq(a:af)(i:Int)(ba:a.length<=100)(h:i.natAbs.log2<1920):(af.empty++a++af.ofString (toString i)).length<=bT:=by
 have aj:=FJ a ba
 have ar:=PyProof.Rows.int_text_len_1921 h
 rw[strLen_append]
 exact Ir (by omega)
theorem Cr(a c:af)(i:Int)(ba:a.length<=100)(hc:c.length<=100)(h:i.natAbs.log2<1920):(af.empty++a++af.ofString (toString i)++c).length<=bT:=by
 have aj:=FJ a ba
 have ar:=PyProof.Rows.int_text_len_1921 h
 rw[strLen_append,strLen_append]
 exact Ir (by omega)
theorem UM{f C D:ae}(qr:oL K C f=ag)(S:pq K C)(cf:rW K C "place"=J aw)(B:y7 K mg "RiseError" D)(F:c2 K "__init__" "Short.__init__" u1 f fd):cg P w K mg base dk 1 f fd ["self","place"] (rJ C):=by
 obtain⟨nT,s3,s4,sZ⟩:=B
 refine F.ok Uz (fun vs H Q E h=>?_) (fun bb A outer s H vs Q E az h=>?_)
 ·obtain⟨e,n,rfl,_⟩:=h;rfl
 obtain⟨e,n,rfl,he,hs,q⟩:=h
 refine⟨_,(aP (h9 (Ee qr nT s3 s4 sZ (av (ai 0) (av (EC (qQ cJ (qQ (Fc (ai 1)) (qQ cJ Fy)))) aA))))
  (aT (Fa (ai 0) (ai 1) rfl))),?_⟩
 try dsimp only[cS,cT,cU,cV]
 have a1:(af.ofString "the signs end at place ").length<=100:=by decide +kernel
 have a2:(af.ofString ", ahead of the row's end").length<=100:=by decide +kernel
 refine⟨_,I,_,I,yV _ a1,_,I,_,I,hs,_,I,Cq _ _ a1 hs,_,I,Cr _ _ _ a1 a2 hs,Cr _ _ _ a1 a2 hs,e,_,I,he,?_⟩
 exact⟨_,I,_,I,e,C,I,he,S,cf,q⟩
theorem UL{f C D:ae}(qr:oL K C f=ag)(S:pq K C)(cf:rW K C "place"=J aw)(B:y7 K mg "RiseError" D)(F:c2 K "__init__" "Wrong.__init__" u0 f fd):cg P w K mg base dk 1 f fd ["self","place"] (rJ C):=by
 obtain⟨nT,s3,s4,sZ⟩:=B
 refine F.ok Uu (fun vs H Q E h=>?_) (fun bb A outer s H vs Q E az h=>?_)
 ·obtain⟨e,n,rfl,_⟩:=h;rfl
 obtain⟨e,n,rfl,he,hs,q⟩:=h
 refine⟨_,(aP (h9 (Ee qr nT s3 s4 sZ (av (ai 0) (av (EC (qQ cJ (qQ (Fc (ai 1)) Fy))) aA))))
  (aT (Fa (ai 0) (ai 1) rfl))),?_⟩
 try dsimp only[cS,cT,cU,cV]
 have a1:(af.ofString "no row goes on with the sign at place ").length<=100:=by decide +kernel
 refine⟨_,I,_,I,yV _ a1,_,I,_,I,hs,_,I,Cq _ _ a1 hs,Cq _ _ a1 hs,e,_,I,he,?_⟩
 exact⟨_,I,_,I,e,C,I,he,S,cf,q⟩
theorem Vh{f C D:ae}(qr:oL K C f=ag)(S:pq K C)(cf:rW K C "place"=J aw)(B:y7 K mg "RiseError" D)(F:c2 K "__init__" "Left.__init__" uE f fd):cg P w K mg base dk 1 f fd ["self","place"] (rJ C):=by
 obtain⟨nT,s3,s4,sZ⟩:=B
 refine F.ok U6 (fun vs H Q E h=>?_) (fun bb A outer s H vs Q E az h=>?_)
 ·obtain⟨e,n,rfl,_⟩:=h;rfl
 obtain⟨e,n,rfl,he,hs,q⟩:=h
 refine⟨_,(aP (h9 (Ee qr nT s3 s4 sZ (av (ai 0) (av (EC (qQ cJ (qQ (Fc (ai 1)) (qQ cJ Fy)))) aA))))
  (aT (Fa (ai 0) (ai 1) rfl))),?_⟩
 try dsimp only[cS,cT,cU,cV]
 have a1:(af.ofString "the signs go on at place ").length<=100:=by decide +kernel
 have a2:(af.ofString ", behind the row's end").length<=100:=by decide +kernel
 refine⟨_,I,_,I,yV _ a1,_,I,_,I,hs,_,I,Cq _ _ a1 hs,_,I,Cr _ _ _ a1 a2 hs,Cr _ _ _ a1 a2 hs,e,_,I,he,?_⟩
 exact⟨_,I,_,I,e,C,I,he,S,cf,q⟩
noncomputable def fm(z:af)(i:Int)(t e:Bool)(u:Int):List (af×V):=[("signs",.str z),("place",.int i),("turned",.aH t),("endless",.aH e),("wished",.int u)]
noncomputable abbrev Bf(z:af)(i:Int)(t e:Bool):List (af×V):=fm z i t e 0
structure qL(K:bO)(C:ae):Prop where
 cl:fe K C
 m1:jN K C "signs"
 ry:jN K C "place"
 h3:jN K C "turned"
 Hz:jN K C "endless"
 B2:jN K C "wished"
theorem Mr:¬(("signs":af)="place"):=by decide +kernel
theorem Ms:¬(("signs":af)="turned"):=by decide +kernel
theorem Mt:¬(("signs":af)="endless"):=by decide +kernel
theorem Mu:¬(("signs":af)="wished"):=by decide +kernel
theorem Mv:¬(("place":af)="turned"):=by decide +kernel
theorem Mw:¬(("place":af)="endless"):=by decide +kernel
theorem Mx:¬(("place":af)="wished"):=by decide +kernel
theorem My:¬(("turned":af)="endless"):=by decide +kernel
theorem Mz:¬(("turned":af)="wished"):=by decide +kernel
theorem MA:¬(("endless":af)="wished"):=by decide +kernel
theorem ZV:(("place":af) == "signs")=ah:=by decide +kernel
theorem ZW:(("turned":af) == "signs")=ah:=by decide +kernel
theorem ZX:(("turned":af) == "place")=ah:=by decide +kernel
theorem ZY:(("endless":af) == "signs")=ah:=by decide +kernel
theorem ZZ:(("endless":af) == "place")=ah:=by decide +kernel
theorem Z0:(("endless":af) == "turned")=ah:=by decide +kernel
theorem Z1:(("wished":af) == "signs")=ah:=by decide +kernel
theorem Z2:(("wished":af) == "place")=ah:=by decide +kernel
theorem Z3:(("wished":af) == "turned")=ah:=by decide +kernel
theorem Z4:(("wished":af) == "endless")=ah:=by decide +kernel
theorem As(z:af):e8 "signs" (.str z) []=([("signs",.str z)]:List (af×V)):=rfl
theorem Am(z:af)(i:Int):e8 "place" (.int i) ([("signs",.str z)]:List (af×V))=([("signs",.str z),("place",.int i)]:List (af×V)):=by
 simp only[e8,Mr,if_false]
theorem Ed(z:af)(i:Int)(t:Bool):e8 "turned" (.aH t) ([("signs",.str z),("place",.int i)]:List (af×V))=([("signs",.str z),("place",.int i),("turned",.aH t)]:List (af×V)):=by
 simp only[e8,Ms,Mv,if_false]
theorem Kb(z:af)(i:Int)(t e:Bool):e8 "endless" (.aH e) ([("signs",.str z),("place",.int i),("turned",.aH t)]:List (af×V))=([("signs",.str z),("place",.int i),("turned",.aH t),("endless",.aH e)]:List (af×V)):=by
 simp only[e8,Mt,Mw,My,if_false]
theorem Vz(z:af)(i:Int)(t e:Bool)(u:Int):e8 "wished" (.int u) ([("signs",.str z),("place",.int i),("turned",.aH t),("endless",.aH e)]:List (af×V))=fm z i t e u:=by
 simp only[e8,Mu,Mx,Mz,MA,if_false];rfl
theorem WK(z:af)(i j:Int)(t e:Bool)(u:Int):e8 "place" (.int j) (fm z i t e u)=fm z j t e u:=by
 simp only[fm,e8,Mr,if_false,if_true]
theorem Wa(z:af)(i:Int)(t kV e:Bool)(u:Int):e8 "turned" (.aH kV) (fm z i t e u)=fm z i kV e u:=by
 simp only[fm,e8,Ms,Mv,if_false,if_true]
theorem VA(z:af)(i:Int)(t e aL:Bool)(u:Int):e8 "endless" (.aH aL) (fm z i t e u)=fm z i t aL u:=by
 simp only[fm,e8,Mt,Mw,My,if_false,if_true]
theorem Kr(z:af)(i:Int)(t e:Bool)(u lM:Int):e8 "wished" (.int lM) (fm z i t e u)=fm z i t e lM:=by
 simp only[fm,e8,Mu,Mx,Mz,MA,if_false,if_true]
theorem Ao(z:af)(i:Int)(t e:Bool){u:Int}:(fm z i t e u).lookup ("signs":af)=J (.str z):=by simp[fm]
theorem uG(z:af)(i:Int)(t e:Bool){u:Int}:(fm z i t e u).lookup ("place":af)=J (.int i):=by
 simp[fm,List.lookup,ZV]
theorem Kl(z:af)(i:Int)(t e:Bool){u:Int}:(fm z i t e u).lookup ("turned":af)=J (.aH t):=by
 simp[fm,List.lookup,ZW,ZX]
theorem Vj(z:af)(i:Int)(t e:Bool){u:Int}:(fm z i t e u).lookup ("endless":af)=J (.aH e):=by
 simp[fm,List.lookup,ZY,ZZ,Z0]
theorem VM(z:af)(i:Int)(t e:Bool){u:Int}:(fm z i t e u).lookup ("wished":af)=J (.int u):=by
 simp[fm,List.lookup,Z1,Z2,Z3,Z4]
theorem xj(z:af)(i:Int)(t e:Bool){u:Int}{m:af}(h:(m == ("signs":af))=ah)(ar:(m == ("place":af))=ah)(bB:(m == ("turned":af))=ah)
  (b0:(m == ("endless":af))=ah:=by decide +kernel) (eB:(m == ("wished":af))=ah:=by decide +kernel):(fm z i t e u).lookup m=aw:=by
 simp[fm,List.lookup,h,ar,bB,b0,eB]
inductive Pm(C:ae)(vs:List V)(H:au)(Q:bx)(E:bP):Prop where
 |mk (p al z i) (bu:vs=[.ref p,.str z,.int i]) (aj:H p=J (.ins C al [])) (ar:Q .bL (upd H p (.ins C al (Bf z i ah ah)))):Pm C vs H Q E
def Io(C:ae):b5:=fun vs H Q E=>Pm C vs H Q E
theorem VE(T:qL K C)(F:c2 K "__init__" "Source.__init__" DQ f fd):cg P w K mg base dk 1 f fd ["self","signs","at"] (Io C):=by
 refine F.ok Ue (fun vs H Q E h=>?_) (fun bb A outer s H vs Q E az h=>?_)
 ·obtain⟨p,al,z,i,rfl,_⟩:=h;rfl
 obtain⟨p,al,z,i,rfl,bh,q⟩:=h
 refine⟨_,(aP (iT (ai 0) (ai 1) I)
  (aP (iT (ai 0) (ai 2) rfl)
  (aP (iT (ai 0) gn rfl)
  (aP (iT (ai 0) gn rfl)
  (aT (iT (ai 0) aD rfl)))))),?_⟩
 try dsimp only[cS,cT,cU,cV]
 refine⟨_,I,_,I,p,C,al,_,I,bh,T.cl,T.m1,(by show 0<1000;decide),?_⟩
 refine⟨_,I,_,I,p,C,al,_,I,aM,T.cl,T.ry,(by show 1<1000;decide),?_⟩
 refine⟨_,I,p,C,al,_,I,aM,T.cl,T.h3,(by rw[As,Am];show 2<1000;decide),?_⟩
 refine⟨_,I,p,C,al,_,I,aM,T.cl,T.Hz,(by rw[As,Am,Ed];show 3<1000;decide),?_⟩
 refine⟨_,I,p,C,al,_,I,aM,T.cl,T.B2,(by rw[As,Am,Ed,Kb];show 4<1000;decide),?_⟩
 rw[h8,h8,h8,h8,As,Am,Ed,Kb,Vz]
 exact q
noncomputable abbrev gZ(C al:ae)(l:List Bool)(i:Nat)(t e:Bool):cv := .ins C al (Bf (bw l) ((i:Nat):Int) t e)
noncomputable abbrev o3(C al:ae)(l:List Bool)(i:Nat)(t e:Bool)(u:Int):cv := .ins C al (fm (bw l) ((i:Nat):Int) t e u)
noncomputable def sees(l:List Bool)(t:Bool)(j:Nat):List Bool:=(l.map (xor t)).drop j
theorem V5{l:List Bool}{i:Nat}(t:Bool)(aB:i<=l.length):(i=l.length/\sees l t i=[])\/∃ b,l[i]?=J b/\i<l.length/\sees l t i=(xor t b)::sees l t (i+1):=by
 rcases jx i l.length with z | z
 ·refine .inr ⟨l[i],dm z,z,?_⟩
  unfold sees
  rw[zP (by rw[cM];exact z),jR]
 ·refine .inl ⟨by omega,?_⟩
  unfold sees
  exact List.drop_eq_nil_of_le (by rw[cM];exact z)
theorem vb(l:List Bool)(t:Bool)(i:Nat):sees l (!t) i=(sees l t i).map (!·):=by
 unfold sees
 rw[List.map_drop,ir]
 have aL:(fun x:Bool=>!x) ∘ (xor t)=xor (!t):=by funext x;cases x<;>cases t<;>rfl
 rw[aL]
theorem w6{l:List Bool}{t:Bool}{i:Nat}{s:List Bool}(aB:i<=l.length)(h:sees l t i=s):l.length - s.length=i/\s.length<=l.length:=by
 rw[<- h]
 unfold sees
 rw[nF,cM]
 omega
theorem Ext.IQ{H:au}{d:ae}{i:Int}(h:H d=aw):Ext H (upd H d (kY i)):=⟨cL h,fun cl=>sj cl h trivial⟩
def iP(E:bP)(p:ae)(H:au)(X:ae)(i:Int):Prop:=∀ o d H',b3 p H H'->H' p=J o->H' d=aw->E (.ref X) (J d) (upd H' d (kY i))
theorem iP.up{E:bP}{p:ae}{H ax:au}{X:ae}{i:Int}(q:iP E p H X i)(M:b3 p H ax):iP (lr H E) p ax X i:=fun o d H' uH b7 hd=>by
 have aen:p≠d:=fun z=>by rw[<- z,b7] at hd;cases hd
 have M2:=M.trans uH
 exact⟨_,(M2.ext (Ext.IQ hd)).sub (by rw[bJ aen];exact b7),q o d H' M2 b7 hd⟩
noncomputable def kK(l:List Bool)(w:Bool)(k:Nat):Int:=if w=ag then ((l.length - k:Nat):Int) - 1 else ((l.length:Nat):Int)
noncomputable def cK{α:Type}(g:α->au->V->Prop)(aN:Bool->ae)(C p al:ae)(l:List Bool)(t e:Bool)(H:au)(Q:bx)(E:bP):R α->Prop
 | .ok a s=>∀ v H' j,b3 p H H'->g a H' v->j<=l.length->sees l t j=s->H' p=J (gZ C al l j t e)->Q v H'
 | .no w k=>iP E p H (aN w) (kK l w k)
 | .st=>False
theorem cK.call{α β:Type}{g:β->au->V->Prop}{g':α->au->V->Prop}{aN:Bool->ae}{C p al:ae}{l:List Bool}{t e:Bool}{H ax:au}{Q fX:bx}{E:bP}{F:R α}{G:α->List Bool->R β}(h:cK g aN C p al l t e H Q E (F.bd G))(M:b3 p H ax)
  (k:∀ a s v bt j,F = .ok a s->b3 p ax bt->g' a bt v->j<=l.length->sees l t j=s->bt p=J (gZ C al l j t e)->cK g aN C p al l t e H Q E (G a s)->fX v bt):cK g' aN C p al l t e ax fX (lr H E) F:=by
 cases F with
 | ok a s=>exact fun v bt j cw aK cy hs b7=>k a s v bt j I cw aK cy hs b7 h
 | no w n=>exact iP.up h M
 | st=>exact h
theorem cK.YJ{α β:Type}{g:β->au->V->Prop}{g':α->au->V->Prop}{aN:Bool->ae}{C p al:ae}{l:List Bool}{t e:Bool}{H ax:au}{Q fX:bx}{E:bP}{F:R α}{G:α->List Bool->R β}(h:cK g aN C p al l t e H Q E (F.bd G).cH)(M:b3 p H ax)
  (k:∀ a s v bt j,F = .ok a s->b3 p ax bt->g' a bt v->j<=l.length->sees l (!t) j=s->bt p=J (gZ C al l j (!t) e)->cK g aN C p al l t e H Q E (G a s).cH->fX v bt):cK g' aN C p al l (!t) e ax fX (lr H E) F:=by
 cases F with
 | ok a s=>exact fun v bt j cw aK cy hs b7=>k a s v bt j I cw aK cy hs b7 h
 | no w n=>exact iP.up h M
 | st=>exact h
def Z5(b:Bool)(_:au)(v:V):Prop:=v = .int ((b.toNat:Nat):Int)
def pW(n:Nat)(_:au)(v:V):Prop:=v = .int ((n:Nat):Int)
def ME(n:Int)(_:au)(v:V):Prop:=v = .int n
noncomputable def bi(u:Bool):Int:=((u.toNat:Nat):Int)
inductive Ow(aN:Bool->ae)(C:ae)(vs:List V)(H:au)(Q:bx)(E:bP):Prop where
 |mk (p al:ae) (l:List Bool) (i:Nat) (t e u:Bool) (bu:vs=[.ref p]) (aj:H p=J (o3 C al l i t e (bi u))) (ar:l.length<=16000000) (bB:i<=l.length) (b0:cK Z5 aN C p al l t e H Q E (eQ e u (sees l t i))):Ow aN C vs H Q E
def og(aN:Bool->ae)(C:ae):b5:=fun vs H Q E=>Ow aN C vs H Q E
theorem ED{n:Nat}(h:n<=16000000):((n:Nat):Int).natAbs.log2<1920:=by
 rw[Int.natAbs_natCast]
 by_cases z:n=0
 ·subst z;decide
 ·exact(Nat.log2_lt z).mpr (Nat.lt_of_le_of_lt h (by decide +kernel))
theorem Sl{f q1 C eM:ae}{aN:Bool->ae}{fd q2:fu}(nb:dV mg)(T:qL K C)(jD:aN ah=eM)(DF:sH K mg "Short" eM q1)(DC:cg P w K mg base dk 1 q1 q2 ["self","place"] (rJ eM))(Dz:Binds K q2 ["self","place"] [])(F:c2 K "draw" "Source.draw" zE f fd):cg P w K mg base (fv P w) 3 f fd ["self"] (og aN C):=by
 refine F.iz DH (fun bb A outer s H vs Q E az h=>?_)
 obtain⟨p,al,l,i,t,e,u,rfl,bh,aC,aB,q⟩:=h
 have M:∀ j,b3 p H (upd H p (gZ C al l j t e)):=fun j=>b3.move bh
 refine⟨_,(aP (bV 1 DH.br (ee (ai 0) I))
  (aP (iT (ai 0) aD rfl)
  (aP (cR (cm oa (ee (ai 0) rfl) (cj d8 rfl nb.dZ d3 (av (ee (ai 0) rfl) aA))) (aP (bV 2 DH.br (u6 Ay rfl nb.tA sS (av (cN cP (ee (ai 0) rfl) (ee (ai 0) rfl)) aA)))
   (aP (iT (ai 0) (aQ eh (ee (ai 0) rfl) aD) rfl)
   (aT (bG (nH (g8 (ee (ai 0) rfl)) (aQ gb aD (ai 2)) (ai 2)))))) cQ)
  (aP (cR (iS (g8 (ee (ai 0) rfl))) (aT (EB Ex DF DC Dz az (av (cj d8 rfl nb.dZ d3 (av (ee (ai 0) rfl) aA)) aA))) cQ)
  (aT (bG (ai 1))))))),?_⟩
 try dsimp only[cS,cT,cU,cV]
 refine⟨_,I,p,C,al,_,_,I,bh,T.cl,T.B2,VM ..,?_⟩
 refine⟨_,I,p,C,al,_,I,bh,T.cl,T.B2,(by show 5<1000;decide),?_⟩
 rw[Kr]
 refine⟨_,I,p,C,al,_,_,I,aM,T.cl,T.ry,uG ..,_,I,p,C,al,_,_,I,aM,T.cl,T.m1,Ao ..,_,_,I,⟨by rw[dA];exact ku aC,I⟩,.inl ⟨_,_,rfl,rfl,_,rfl,?_⟩⟩
 rcases V5 t aB with⟨ajn,hs⟩ | ⟨b,aq,BA,hs⟩
 ·refine gC (by rw[dA];omega) ?_
  rw[hs] at q
  refine⟨_,I,p,C,al,_,_,I,aM,T.cl,T.Hz,Vj ..,e,I,?_⟩
  cases e with
  | false =>
   refine gD ?_
   have q:iP E p H (aN ah) (kK l ah 0):=q
   rw[jD] at q
   have iF:((l.length:Nat):Int)=(((bw l).length:Nat):Int):=by rw[dA]
   refine⟨_,I,p,C,al,_,_,I,aM,T.cl,T.m1,Ao ..,_,_,I,⟨by rw[dA];exact ku aC,I⟩,((l.length:Nat):Int),(by rw[iF]),ED aC,fun d hd=>?_⟩
   exact q.up (M i) _ d _ (b3.refl _ _) aM hd
  | true =>
   refine eb ⟨_,I,?_⟩
   exact⟨_,(M i).sub aM,q _ _ i (M i) I aB hs aM⟩
 ·refine jl (by rw[dA];omega) ?_
  rw[hs] at q
  refine⟨_,I,p,C,al,_,_,I,aM,T.cl,T.m1,Ao ..,_,I,p,C,al,_,_,I,aM,T.cl,T.ry,uG ..,.inr ⟨_,_,pM b,I,I,by rw[dA];exact ku aC,dt (XJ aq),.inr ⟨_,_,I,XF b,(by show 1<=640;decide),?_⟩⟩⟩
  refine⟨_,I,p,C,al,_,_,I,aM,T.cl,T.ry,uG ..,.inl ⟨_,_,I,I,_,I,p,C,al,_,I,aM,T.cl,T.ry,(by show 5<1000;decide),?_⟩⟩
  rw[WK,h8]
  have cE:=fun v h=>q v _ (i+1) (M (i+1)) h (by omega) rfl aM
  refine⟨_,I,p,C,al,_,_,I,aM,T.cl,T.h3,Kl ..,_,I,?_⟩
  cases t with
  | false=>exact eb ⟨_,I,_,(M (i+1)).sub aM,cE _ (by cases b<;>rfl)⟩
  | true=>exact gD ⟨_,I,_,_,I,I,_,(M (i+1)).sub aM,cE _ (by cases b<;>rfl)⟩
def wo(aN:Bool->ae)(C:ae):b5:=fun vs H _ E=>∃ (p al:ae) (l:List Bool) (i:Nat) (t e:Bool),vs=[.ref p]/\H p=J (gZ C al l i t e)/\i<=16000000/\iP E p H (aN ag) (((i:Nat):Int) - 1)
theorem X3{i:Nat}(h:i<=16000000):(((i:Nat):Int) - 1).natAbs.log2<1920:=by
 by_cases z:i=0
 ·subst z;decide
 ·have:((i:Nat):Int) - 1=((i - 1:Nat):Int):=by omega
  rw[this];exact ED (by omega)
theorem Xh{f q1 C gd:ae}{aN:Bool->ae}{fd q2:fu}(T:qL K C)(jD:aN ag=gd)(DG:sH K mg "Wrong" gd q1)(DD:cg P w K mg base dk 1 q1 q2 ["self","place"] (rJ gd))(DA:Binds K q2 ["self","place"] [])(F:c2 K "refuse" "Source.refuse" z1 f fd):cg P w K mg base (fv P w) 3 f fd ["self"] (wo aN C):=by
 refine F.iz TH (fun bb A outer s H vs Q E az h=>?_)
 obtain⟨p,al,l,i,t,eL,rfl,bh,aC,q⟩:=h
 refine⟨_,(aT (EB Ex DG DD DA az (av (aQ gb (ee (ai 0) I) aD) aA))),?_⟩
 try dsimp only[cS,cT,cU,cV]
 rw[jD] at q
 exact⟨_,I,p,C,al,_,_,I,bh,T.cl,T.ry,uG ..,_,_,I,I,_,I,X3 aC,fun d hd=>q.up (b3.refl _ _) _ d _ (b3.refl _ _) bh hd⟩
inductive Po(C:ae)(vs:List V)(H:au)(Q:bx)(E:bP):Prop where
 |mk (p al:ae) (l:List Bool) (i:Nat) (t e:Bool) (u:Int) (bu:vs=[.ref p]) (aj:H p=J (.ins C al (fm (bw l) ((i:Nat):Int) t e u))) (ar:Q .bL (upd H p (.ins C al (fm (bw l) ((i:Nat):Int) (!t) e u)))):Po C vs H Q E
def yT(C:ae):b5:=fun vs H Q E=>Po C vs H Q E
theorem R1(T:qL K C)(F:c2 K "turn" "Source.turn" zD f fd):cg P w K mg base dk 1 f fd ["self"] (yT C):=by
 refine F.ok Ud (fun vs H Q E h=>?_) (fun bb A outer s H vs Q E az h=>?_)
 ·obtain⟨p,al,l,i,t,e,u,rfl,_⟩:=h;rfl
 obtain⟨p,al,l,i,t,e,u,rfl,bh,q⟩:=h
 refine⟨_,(aT (iT (ai 0) (Fb (ee (ai 0) I)) I)),?_⟩
 try dsimp only[cS,cT,cU,cV]
 refine⟨_,I,p,C,al,_,_,I,bh,T.cl,T.h3,Kl ..,t,I,_,I,p,C,al,_,I,bh,T.cl,T.h3,(by show 5<1000;decide),?_⟩
 rw[Wa]
 exact q
inductive OI(C:ae)(vs:List V)(H:au)(Q:bx)(E:bP):Prop where
 |mk (p al:ae) (l:List Bool) (i:Nat) (t e:Bool) (u:Int) (bu:vs=[.ref p]) (aj:H p=J (.ins C al (fm (bw l) ((i:Nat):Int) t e u))) (ar:Q .bL (upd H p (.ins C al (fm (bw l) ((i:Nat):Int) t ag u)))):OI C vs H Q E
def OH(C:ae):b5:=fun vs H Q E=>OI C vs H Q E
theorem XX(T:qL K C)(F:c2 K "go_on" "Source.go_on" zl f fd):cg P w K mg base dk 1 f fd ["self"] (OH C):=by
 refine F.ok Zip (fun vs H Q E h=>?_) (fun bb A outer s H vs Q E az h=>?_)
 ·obtain⟨p,al,l,i,t,e,u,rfl,_⟩:=h;rfl
 obtain⟨p,al,l,i,t,e,u,rfl,bh,q⟩:=h
 refine⟨_,(aT (iT (ai 0) gn I)),?_⟩
 try dsimp only[cS,cT,cU,cV]
 refine⟨_,I,p,C,al,_,I,bh,T.cl,T.Hz,(by show 5<1000;decide),?_⟩
 rw[VA]
 exact q
inductive Pu(C:ae)(vs:List V)(H:au)(Q:bx)(E:bP):Prop where
 |mk (p al:ae) (z:af) (i:Int) (t e:Bool) (u v:Int) (bu:vs=[.ref p,.int v]) (aj:H p=J (.ins C al (fm z i t e u))) (ar:Q .bL (upd H p (.ins C al (fm z i t e v)))):Pu C vs H Q E
def Pt(C:ae):b5:=fun vs H Q E=>Pu C vs H Q E
theorem R0(T:qL K C)(F:c2 K "wish" "Source.wish" zC f fd):cg P w K mg base dk 1 f fd ["self","sign"] (Pt C):=by
 refine F.ok Uc (fun vs H Q E h=>?_) (fun bb A outer s H vs Q E az h=>?_)
 ·obtain⟨p,al,z,i,t,e,u,v,rfl,_⟩:=h;rfl
 obtain⟨p,al,z,i,t,e,u,v,rfl,bh,q⟩:=h
 refine⟨_,(aT (iT (ai 0) (ai 1) I)),?_⟩
 try dsimp only[cS,cT,cU,cV]
 refine⟨_,I,_,I,p,C,al,_,I,bh,T.cl,T.B2,(by show 5<1000;decide),?_⟩
 rw[Kr]
 exact q
theorem pK{α β CN:Type}(x:R α)(f:α->List Bool->R β)(g:β->List Bool->R CN):(x.bd f).bd g=x.bd fun a s=>(f a s).bd g:=by cases x<;>rfl
theorem xt{e:Bool}:∀ {w n v:Nat} {s r:List Bool},g9 e w n s = .ok v r->n<=v
 | 0,n,v,s,r,h=>by
  injection h with aj ar
  omega
 | w+1,n,v,s,r,h=>by
  obtain⟨b,aF,aj,ar⟩:=eF h
  have:=xt ar
  omega
inductive OY(aN:Bool->ae)(C:ae)(vs:List V)(H:au)(Q:bx)(E:bP):Prop where
 |mk (p al:ae) (l:List Bool) (i d:Nat) (t e:Bool) (bu:vs=[.ref p,.int d]) (aj:H p=J (gZ C al l i t e)) (ar:l.length<=16000000) (bB:i<=l.length) (b0:d<=300) (eB:cK pW aN C p al l t e H Q E (g9 e d 1 (sees l t i))):OY aN C vs H Q E
def OX(aN:Bool->ae)(C:ae):b5:=fun vs H Q E=>OY aN C vs H Q E
theorem pJ{z:af}{i:Int}{t e:Bool}{u:Int}:(fm z i t e u).lookup ("draw":af)=aw:=xj _ _ _ _ (by decide +kernel) (by decide +kernel) (by decide +kernel)
theorem vi{z:af}{i:Int}{t e:Bool}{u:Int}:(fm z i t e u).lookup ("turn":af)=aw:=xj _ _ _ _ (by decide +kernel) (by decide +kernel) (by decide +kernel)
theorem LD{z:af}{i:Int}{t e:Bool}{u:Int}:(fm z i t e u).lookup ("wish":af)=aw:=xj _ _ _ _ (by decide +kernel) (by decide +kernel) (by decide +kernel)
theorem Aw{z:af}{i:Int}{t e:Bool}{u:Int}:(fm z i t e u).lookup ("refuse":af)=aw:=xj _ _ _ _ (by decide +kernel) (by decide +kernel) (by decide +kernel)
theorem Ti{f C:ae}{aN:Bool->ae}{fd:fu}(nb:dV mg)(e6:fe K C)(F:dF K mg "draw_lower_digits" Dw ["source","width"] f fd)(gI:jb P w K mg base 3 C "draw" ["self"] (og aN C)):gH P w K mg base 4 "draw_lower_digits" ["source","width"] (OX aN C):=by
 refine F.iz z4 (fun bb A outer s H vs Q E az h=>?_)
 obtain⟨p,al,l,i,d,t,e,rfl,bh,aC,aB,hd,q⟩:=h
 refine⟨_,(aP (bV 2 z4.br aD)
  (aP (oD i9.leaving rfl (pF rfl nb.oc (av (ai 1) aA)) (eG (i:=3) z4.br rfl (by exact Or.inl I))
   (aT (bV 2 z4.br (aQ eh (aQ kr aD (ai 2)) (lY gI e6 az gs.x (ai 0))))))
  (aT (bG (ai 2))))),?_⟩
 try dsimp only[cS,cT,cU,cV]
 refine⟨_,I,_,I,by omega,by omega,?_⟩
 have gP:((d:Nat):Int).toNat=d:=by omega
 rw[gP]
 refine u9 (fun j ab ax=>∃ (n i:Nat) (z:Option V),ab=[J (.ref p),J (.int d),J (.int ((n:Nat):Int)),z]/\b3 p H ax/\ax p=J (gZ C al l i t e)/\i<=l.length/\cK pW aN C p al l t e H Q E (g9 e (d - j) n (sees l t i))) ?_ ?_ ?_
 ·exact⟨1,i,aw,I,b3.refl _ _,bh,aB,q⟩
 ·rintro j ab ax cy ⟨n,i,z,rfl,M,b7,aB,q⟩
  rw[show d - j=d - (j+1)+1 by omega] at q
  refine⟨_,I,.inl ⟨_,_,I,I,.inl ⟨by decide,by decide⟩,_,rfl,p,al,_,rfl,b7,pJ,?_⟩⟩
  refine⟨p,al,l,i,t,e,ah,I,b7,aC,aB,cK.call q M fun b s v bt dG _ cw bl f5 hH dJ q=>?_⟩
  subst bl hH
  refine .inl ⟨_,_,I,I,2*n+b.toNat,dG,J (.int (0+((j:Nat):Int))),?_,M.trans cw,dJ,f5,q⟩
  dsimp only
  rw[show (2:Int)*((n:Nat):Int)+((b.toNat:Nat):Int)=((2*n+b.toNat:Nat):Int) by omega];rfl
 ·rintro ab ax ⟨n,i,z,rfl,M,b7,aB,q⟩
  rw[Nat.sub_self] at q
  exact⟨_,I,_,M.sub b7,q _ _ i M I aB I b7⟩
inductive Oo(aN:Bool->ae)(C:ae)(vs:List V)(H:au)(Q:bx)(E:bP):Prop where
 |mk (p al:ae) (l:List Bool) (i:Nat) (t e u:Bool) (bu:vs=[.ref p]) (aj:H p=J (o3 C al l i t e (bi u))) (ar:l.length<=16000000) (bB:i<=l.length) (b0:cK pW aN C p al l t e H Q E (e7 e u (sees l t i))):Oo aN C vs H Q E
def H6(aN:Bool->ae)(C:ae):b5:=fun vs H Q E=>Oo aN C vs H Q E
theorem UQ{f C:ae}{aN:Bool->ae}{fd:fu}(vE:ej mg "MOST_AHEAD" (.int 7))(e6:fe K C)(F:dF K mg "draw_count" DZ ["source"] f fd)(gI:jb P w K mg base 3 C "draw" ["self"] (og aN C))(zc:gH P w K mg base 4 "draw_lower_digits" ["source","width"] (OX aN C)):gH P w K mg base 5 "draw_count" ["source"] (H6 aN C):=by
 refine F.iz zz (fun bb A outer s H vs Q E az h=>?_)
 obtain⟨p,al,l,i,t,e,u,rfl,bh,aC,aB,q⟩:=h
 refine⟨_,(aP (bV 1 zz.br aD)
  (aP (qH i9.leaving (gJ.pt (vn (cm oa (ai 1) (iv vE)) (vg (cm dd (lY gI e6 az gs.x (ai 0)) aD))))
   (aT (bV 1 zz.br (aQ eh (ai 1) aD))))
  (aP (bV 2 zz.br (kH zc az gs.x (av (ai 0) (av (ai 1) aA))))
  (aT (bG (aQ gb (kH zc az gs.x (av (ai 0) (av (aQ gb (ai 2) aD) aA))) aD)))))),?_⟩
 try dsimp only[cS,cT,cU,cV]
 unfold e7 at q
 obtain⟨rest,hrest⟩:∃ rest:Nat->List Bool->R Nat,rest=fun a s=>(g9 e a 1 s).bd fun g s=>(g9 e (g - 1) 1 s).bd fun m s => .ok (m - 1) s:=⟨_,rfl⟩
 rw[<- hrest] at q
 refine⟨fun m ab ax=>∃ (a i:Nat) (u:Bool),a<=7/\m=7 - a/\ab=[J (.ref p),J (.int ((a:Nat):Int)),aw]/\b3 p H ax/\ax p=J (o3 C al l i t e (bi u))/\i<=l.length/\(a≠0->u=ah)/\cK pW aN C p al l t e H Q E ((jW e (7 - a) u a (sees l t i)).bd rest),⟨7,0,i,u,by omega,rfl,rfl,b3.refl _ _,bh,aB,(fun z=>absurd rfl z),q⟩,?_⟩
 rintro m ab ax ⟨a,i,u,ba,rfl,rfl,M,b7,aB,dN,q⟩
 refine⟨_,I,.inl ⟨_,_,I,I,_,I,?_⟩⟩
 refine e0 (fun c=>?_) (fun c=>?_)
 ·rw[show 7 - a=7 - (a+1)+1 by omega,jW,pK] at q
  refine⟨_,I,p,al,_,I,b7,pJ,p,al,l,i,t,e,u,I,b7,aC,aB,cK.call q M fun b s v bt dG _ cw bl f5 hH dJ q=>?_⟩
  subst bl hH
  have cw:=M.trans cw
  refine⟨I,_,I,?_⟩
  cases b with
  | true =>
   refine jl I ⟨fun bQ H'=>∃ b1,b1<7 - a/\∃ (a i:Nat) (u:Bool),a<=7/\b1=7 - a/\bQ=[J (.ref p),J (.int ((a:Nat):Int)),aw]/\b3 p H H'/\H' p=J (o3 C al l i t e (bi u))/\i<=l.length/\(a≠0->u=ah)/\cK pW aN C p al l t e H Q E ((jW e (7 - a) u a (sees l t i)).bd rest),fun _ _ h=>h,?_⟩
   exact⟨_,I,.inl ⟨_,_,I,I,7 - (a+1),by omega,a+1,dG,ah,by omega,rfl,rfl,cw,dJ,f5,(fun _=>rfl),q⟩⟩
  | false =>
   refine gC (by intro z;cases z) ?_
   have q:cK pW aN C p al l t e H Q E (rest a (sees l t dG)):=q
   clear b7 M aB dN
   rw[hrest] at q
   refine⟨_,I,_,I,p,al,l,_,a,t,e,I,dJ,aC,f5,by omega,cK.call q cw fun g s v g0 mf aK fl bl l9 md iX q=>?_⟩
   subst bl md
   have g1:=xt aK
   have g2:=Av ba aK
   have fl:=cw.trans fl
   have ad:((g:Nat):Int) - 1=((g - 1:Nat):Int):=by omega
   refine⟨_,I,_,I,_,_,I,I,p,al,l,mf,g - 1,t,e,by dsimp only;rw[ad],iX,aC,l9,by omega,cK.call q fl fun m s v fg vY hm k5 bl x5 yd p0 q=>?_⟩
   subst bl yd
   have fJ:=xt hm
   have k5:=fl.trans k5
   have FK:((m:Nat):Int) - 1=((m - 1:Nat):Int):=by omega
   exact⟨_,_,I,I,_,k5.sub p0,by dsimp only;rw[FK];exact q _ _ vY k5 I x5 I p0⟩
 ·have c7:a=7:=by omega
  rw[show 7 - a=0 by omega] at q
  have cw:=M
  have f5:=aB
  rw[dN (by omega)] at b7
  have dJ:ax p=J (gZ C al l i t e):=b7
  have q:cK pW aN C p al l t e H Q E (rest a (sees l t i)):=q
  rw[hrest] at q
  refine⟨_,I,_,I,p,al,l,_,a,t,e,I,dJ,aC,f5,by omega,cK.call q cw fun g s v g0 mf aK fl bl l9 md iX q=>?_⟩
  subst bl md
  have g1:=xt aK
  have g2:=Av ba aK
  have fl:=cw.trans fl
  have ad:((g:Nat):Int) - 1=((g - 1:Nat):Int):=by omega
  refine⟨_,I,_,I,_,_,I,I,p,al,l,mf,g - 1,t,e,by dsimp only;rw[ad],iX,aC,l9,by omega,cK.call q fl fun m s v fg vY hm k5 bl x5 yd p0 q=>?_⟩
  subst bl yd
  have fJ:=xt hm
  have k5:=fl.trans k5
  have FK:((m:Nat):Int) - 1=((m - 1:Nat):Int):=by omega
  exact⟨_,_,I,I,_,k5.sub p0,by dsimp only;rw[FK];exact q _ _ vY k5 I x5 I p0⟩
inductive Ps(aN:Bool->ae)(C:ae)(vs:List V)(H:au)(Q:bx)(E:bP):Prop where
 |mk (p al:ae) (l:List Bool) (i:Nat) (t e:Bool) (bu:vs=[.ref p]) (aj:H p=J (gZ C al l i t e)) (ar:l.length<=16000000) (bB:i<=l.length) (b0:cK ME aN C p al l t e H Q E (l3 e (sees l t i))):Ps aN C vs H Q E
def Co(aN:Bool->ae)(C:ae):b5:=fun vs H Q E=>Ps aN C vs H Q E
theorem UO{f C:ae}{aN:Bool->ae}{fd:fu}(e6:fe K C)(F:dF K mg "draw_whole" DX ["source"] f fd)(gI:jb P w K mg base 3 C "draw" ["self"] (og aN C))(k7:lS P w K mg base 1 C "turn" ["self"] (yT C))(r7:gH P w K mg base 5 "draw_count" ["source"] (H6 aN C)):gH P w K mg base 6 "draw_whole" ["source"] (Co aN C):=by
 refine F.iz J3 (fun bb A outer s H vs Q E az h=>?_)
 obtain⟨p,al,l,i,t,e,rfl,bh,aC,aB,q⟩:=h
 refine⟨_,(aP (cR (cm dd (lY gI e6 az gs.x (ai 0)) aD) (aT (bG (kH r7 az gs.x (av (ai 0) aA)))) cQ)
  (aP (h9 (sk k7 e6 az (ai 0)))
  (aP (bV 1 J3.br (aQ gb (lj k3 aD) (kH r7 az gs.x (av (ai 0) aA))))
  (aP (h9 (sk k7 e6 az (ai 0)))
  (aT (bG (ai 1))))))),?_⟩
 try dsimp only[cS,cT,cU,cV]
 unfold l3 at q
 refine⟨_,I,p,al,_,I,bh,pJ,p,al,l,i,t,e,ah,I,bh,aC,aB,cK.call q (b3.refl _ _) fun b s v bt dG _ cw bl f5 hH dJ q=>?_⟩
 subst bl hH
 refine⟨I,_,I,?_⟩
 cases b with
 | true =>
  refine jl I ?_
  refine⟨_,I,p,al,l,dG,t,e,ah,I,dJ,aC,f5,cK.call q cw fun n s v g0 mf _ fl bl l9 md iX q=>?_⟩
  subst bl md
  have fl:=cw.trans fl
  exact⟨_,fl.sub iX,q _ _ mf fl I l9 I iX⟩
 | false =>
  refine gC (by intro z;cases z) ?_
  have q:cK ME aN C p al l t e H Q E ((e7 e ah ((sees l t dG).map (!·))).bd fun n s => .ok (-1 - ((n:Nat):Int)) s).cH:=q
  rw[<- vb] at q
  have fl:b3 p H (upd bt p (gZ C al l dG (!t) e)):=cw.trans (b3.move dJ)
  refine⟨_,I,p,al,_,I,dJ,vi,p,al,l,_,_,_,_,I,dJ,?_⟩
  refine⟨_,I,_,I,p,al,l,dG,!t,e,ah,I,aM,aC,f5,cK.YJ q fl fun n s v fg vY _ k5 bl x5 yd p0 q=>?_⟩
  subst bl yd
  have qF:b3 p H (upd fg p (gZ C al l vY (!!t) e)):=(fl.trans k5).trans (b3.move p0)
  refine⟨_,_,I,I,?_⟩
  refine⟨_,I,p,al,_,I,p0,vi,p,al,l,_,_,_,_,I,p0,?_⟩
  rw[Bool.not_not] at qF ⊢
  refine⟨_,I,_,qF.sub aM,q _ _ vY qF I x5 ?_ aM⟩
  rw[vb,nn]
inductive OA(aN:Bool->ae)(C:ae)(vs:List V)(H:au)(Q:bx)(E:bP):Prop where
 |mk (p al:ae) (l:List Bool) (i m:Nat) (t e:Bool) (bu:vs=[.ref p,.int m]) (aj:H p=J (gZ C al l i t e)) (ar:l.length<=16000000) (bB:i<=l.length) (b0:aZ m<=1000) (eB:cK pW aN C p al l t e H Q E (gi e m (aZ m) 0 (sees l t i))):OA aN C vs H Q E
def yM(aN:Bool->ae)(C:ae):b5:=fun vs H Q E=>OA aN C vs H Q E
theorem UP{f C:ae}{aN:Bool->ae}{fd:fu}(nb:dV mg)(e6:fe K C)(F:dF K mg "draw_fixed" DY ["source","most"] f fd)(gI:jb P w K mg base 3 C "draw" ["self"] (og aN C))(k6:jb P w K mg base 3 C "refuse" ["self"] (wo aN C)):gH P w K mg base 4 "draw_fixed" ["source","most"] (yM aN C):=by
 refine F.iz zy (fun bb A outer s H vs Q E az h=>?_)
 obtain⟨p,al,l,i,m,t,e,rfl,bh,aC,aB,hm,q⟩:=h
 refine⟨_,(aP (bV 2 zy.br aD)
  (aP (oD i9.leaving rfl (KG rfl nb.oc (av (aQ gb (xw PySem.F.plainAttrs_int PySem.F.slot_int_bit_length PySem.F.type_int_bit_length xh (ai 1)) aD) (av (lj k3 aD) (av (lj k3 aD) aA)))) (eG (i:=3) zy.br rfl (by exact Or.inl I))
   (aP (bV 2 zy.br (aQ eh (aQ kr aD (ai 2)) (lY gI e6 az gs.x (ai 0))))
   (aT (cR (cm kS (ai 2) (aQ LZ (ai 1) (ai 3))) (aT (h9 (lY k6 e6 az gs.x (ai 0)))) cQ))))
  (aT (bG (ai 2))))),?_⟩
 try dsimp only[cS,cT,cU,cV]
 have ajg:=vl m
 refine⟨_,I,I,_,I,I,_,_,I,I,_,I,_,I,_,_,I,⟨by omega,by omega,by decide,by decide⟩,?_⟩
 have hw:(((c1.Int.intBits ((m:Nat):Int):Nat):Int) - 1 - (-1)).toNat=aZ m:=by omega
 refine Wv (fun j ab ax=>∃ (n i:Nat) (z:Option V),ab=[J (.ref p),J (.int m),J (.int ((n:Nat):Int)),z]/\b3 p H ax/\ax p=J (gZ C al l i t e)/\i<=l.length/\cK pW aN C p al l t e H Q E (gi e m (aZ m - j) n (sees l t i))) ?_ ?_ ?_
 ·exact⟨0,i,aw,I,b3.refl _ _,bh,aB,q⟩
 ·rintro j ab ax cy ⟨n,i,z,rfl,M,b7,aB,q⟩
  rw[hw] at cy
  have kJ:(((c1.Int.intBits ((m:Nat):Int):Nat):Int) - 1+(j:Int)*(-1)).toNat=aZ m - 1 - j:=by omega
  rw[show aZ m - j=aZ m - 1 - j+1 by omega,gi] at q
  refine⟨_,I,.inl ⟨_,_,I,I,.inl ⟨by decide,by decide⟩,_,rfl,p,al,_,rfl,b7,pJ,?_⟩⟩
  refine⟨p,al,l,i,t,e,ah,I,b7,aC,aB,cK.call q M fun b s v bt dG _ cw bl f5 hH dJ q=>?_⟩
  have cG:=w6 f5 hH
  subst bl hH
  have cw:=M.trans cw
  refine .inl ⟨_,_,I,I,?_⟩
  refine⟨_,I,_,I,_,I,_,_,I,I,(by omega),_,_,I,I,_,I,?_⟩
  have ev:(2:Int)*((n:Nat):Int)+((b.toNat:Nat):Int)=((2*n+b.toNat:Nat):Int):=by omega
  have a1:((m:Nat):Int)/2 ^ (aZ m - 1 - j)=((m/2 ^ (aZ m - 1 - j):Nat):Int):=by
   rw[Int.natCast_ediv,Int.natCast_pow];rfl
  refine e0 (fun c=>?_) (fun c=>?_)
  ·rw[ev,kJ,a1] at c
   rw[if_pos (by omega)] at q
   have q:iP E p H (aN ag) (kK l ag (sees l t dG).length):=q
   unfold kK at q
   rw[if_pos rfl,cG.1] at q
   exact⟨_,I,p,al,_,I,dJ,Aw,p,al,l,dG,t,e,I,dJ,by omega,q.up cw⟩
  ·rw[ev,kJ,a1] at c
   rw[if_neg (by omega)] at q
   refine⟨2*n+b.toNat,dG,J (.int (((c1.Int.intBits ((m:Nat):Int):Nat):Int) - 1+(j:Int)*(-1))),?_,cw,dJ,f5,by rw[show aZ m - (j+1)=aZ m - 1 - j by omega];exact q⟩
   dsimp only
   rw[ev];rfl
 ·rintro ab ax ⟨n,i,z,rfl,M,b7,aB,q⟩
  rw[hw,Nat.sub_self] at q
  exact⟨_,I,_,M.sub b7,q _ _ i M I aB I b7⟩
inductive Oq(vs:List V)(H:au)(Q:bx)(E:bP):Prop where
 |mk (n:Nat) (bu:vs=[.int n]) (aj:n+1<2 ^ 255) (ar:Q (.str (bw (cnt n))) H):Oq  vs H Q E
def H7:b5:=fun vs H Q E=>Oq  vs H Q E
theorem E2(e:Nat):(jU e).length<=1:=by unfold jU;split<;>simp
theorem Rt{n k:Nat}(h:2 ^ k<=n):k<aZ n:=by
 rcases jx k (aZ n) with z | z
 ·exact z
 ·have:=qS n
  have:=Nat.pow_le_pow_right (show 0<2 by decide) z
  omega
def hR(n:Int):Prop:=0<=n/\n<2 ^ 255 - 1
noncomputable instance (n:Int):Decidable (hR n):=inferInstanceAs (Decidable (_/\_))
inductive ON(vs:List V)(H:au)(Q:bx)(E:bP):Prop where
 |mk (n:Int) (bu:vs=[.int n]) (aj:Q (.aH (decide (hR n))) H):ON  vs H Q E
def yO:b5:=fun vs H Q E=>ON  vs H Q E
theorem Ml{m:Nat}:hR (m:Int)↔aZ (m+1)<=255:=by
 unfold hR
 constructor
 ·intro ⟨_,h⟩;exact hn (by omega)
 ·intro h
  rcases jx (m+1) (2 ^ 255) with z | z
  ·omega
  ·have:=Rt z;omega
theorem VK(F9:ej mg "MOST_DIGITS" (.int 255))(F:dF K mg "is_count" En ["n"] f fd):bK P w K mg base 1 "is_count" ["n"] yO:=by
 refine F.fK Vx (fun bb A outer s H vs Q E az h=>?_)
 obtain⟨n,rfl,q⟩:=h
 refine⟨_,(aT (bG (iU (gV HL (ai 0) aD) (kj (gV yz (xw PySem.F.plainAttrs_int PySem.F.slot_int_bit_length PySem.F.type_int_bit_length xh (aQ eh (ai 0) aD)) (iv F9)))))),?_⟩
 try dsimp only[cS,cT,cU,cV]
 refine⟨_,I,_,_,I,I,_,I,?_⟩
 refine e0 (fun c=>?_) (fun c=>?_)
 ·refine⟨_,I,.inl ⟨_,_,I,I,I,_,I,I,_,_,I,I,H,.refl (dR _),?_⟩⟩
  obtain⟨m,rfl⟩:∃ m:Nat,n=m:=⟨n.toNat,by omega⟩
  rw[show ((m:Int)+1)=((m+1:Nat):Int) from rfl,vl (m+1)]
  have e:decide (((aZ (m+1):Nat):Int)<=255)=decide (hR (m:Int)):=by
   rw[decide_eq_decide,Ml];omega
  dsimp only
  rw[e]
  exact q
 ·refine⟨H,.refl (dR _),?_⟩
  have e:decide (hR n)=ah:=gM fun z=>c z.1
  rw[<- e];exact q
theorem Vf(vE:ej mg "MOST_AHEAD" (.int 7))(F:dF K mg "count_row" D9 ["n"] f fd)(mx:bK P w K mg base 1 "is_count" ["n"] yO)(sd:bK P w K mg base 1 "lower_digits" ["n","width"] Ie):bK P w K mg base 2 "count_row" ["n"] H7:=by
 refine F.fK wY (fun bb A outer s H vs Q E az h=>?_)
 obtain⟨n,rfl,bc,q⟩:=h
 refine⟨_,(aP (cR (iS (g8 (cq mx az (av (ai 0) aA)))) (aT nG) cQ)
  (aP (bV 1 wY.br (aQ eh (ai 0) aD))
  (aP (bV 2 wY.br (xw PySem.F.plainAttrs_int PySem.F.slot_int_bit_length PySem.F.type_int_bit_length xh (ai 1)))
  (aP (bV 3 wY.br (aQ gb (xw PySem.F.plainAttrs_int PySem.F.slot_int_bit_length PySem.F.type_int_bit_length xh (ai 2)) aD))
  (aP (bV 4 wY.br (nH (cm dd (ai 3) (iv vE)) cJ cJ))
  (aT (bG (aQ eh (aQ eh (aQ eh (aQ kr cJ (ai 3)) (ai 4)) (cq sd az (av (ai 2) (av (ai 3) aA)))) (cq sd az (av (ai 1) (av (aQ gb (ai 2) aD) aA))))))))))),?_⟩
 try dsimp only[cS,cT,cU,cV]
 have hd:aZ (n+1)<=255:=hn bc
 have bh:0<aZ (n+1):=pB (by omega)
 have he:aZ (aZ (n+1))<=8:=hn (by omega)
 have aU:0<aZ (aZ (n+1)):=pB (by omega)
 have gp:=vl (n+1)
 have fC:=vl (aZ (n+1))
 refine⟨_,I,_,I,_,I,?_⟩
 rw[ek (Ml.mpr hd)]
 refine eb ⟨_,I,.inl ⟨_,_,I,I,_,I,I,_,I,I,?_⟩⟩
 rw[show ((n:Int)+1)=((n+1:Nat):Int) from rfl,gp]
 refine⟨_,I,I,_,I,I,_,_,I,I,?_⟩
 rw[fC]
 obtain⟨k,hk⟩:∃ k:Nat,((aZ (aZ (n+1)):Nat):Int) - 1=k:=⟨aZ (aZ (n+1)) - 1,by omega⟩
 have hk':k=aZ (aZ (n+1)) - 1:=by omega
 dsimp only
 rw[hk]
 have a1:(k:Int)<2 ^ 40:=by omega
 have a2 : -(2 ^ 40)<(k:Int):=by omega
 have a3:(af.ofString "1").length*((k:Nat):Int).toNat<=bT:=by rw[s1,dA];exact eX (by show 1*_<=_;omega)
 have a4:(Txt.mul (af.ofString "1") (k:Int)).length+(bw (jU (aZ (aZ (n+1))))).length<=bT:=by
  rw[s1,AJ,dA,dA,List.length_replicate]
  have:=E2 (aZ (aZ (n+1)))
  exact eX (by omega)
 have a5:(Txt.mul (af.ofString "1") (k:Int)++bw (jU (aZ (aZ (n+1))))).length+(bw (d4 (aZ (n+1)) k)).length<=bT:=by
  rw[s1,AJ,kl,dA,dA,dI,List.length_replicate,kF]
  have:=E2 (aZ (aZ (n+1)))
  exact eX (by omega)
 have a6:(Txt.mul (af.ofString "1") (k:Int)++bw (jU (aZ (aZ (n+1))))++bw (d4 (aZ (n+1)) k)).length+(bw (d4 (n+1) (aZ (n+1) - 1))).length<=bT:=by
  rw[s1,AJ,kl,kl,dA,dA,dI,dI,List.length_replicate,kF,kF]
  have:=E2 (aZ (aZ (n+1)))
  exact eX (by omega)
 have L8:Txt.mul (af.ofString "1") (k:Int)++bw (jU (aZ (aZ (n+1))))++bw (d4 (aZ (n+1)) k)++bw (d4 (n+1) (aZ (n+1) - 1))=bw (cnt n):=by
  rw[s1,AJ,kl,kl,kl]
  unfold cnt
  rw[hk',fA,fA]
  rfl
 have ad:[V.int ((n:Int)+1),V.int (((aZ (n+1):Nat):Int) - 1)]=[.int ((n+1:Nat):Int),.int ((aZ (n+1) - 1:Nat):Int)]:=by
  have:((aZ (n+1):Nat):Int) - 1=((aZ (n+1) - 1:Nat):Int):=by omega
  rw[this];rfl
 refine⟨_,I,I,_,I,?_⟩
 refine e0 (fun c=>?_) (fun c=>?_)
 ·have GV:(af.ofString "")=bw (jU (aZ (aZ (n+1)))):=by
   have:=V.int.inj c
   rw[Oc];unfold jU;rw[if_pos (by omega)]
  rw[GV]
  refine⟨_,I,.inr ⟨_,_,I,I,a1,a2,a3,_,I,.inr ⟨_,_,I,I,a4,_,I,_,I,_,_,I,(by omega),.inr ⟨_,_,I,I,a5,?_⟩⟩⟩⟩
  refine⟨_,I,_,I,_,_,I,I,n+1,aZ (n+1) - 1,ad,(by omega),.inr ⟨_,_,I,I,a6,H,.refl (dR _),?_⟩⟩
  rw[L8]
  exact q
 ·have GV:(af.ofString "0")=bw (jU (aZ (aZ (n+1)))):=by
   have:¬k=7:=fun z=>c (by rw[z];rfl)
   rw[s0];unfold jU;rw[if_neg (by omega)]
  rw[GV]
  refine⟨_,I,.inr ⟨_,_,I,I,a1,a2,a3,_,I,.inr ⟨_,_,I,I,a4,_,I,_,I,_,_,I,(by omega),.inr ⟨_,_,I,I,a5,?_⟩⟩⟩⟩
  refine⟨_,I,_,I,_,_,I,I,n+1,aZ (n+1) - 1,ad,(by omega),.inr ⟨_,_,I,I,a6,H,.refl (dR _),?_⟩⟩
  rw[L8]
  exact q
def iu(n:Int):Prop := -(2 ^ 255)<n/\n<2 ^ 255 - 1
inductive JV(vs:List V)(H:au)(Q:bx)(E:bP):Prop where
 |mk (n:Int) (bu:vs=[.int n]) (aj:iu n) (ar:Q (.str (bw (iB n))) H):JV  vs H Q E
def Ai:b5:=fun vs H Q E=>JV  vs H Q E
theorem R3{n:Int}(h:n<0)(b : -(2 ^ 255)<n):∃ m:Nat,-1 - n=m/\m+1<2 ^ 255/\iB n=ah::(cnt m).map (!·):=by
 refine⟨(-1 - n).toNat,by omega,by omega,?_⟩
 unfold iB;rw[if_pos h]
theorem RO{n:Int}(h:¬n<0)(b:n<2 ^ 255 - 1):∃ m:Nat,n=m/\m+1<2 ^ 255/\iB n=ag::cnt m:=by
 refine⟨n.toNat,by omega,by omega,?_⟩
 unfold iB;rw[if_neg h]
theorem AF{n:Nat}(h:n+1<2 ^ 255):(cnt n).length<=269:=by
 have:=Ap h
 have:=hn h
 omega
theorem Lq(b:Bool)(l:List Bool):bw [b]++bw l=bw (b::l):=by rw[kl];rfl
theorem U7(F:dF K mg "whole_row" D1 ["n"] f fd)(r8:bK P w K mg base 2 "count_row" ["n"] H7)(nq:bK P w K mg base 1 "turned_row" ["row"] w5):bK P w K mg base 3 "whole_row" ["n"] Ai:=by
 refine F.fK UX (fun bb A outer s H vs Q E az h=>?_)
 obtain⟨n,rfl,bc,q⟩:=h
 refine⟨_,(aP (cR (cm oa (ai 0) aD) (aT (bG (aQ eh cJ (cq nq az (av (cq r8 az (av (aQ gb (lj k3 aD) (ai 0)) aA)) aA))))) cQ)
  (aT (bG (aQ eh cJ (cq r8 az (av (ai 0) aA)))))),?_⟩
 try dsimp only[cS,cT,cU,cV]
 refine⟨_,I,.inl ⟨_,_,I,I,_,I,?_⟩⟩
 refine e0 (fun c=>?_) (fun c=>?_)
 ·obtain⟨m,e,hm,oK⟩:=R3 c bc.1
  have lm:=AF hm
  refine⟨_,I,_,I,_,_,I,I,m,(congrArg (fun x=>[V.int x]) e),hm,cnt m,I,(by omega),.inr ⟨_,_,I,I,(by rw[s0,dA,dA,cM];exact eX (by simp only[ed,List.length_nil];omega)),H,.refl (dR _),?_⟩⟩
  rw[s0,Lq,<- oK]
  exact q
 ·obtain⟨m,rfl,hm,oK⟩:=RO c bc.2
  have lm:=AF hm
  refine⟨_,I,m,I,hm,.inr ⟨_,_,I,I,(by rw[s1,dA,dA];exact eX (by simp only[ed,List.length_nil];omega)),H,.refl (dR _),?_⟩⟩
  rw[s1,Lq,<- oK]
  exact q
theorem mV(l:List Int):(l.map V.int).length=l.length:=cM ..
theorem wk{n:Nat}(h:n<=100001):n<=bT:=ey h (by decide)
theorem qE{H ax:au}{r:ae}{o:cv}(hs:er H ax)(az:H r=aw):er H (upd ax r o):=fun b u e=>by rw[bJ (eO e az)];exact hs b u e
inductive Pn(vs:List V)(H:au)(Q:bx)(E:bP):Prop where
 |mk (t:ae) (p q:Int) (bu:vs=[.ref t]) (aj:H t=J (.tup [.int p,.int q])) (ar:0<=q) (bB:(d9 p q).length<=100000) (b0:(∀ x∈d9 p q,x.natAbs<2 ^ 1000)) (eB:∀ r,H r=aw->Q (.ref r) (upd H r (.lst ((d9 p q).map .int)))):Pn  vs H Q E
def Cm:b5:=fun vs H Q E=>Pn  vs H Q E
theorem VD(F:dF K mg "steps_of" Eg ["fraction"] f fd):bK P w K mg base 1 "steps_of" ["fraction"] Cm:=by
 refine F.fK sD (fun bb A outer s H vs Q E az h=>?_)
 obtain⟨t,p,q,rfl,aW,aU,aC,aq,fF⟩:=h
 refine⟨_,(aP (bV 1 sD.br (fU aA))
  (aP (bV 2 sD.br (cN cP (ai 0) aD))
  (aP (bV 3 sD.br (cN cP (ai 0) aD))
  (aP (qH i9.never (cm wd (ai 3) aD)
   (aP (h9 (jP PySem.F.plainAttrs_list PySem.F.slot_list_append PySem.F.type_list_append sl (ai 1) (av (aQ vc (ai 2) (ai 3)) aA)))
   (aP (bV 4 sD.br (aQ dM (ai 2) (ai 3)))
   (aP (bV 2 sD.br (ai 3))
   (aT (bV 3 sD.br (ai 4)))))))
  (aT (bG (ai 1))))))),?_⟩
 try dsimp only[cS,cT,cU,cV]
 have a0:eH [V.int p,V.int q] 0=J (.int p):=dt (j:=0) rfl
 have a1:eH [V.int p,V.int q] 1=J (.int q):=dt (j:=1) rfl
 refine⟨UF _,fun r fq=>?_⟩
 have Nx:=cL (o:=cv.lst []) fq t _ aW
 refine⟨_,I,.inl (.inr ⟨_,_,_,_,I,I,dc Nx,a0,_,I,.inl (.inr ⟨_,_,_,_,I,I,dc Nx,a1,?_⟩)⟩)⟩
 refine⟨fun m ab ax=>∃ (d:List Int) (x y:Int) (z:Option V),d++d9 x y=d9 p q/\0<=y/\m=y.toNat/\ab=[J (.ref t),J (.ref r),J (.int x),J (.int y),z]/\ax=upd H r (.lst (d.map .int)),⟨q.toNat,[],p,q,aw,I,aU,I,I,I⟩,?_⟩
 rintro m ab ax ⟨d,x,y,z,hd,bM,rfl,rfl,rfl⟩
 refine⟨_,I,I,_,I,?_⟩
 rw[xq]
 by_cases tx:y=0
 ·subst tx
  rw[pA,List.append_nil] at hd
  subst hd
  refine eb ⟨_,I,_,.new fq (cL fq) aM trivial,fF r fq⟩
 ·have mU:0<y:=by omega
  rw[lg mU] at hd
  have ri:x/y∈d9 p q:=by rw[<- hd];exact mC _ (hz ..)
  have cG:=congrArg List.length hd
  rw[dI,ed] at cG
  have ho:(y == 0)=ah:=by simpa using tx
  rw[ho]
  have cp:=hy x mU
  have ks:=hl x tx
  refine gD ⟨fun bQ H'=>∃ b1,b1<y.toNat/\∃ (d:List Int) (x y:Int) (z:Option V),d++d9 x y=d9 p q/\0<=y/\b1=y.toNat/\bQ=[J (.ref t),J (.ref r),J (.int x),J (.int y),z]/\H'=upd H r (.lst (d.map .int)),fun _ _ h=>h,?_⟩
  refine⟨_,I,.inl ⟨I,_,bX aM⟩,_,I,_,I,_,_,I,I,⟨mU,.inr (ey (Yg mU (aq _ ri)) (Nat.add_le_add_left (by decide) _))⟩,?_⟩
  refine⟨_,_,_,I,I,aM,(by rw[mV];exact fi (show d.length<100001 by omega) (wk (by decide))),?_⟩
  refine⟨_,I,_,I,_,_,I,I,mU,_,I,_,I,?_⟩
  refine⟨(x%y).toNat,by omega,d++[x/y],y,x%y,_,?_,ks,rfl,rfl,?_⟩
  ·rw[fA];exact hd
  ·rw[h8,fz];rfl
inductive Oh(vs:List V)(H:au)(Q:bx)(E:bP):Prop where
 |mk (a:ae) (s:List Int) (bu:vs=[.ref a]) (aj:H a=J (.lst (s.map .int))) (ar:s.length<=100000) (bB:Q (.aH (hX s)) H):Oh  vs H Q E
def H5:b5:=fun vs H Q E=>Oh  vs H Q E
theorem VO{s:List Int}(h:s.length<2):hX s=decide (s.length=1):=by unfold hX;rw[if_pos h]
theorem Wq{s:List Int}(h:¬s.length<2):hX s=(s.tail.all (fun x=>decide (0<x))&&decide (1<s.getLastD 0)):=by unfold hX;rw[if_neg h]
theorem EI{s:List Int}(h:s≠[]):eH (s.map V.int) (-1)=J (.int (s.getLastD 0)):=by
 rw[List.getLastD_eq_getLast?,List.getLast?_eq_some_getLast h,Option.getD_some]
 conv=>lhs;rw[<- List.dropLast_concat_getLast h,fz]
 exact Rw _ _
theorem Vg(nb:dV mg)(F:dF K mg "are_steps" Ea ["steps"] f fd):bK P w K mg base 1 "are_steps" ["steps"] H5:=by
 refine F.fK U0 (fun bb A outer s H vs Q E az h=>?_)
 obtain⟨a,s,rfl,ba,aC,q⟩:=h
 refine⟨_,(aP (cR (cm oa (cj d8 I nb.dZ d3 (av (ai 0) aA)) aD) (aT (bG (gV dd (cj d8 I nb.dZ d3 (av (ai 0) aA)) aD))) cQ)
  (aT (bG (iU (cj (ve rfl) rfl nb.vr vp (av (iQ ["step"] [] rfl (by decide +kernel) trivial (j7 (qI rH (ai 0) (qO aD) qP)) (fun _ _ _ _ _=>(eG (i:=0) (show (["step"]:List af).Nodup by decide +kernel) rfl (by first | exact Or.inl I | exact Or.inr I))) (fun _ _ _ _ _=>iE) (fun _ _ _ _ _=>(gV kS (ai 0) aD))) aA)) (kj (gV kS (cN cP (ai 0) (lj k3 aD)) aD)))))),?_⟩
 try dsimp only[cS,cT,cU,cV]
 refine⟨_,I,_,_,I,.inl ⟨_,bX ba,I⟩,.inl ⟨_,_,I,I,_,I,?_⟩⟩
 rw[mV]
 refine e0 (fun c=>?_) (fun c=>?_)
 ·refine⟨_,I,_,_,I,.inl ⟨_,bX ba,I⟩,I,H,.refl (dR _),?_⟩
  have e:decide (V.int ((s.map V.int).length:Nat)=V.int 1)=hX s:=by
   rw[VO (by omega),mV,xq]
   apply Bool.eq_iff_iff.mpr;simp;omega
  rw[e];exact q
 ·have hs:s≠[]:=by intro e;subst e;simp at c
  refine .inl ⟨_,I,_,I,.inl ⟨a,_,I,bX ba,fun p bh=>⟨_,I,⟨_,bX aM⟩,fun D dB=>?_⟩⟩⟩
  rw[K1,<- List.map_drop] at dB ⊢
  have kT:=cL (o:=cv.lst ((s.drop 1).map V.int)) bh
  refine Ax (xs:=(s.drop 1).map V.int) (fun x=>match x with | .int i => .aH (decide (0<i)) | _=>x) (fun ab=>ab.length=1) (by rw[mV,nF];exact eX (by omega)) rfl dB (bX aM) ?_ ?_
  ·rintro x ay b8 H1 b7 eR R cY
   obtain⟨i,_,rfl⟩:=List.mem_map.mp ay
   obtain⟨z,rfl⟩:=EO b7
   exact⟨_,I,_,_,I,I,cY _ I⟩
  ·rw[ir]
   have rG:=kT.trans (cL (o:=cv.lst ((s.drop 1).map fun i=>V.aH (decide (0<i)))) dB)
   refine⟨D,(s.drop 1).map fun i=>decide (0<i),I,bX (by rw[aM,ir];rfl),_,I,?_⟩
   have cF:hX s=(((s.drop 1).map fun i=>decide (0<i)).all id&&decide (1<s.getLastD 0)):=by
    rw[Wq (by omega),<- List.drop_one,List.all_map];rfl
   cases hZ:((s.drop 1).map fun i=>decide (0<i)).all id with
   | false =>
    rw[hZ,Bool.false_and] at cF
    rw[cF] at q
    exact eb ⟨H,.refl rG,q⟩
   | true =>
    rw[hZ,Bool.true_and] at cF
    rw[cF] at q
    exact gD ⟨_,I,_,I,.inl (.inl ⟨_,_,_,_,I,I,bX (rG _ _ ba),EI hs,_,_,I,I,H,.refl rG,q⟩)⟩
inductive OF(vs:List V)(H:au)(Q:bx)(E:bP):Prop where
 |mk (a:ae) (s:List Int) (bu:vs=[.ref a]) (aj:H a=J (.lst (s.map .int))) (ar:s.length<=1000) (bB:(∀ x∈s,x.natAbs<2 ^ 1000)) (b0:Good s) (eB:∀ r,H r=aw->Q (.ref r) (upd H r (.tup [.int (cC s).1,.int (cC s).2]))):OF  vs H Q E
def OE:b5:=fun vs H Q E=>OF  vs H Q E
theorem W8{s:List Int}(aC:s.length<=1000)(aq:∀ x∈s,x.natAbs<2 ^ 1000):c1.Int.intBits (cC s).1<=2 ^ 20/\c1.Int.intBits (cC s).2<=2 ^ 20:=by
 obtain⟨aj,ar⟩:=KV aq
 have k:(1000+1)*s.length+1<=2 ^ 20:=by
  have:(1000+1)*s.length<=1001*1000:=Nat.mul_le_mul_left _ aC
  omega
 exact⟨ey (LO aj) k,ey (LO ar) k⟩
theorem XC{s:List Int}{i:Nat}{x:V}(h:((s.take (s.length - 1)).map V.int)[((s.take (s.length - 1)).map V.int).length - 1 - i]?=J x)(aB:i<s.length - 1):∃ y,x = .int y/\s.drop (s.length - 1 - (i+1))=y::s.drop (s.length - 1 - i)/\y∈s:=by
 rw[mV,kg,Nat.min_eq_left (by omega),fT,List.getElem?_take_of_lt (by omega)] at h
 have hk:s.length - 1 - 1 - i<s.length:=by omega
 rw[dm hk] at h
 refine⟨_,(gN h).symm,?_,List.getElem_mem hk⟩
 have aG:s.length - 1 - (i+1)=s.length - 1 - 1 - i:=by omega
 have aL:s.length - 1 - i=s.length - 1 - 1 - i+1:=by omega
 rw[aG,aL]
 exact zP hk
theorem Xg{s:List Int}(h:s≠[]):s.drop (s.length - 1)=[s.getLastD 0]:=by
 rw[List.getLastD_eq_getLast?,List.getLast?_eq_some_getLast h,Option.getD_some]
 conv=>lhs;rw[<- List.dropLast_concat_getLast h]
 rw[dI,iC,Nat.add_sub_cancel,List.drop_left]
theorem Up(nb:dV mg)(F:dF K mg "fraction_of" DO ["steps"] f fd)(ur:bK P w K mg base 1 "are_steps" ["steps"] H5):bK P w K mg base 2 "fraction_of" ["steps"] OE:=by
 refine F.fK sJ (fun bb A outer s H vs Q E az h=>?_)
 obtain⟨a,s,rfl,ba,aC,aq,aK,q⟩:=h
 refine⟨_,(aP (cR (iS (g8 (cq ur az (av (ai 0) aA)))) (aT nG) cQ)
  (aP (bV 1 sJ.br (cN cP (ai 0) (lj k3 aD)))
  (aP (bV 2 sJ.br aD)
  (aP (oD i9.never rfl (SJ rfl nb.agp (qI rH (ai 0) qP (qO (lj k3 aD)))) (eG (i:=3) sJ.br rfl (by exact Or.inl I))
   (aP (bV 4 sJ.br (ai 1))
   (aP (bV 1 sJ.br (aQ eh (aQ RX (ai 3) (ai 1)) (ai 2)))
   (aT (bV 2 sJ.br (ai 4))))))
  (aT (bG (jS (av (ai 1) (av (ai 2) aA))))))))),?_⟩
 try dsimp only[cS,cT,cU,cV]
 have hs:=aK.ne
 have bc:0<s.length:=List.length_pos_iff.mpr hs
 refine⟨_,I,a,s,I,ba,by omega,_,rfl,?_⟩
 rw[(u7 s).mpr aK]
 refine eb ⟨_,I,_,I,.inl (.inl ⟨_,_,_,_,I,I,bX ba,EI hs,?_⟩)⟩
 refine⟨_,I,_,I,_,I,.inl ⟨a,_,I,bX ba,fun p bh=>?_⟩⟩
 rw[Xp,<- List.map_take,mV]
 have kT:=cL (o:=cv.lst ((s.take (s.length - 1)).map V.int)) bh
 refine⟨p,_,I,bX aM,?_⟩
 have cG:((s.take (s.length - 1)).map V.int).length=s.length - 1:=by rw[mV,kg];omega
 refine Sf (fun i ab ax=>ax=upd H p (.lst ((s.take (s.length - 1)).map V.int))/\∃ di dj,ab=[J (.ref a),J (.int (cC (s.drop (s.length - 1 - i))).1),J (.int (cC (s.drop (s.length - 1 - i))).2),di,dj]) ?_ ?_ ?_ ?_
 ·refine⟨I,aw,aw,?_⟩
  rw[Nat.sub_zero,Xg hs]
  show _=[_,J (V.int (s.getLastD 0*1+0)),J (V.int 1),_,_]
  rw[Int.mul_one,Int.add_zero];rfl
 ·rintro i ab ax aB ⟨rfl,_⟩;exact bX aM
 ·rintro i x ab ax aB ay ⟨rfl,di,dj,rfl⟩
  rw[cG] at aB
  obtain⟨y,rfl,xK,bM⟩:=XC ay aB
  have ZE:=W8 (s:=s.drop (s.length - 1 - i)) (by rw[nF];omega) fun x ay=>aq x (List.mem_of_mem_drop ay)
  refine⟨_,I,_,I,_,I,_,_,I,I,⟨ey (Ss (aq y bM)) (by decide),ZE.1⟩,_,I,.inl ⟨_,_,I,I,_,I,I,J (.int y),J (.int (cC (s.drop (s.length - 1 - i))).1),?_⟩⟩
  rw[xK];rfl
 ·rintro ab ax ⟨rfl,di,dj,rfl⟩
  rw[cG,Nat.sub_self,List.drop_zero]
  refine⟨_,I,_,I,(by show 2<=bT;decide),fun r fq=>?_⟩
  exact⟨_,.new (kT.free fq) (kT.trans (cL fq)) aM trivial,q r (kT.free fq)⟩
noncomputable instance (n:Int):Decidable (iu n):=inferInstanceAs (Decidable (_/\_))
def la(s:List Int):Prop:=(∀ x∈s.take 1,iu x)/\∀ x∈s.drop 1,hR (x - 1)
noncomputable instance (s:List Int):Decidable (la s):=inferInstanceAs (Decidable (_/\_))
inductive OM(vs:List V)(H:au)(Q:bx)(E:bP):Prop where
 |mk (n:Int) (bu:vs=[.int n]) (aj:Q (.aH (decide (iu n))) H):OM  vs H Q E
def OK:b5:=fun vs H Q E=>OM  vs H Q E
theorem TL(F:dF K mg "has_whole_row" zY ["n"] f fd)(mx:bK P w K mg base 1 "is_count" ["n"] yO):bK P w K mg base 2 "has_whole_row" ["n"] OK:=by
 refine F.fK JT (fun bb A outer s H vs Q E az h=>?_)
 obtain⟨n,rfl,q⟩:=h
 refine⟨_,(aT (bG (cq mx az (av (nH (cm HL (ai 0) aD) (ai 0) (aQ gb (lj k3 aD) (ai 0))) aA)))),?_⟩
 try dsimp only[cS,cT,cU,cV]
 refine⟨_,I,_,_,I,I,_,I,?_⟩
 refine e0 (fun c=>?_) (fun c=>?_)
 ·refine⟨_,I,_,I,H,.refl (dR _),?_⟩
  have e:decide (hR n)=decide (iu n):=decide_eq_decide.mpr (by unfold hR iu;omega)
  rw[e];exact q
 ·refine⟨_,I,_,I,_,_,I,I,_,I,H,.refl (dR _),?_⟩
  have e:decide (hR (-1 - n))=decide (iu n):=decide_eq_decide.mpr (by unfold hR iu;omega)
  rw[e];exact q
inductive Om(vs:List V)(H:au)(Q:bx)(E:bP):Prop where
 |mk (p q:Int) (bu:vs=[.int p,.int q]) (aj:0<=q) (ar:Q (.int (c4 p q)) H):Om  vs H Q E
def Ol:b5:=fun vs H Q E=>Om  vs H Q E
theorem Tv(F:dF K mg "common_divisor" Dc ["one","other"] f fd):bK P w K mg base 1 "common_divisor" ["one","other"] Ol:=by
 refine F.fK z6 (fun bb A outer s H vs Q E az h=>?_)
 obtain⟨p,q,rfl,aU,fF⟩:=h
 refine⟨_,(aP (qH i9.never (cm wd (ai 1) aD)
   (aP (bV 2 z6.br (aQ dM (ai 0) (ai 1)))
   (aP (bV 0 z6.br (ai 1))
   (aT (bV 1 z6.br (ai 2))))))
  (aT (bG (ai 0)))),?_⟩
 try dsimp only[cS,cT,cU,cV]
 refine⟨fun m ab ax=>∃ (x y:Int) (z:Option V),c4 x y=c4 p q/\0<=y/\m=y.toNat/\ab=[J (.int x),J (.int y),z]/\ax=H,⟨q.toNat,p,q,aw,I,aU,I,I,I⟩,?_⟩
 rintro m ab ax ⟨x,y,z,hd,bM,rfl,rfl,rfl⟩
 refine⟨_,I,I,_,I,?_⟩
 rw[xq]
 by_cases tx:y=0
 ·subst tx
  rw[vk] at hd
  subst hd
  exact eb ⟨_,I,ax,.refl (dR _),fF⟩
 ·have mU:0<y:=by omega
  rw[vo mU] at hd
  have ho:(y == 0)=ah:=by simpa using tx
  rw[ho]
  have cp:=hy x mU
  have ks:=hl x tx
  refine gD ⟨fun bQ H'=>∃ b1,b1<y.toNat/\∃ (x y:Int) (z:Option V),c4 x y=c4 p q/\0<=y/\b1=y.toNat/\bQ=[J (.int x),J (.int y),z]/\H'=ax,fun _ _ h=>h,?_⟩
  refine⟨_,I,_,I,_,_,I,I,mU,_,I,_,I,?_⟩
  exact⟨(x%y).toNat,by omega,y,x%y,_,hd,ks,rfl,rfl,rfl⟩
inductive OP(vs:List V)(H:au)(Q:bx)(E:bP):Prop where
 |mk (t:ae) (p q:Int) (bu:vs=[.ref t]) (aj:H t=J (.tup [.int p,.int q])) (ar:Q (.aH (decide (0<q/\c4 p q=1))) H):OP  vs H Q E
def OO:b5:=fun vs H Q E=>OP  vs H Q E
theorem Uo(F:dF K mg "is_fraction" DN ["fraction"] f fd)(CU:bK P w K mg base 1 "common_divisor" ["one","other"] Ol):bK P w K mg base 2 "is_fraction" ["fraction"] OO:=by
 refine F.fK T9 (fun bb A outer s H vs Q E az h=>?_)
 obtain⟨t,p,q,rfl,aW,fF⟩:=h
 refine⟨_,(aT (bG (iU (gV kS (cN cP (ai 0) aD) aD) (kj (gV dd (cq CU az (av (cN cP (ai 0) aD) (av (cN cP (ai 0) aD) aA))) aD))))),?_⟩
 try dsimp only[cS,cT,cU,cV]
 have a0:eH [V.int p,V.int q] 0=J (.int p):=dt (j:=0) rfl
 have a1:eH [V.int p,V.int q] 1=J (.int q):=dt (j:=1) rfl
 refine⟨_,I,.inl (.inr ⟨_,_,_,_,I,I,dc aW,a1,_,_,I,I,_,I,?_⟩)⟩
 refine e0 (fun c=>?_) (fun c=>?_)
 ·refine⟨_,I,.inl (.inr ⟨_,_,_,_,I,I,dc aW,a0,_,I,.inl (.inr ⟨_,_,_,_,I,I,dc aW,a1,p,q,I,Int.le_of_lt c,I,H,.refl (dR _),?_⟩)⟩)⟩
  have e:decide (V.int (c4 p q)=V.int 1)=decide (0<q/\c4 p q=1):=decide_eq_decide.mpr ⟨fun z=>⟨c,V.int.inj z⟩,fun z=>congrArg V.int z.2⟩
  rw[e];exact fF
 ·refine⟨H,.refl (dR _),?_⟩
  rw[gM (fun z=>c z.1)] at fF
  exact fF
inductive OJ(vs:List V)(H:au)(Q:bx)(E:bP):Prop where
 |mk (t:ae) (p q:Int) (bu:vs=[.ref t]) (aj:H t=J (.tup [.int p,.int q])) (ar:(0<q->(d9 p q).length<=100000/\∀ x∈d9 p q,x.natAbs<2 ^ 1000)) (bB:Q (.aH (decide (0<q/\c4 p q=1/\la (d9 p q)))) H):OJ  vs H Q E
def Ia:b5:=fun vs H Q E=>OJ  vs H Q E
theorem Tl(nb:dV mg)(F:dF K mg "has_fraction_row" C9 ["fraction"] f fd)(CW:bK P w K mg base 2 "is_fraction" ["fraction"] OO)(qy:bK P w K mg base 1 "steps_of" ["fraction"] Cm)(r9:bK P w K mg base 2 "has_whole_row" ["n"] OK)(mx:bK P w K mg base 1 "is_count" ["n"] yO):bK P w K mg base 3 "has_fraction_row" ["fraction"] Ia:=by
 refine F.fK Jn (fun bb A outer s H vs Q E az h=>?_)
 obtain⟨t,p,q,rfl,aW,aq,fF⟩:=h
 refine⟨_,(aP (cR (iS (g8 (cq CW az (av (ai 0) aA)))) (aT (bG gn)) cQ)
  (aP (bV 1 Jn.br (cq qy az (av (ai 0) aA)))
  (aT (bG (iU (cq r9 az (av (cN cP (ai 1) aD) aA)) (kj (cj (ve rfl) rfl nb.vr vp (av (iQ ["step"] [] rfl (by decide +kernel) trivial (j7 (qI rH (ai 1) (qO aD) qP)) (fun _ _ _ _ _=>(eG (i:=0) (show (["step"]:List af).Nodup by decide +kernel) rfl (by first | exact Or.inl I | exact Or.inr I))) (fun _ _ _ _ _=>iE) (fun _ _ _ _ _=>(cq mx az (av (aQ gb (ai 0) aD) aA)))) aA)))))))),?_⟩
 try dsimp only[cS,cT,cU,cV]
 refine⟨_,I,t,p,q,I,aW,_,I,?_⟩
 by_cases aE:0<q/\c4 p q=1
 ·rw[ek aE]
  obtain⟨aC,bI⟩:=aq aE.1
  refine eb ⟨_,I,t,p,q,I,aW,Int.le_of_lt aE.1,aC,bI,fun r fq=>?_⟩
  have kT:=cL (o:=cv.lst ((d9 p q).map V.int)) fq
  obtain⟨a,aV,he⟩:∃ a aV,d9 p q=a::aV:=⟨_,_,lg aE.1⟩
  rw[he] at fF kT aC ⊢
  have a0:eH ((a::aV).map V.int) 0=J (.int a):=dt (j:=0) rfl
  refine⟨_,I,.inl (.inl ⟨_,_,_,_,I,I,bX aM,a0,a,I,_,I,?_⟩)⟩
  refine e0 (fun c=>?_) (fun c=>?_)
  ·refine .inl ⟨_,I,_,I,.inl ⟨r,_,I,bX aM,fun g aK=>⟨_,I,⟨_,bX aM⟩,fun D dB=>?_⟩⟩⟩
   rw[K1,<- List.map_drop] at dB ⊢
   have rG:=kT.trans (cL (o:=cv.lst (((a::aV).drop 1).map V.int)) aK)
   refine Ax (xs:=((a::aV).drop 1).map V.int) (fun x=>match x with | .int i => .aH (decide (hR (i - 1))) | _=>x) (fun ab=>ab.length=1) (by rw[mV,nF];exact eX (by omega)) rfl dB (bX aM) ?_ ?_
   ·rintro x ay b8 H1 b7 eR R cY
    obtain⟨i,_,rfl⟩:=List.mem_map.mp ay
    obtain⟨z,rfl⟩:=EO b7
    exact⟨_,I,_,_,I,I,_,I,cY _ I⟩
   ·rw[ir]
    have H2:=rG.trans (cL (o:=cv.lst (((a::aV).drop 1).map fun i=>V.aH (decide (hR (i - 1))))) dB)
    refine⟨D,((a::aV).drop 1).map fun i=>decide (hR (i - 1)),I,bX (by rw[aM,ir];rfl),H,.refl H2,?_⟩
    have e:(((a::aV).drop 1).map fun i=>decide (hR (i - 1))).all id=decide (0<q/\c4 p q=1/\la (a::aV)):=by
     rw[List.all_map]
     apply Bool.eq_iff_iff.mpr
     rw[iD,jQ]
     constructor
     ·intro h
      refine⟨aE.1,aE.2,fun x ay=>?_,fun x ay=>lb (h x ay)⟩
      rw[fy.mp ay];exact c
     ·intro h x ay
      exact ek (h.2.2.2 x ay)
    rw[e];exact fF
  ·refine⟨H,.refl kT,?_⟩
   rw[gM (fun z=>c (z.2.2.1 a (fy.mpr rfl)))] at fF
   exact fF
 ·rw[gM aE]
  refine gD ⟨H,.refl (dR _),?_⟩
  rw[gM (fun z=>aE ⟨z.1,z.2.1⟩)] at fF
  exact fF
inductive Pe(vs:List V)(H:au)(Q:bx)(E:bP):Prop where
 |mk (a:ae) (s:List Int) (bu:vs=[.ref a]) (aj:H a=J (.lst (s.map .int))) (ar:s≠[]) (bB:s.length<=10000) (b0:la s) (eB:Q (.str (bw (lx s))) H):Pe  vs H Q E
def Ik:b5:=fun vs H Q E=>Pe  vs H Q E
theorem WM{k:Nat}{x:Int}{b:Bool}(h:if k=0 then iu x else hR (x - 1)):(hK k x b).length<=271:=by
 unfold hK
 rw[cM,dI,iC]
 by_cases hk:k=0
 ·rw[if_pos hk] at h ⊢
  have:=Kp h.1 h.2
  omega
 ·rw[if_neg hk] at h ⊢
  have:=AF (n:=(x - 1).toNat) (by unfold hR at h;omega)
  omega
theorem la.at{s:List Int}{i:Nat}{x:Int}(h:la s)(ay:s[i]?=J x):if i=0 then iu x else hR (x - 1):=by
 match s,i,ay with
 | a::r,0,ay=>cases ay;exact h.1 x (fy.mpr I)
 | a::r,i+1,ay=>exact h.2 x (jy ay)
theorem RF{l:List (List Bool)}(h:∀ p∈l,p.length<=271):((l.map bw).map (·.length)).sum<=271*l.length:=by
 induction l with
 | nil=>exact UF _
 | cons p r cA =>
  rw[jw,jw,List.sum_cons,ed,dA]
  have:=h p (hz ..)
  have:=cA fun q aU=>h q (fk _ aU)
  omega
theorem Ar(x:List Bool)(b:Bool):bw x++bw [b]=bw (x++[b]):=by rw[kl]
theorem T2(nb:dV mg)(F:dF K mg "row_of_steps" DI ["steps"] f fd)(qz:bK P w K mg base 3 "whole_row" ["n"] Ai)(r8:bK P w K mg base 2 "count_row" ["n"] H7)(nq:bK P w K mg base 1 "turned_row" ["row"] w5):bK P w K mg base 4 "row_of_steps" ["steps"] Ik:=by
 refine F.fK sI (fun bb A outer s H vs Q E az h=>?_)
 obtain⟨a,s,rfl,ba,n1,aC,cY,q⟩:=h
 refine⟨_,(aP (bV 1 sI.br (aQ gb (cj d8 I nb.dZ d3 (av (ai 0) aA)) aD))
  (aP (bV 2 sI.br (fU aA))
  (aP (oD i9.never rfl (RQ rfl nb.Zr (ai 0)) (pL rfl (jz (eG (i:=3) sI.br rfl (by exact Or.inl I)) (jz (eG (i:=4) sI.br rfl (by exact Or.inl I)) pI)))
   (aP (bV 5 sI.br (nH (cm dd (ai 3) aD) (cq qz az (av (ai 4) aA)) (cq r8 az (av (aQ gb (ai 4) aD) aA))))
   (aP (bV 5 sI.br (aQ eh (ai 5) (nH (cm dd (ai 3) (ai 1)) cJ cJ)))
   (aT (h9 (jP PySem.F.plainAttrs_list PySem.F.slot_list_append PySem.F.type_list_append sl (ai 2) (av (nH (cm dd (aQ dM (ai 3) aD) aD) (cq nq az (av (ai 5) aA)) (ai 5)) aA)))))))
  (aT (bG (jP PySem.F.plainAttrs_str PySem.F.slot_str_join PySem.F.type_str_join vh cJ (av (ai 2) aA))))))),?_⟩
 try dsimp only[cS,cT,cU,cV]
 refine⟨_,I,_,_,I,.inl ⟨_,bX ba,I⟩,_,_,I,I,UF _,fun r fq=>?_⟩
 have sB:=cL (o:=cv.lst []) fq
 refine⟨_,I,a,_,I,bX (sB _ _ ba),?_⟩
 refine Yb (xs:=s.map V.int) (fun i ab ax=>er H ax/\ax r=J (.lst (((gF 0 s).take i).map (fun p=>V.str (bw p))))/\∃ di dj hh,ab=[J (.ref a),J (.int ((s.length:Nat) - 1:Int)),J (.ref r),di,dj,hh]) ?_ ?_ ?_ ?_
 ·exact⟨sB,aM,aw,aw,aw,by dsimp only;rw[mV];rfl⟩
 ·rintro i ab ax aB ⟨hs,_⟩;exact bX (hs _ _ ba)
 ·rintro i aid ab ax T ay b9 ⟨hs,mL,di,dj,hh,rfl⟩
  obtain⟨x,Hn,rfl⟩:∃ x,s[i]?=J x/\aid = .int x:=by
   rw[fT] at ay
   cases h:s[i]? with
   | none=>rw[h] at ay;cases ay
   | some y=>rw[h] at ay;exact⟨y,I,(gN ay).symm⟩
  have aB:i<s.length:=(kE.mp Hn).1
  have iJ:=cY.at Hn
  have ya:=LB (k:=0) Hn
  rw[Nat.zero_add] at ya
  have hF:=hs.trans (cL (o:=cv.tup [V.int ((i:Nat):Int),V.int x]) b9)
  have mM:=cL (o:=cv.tup [V.int ((i:Nat):Int),V.int x]) b9 _ _ mL
  refine⟨T,_,I,dc aM,I,_,_,I,_,_,I,I,?_⟩
  refine⟨_,I,I,_,I,?_⟩
  by_cases x4:i=0
  ·rw[if_pos x4] at iJ
   have eL:decide (V.int ((i:Nat):Int)=V.int 0)=ag:=ek (congrArg V.int (by omega))
   rw[eL]
   refine gD ⟨_,I,x,I,iJ,_,I,_,I,_,I,I,_,I,?_⟩
   obtain⟨kW,q0⟩:∃ kW,kW=iB x:=⟨_,rfl⟩
   have ex:(if i=0 then iB x else cnt (x - 1).toNat)=kW:=by rw[if_pos x4,q0]
   have adk:kW.length<=270:=by rw[q0];exact Kp iJ.1 iJ.2
   rw[<- q0]
   have rq:(kW++[!decide (i+1=s.length)]).length<=271:=by rw[dI,iC];omega
   refine e0 (fun gh=>?_) (fun gh=>?_)
   ·
    have iF:i+1=s.length:=by have:=V.int.inj gh;omega
    have ho:[!decide (i+1=s.length)]=[ah]:=by rw[ek iF];rfl
    refine .inr ⟨_,_,I,I,(by rw[s0,dA,dA];exact eX (by rw[iC];omega)),?_⟩
    rw[s0,Ar,<- ho]
    refine⟨_,I,.inl ⟨I,_,bX mM⟩,_,I,_,_,I,I,(by show (0:Int)<2;decide),I,_,I,?_⟩
    have nZ:∀ z:List V,z=((gF 0 s).take i).map (fun p=>V.str (bw p))->z.length<bT:=fun z bI=>by rw[bI,cM,kg];exact fi (show min i (gF 0 s).length<100001 by omega) (wk (by decide))
    have cF:∀ p:List Bool,p=hK i x (decide (i+1=s.length))->((gF 0 s).take i).map (fun p=>V.str (bw p))++[V.str (bw p)]=((gF 0 s).take (i+1)).map (fun p=>V.str (bw p)):=fun p bh=>by rw[nE,ya,fz,bh];rfl
    refine e0 (fun fD=>?_) (fun fD=>?_)
    ·have aJ:odd i=ag:=ek (by have:=V.int.inj fD;omega)
     refine⟨_,I,_,I,by omega,?_⟩
     refine⟨_,_,_,I,I,mM,nZ _ I,?_⟩
     rw[cF _ (by unfold hK;rw[aJ,ex];exact pE fun b _=>by cases b<;>rfl)]
     exact⟨qE hF fq,aM,_,_,_,I⟩
    ·have aJ:odd i=ah:=gM (fun z=>fD (congrArg V.int (by omega)))
     refine⟨_,I,?_⟩
     refine⟨_,_,_,I,I,mM,nZ _ I,?_⟩
     rw[cF _ (by unfold hK;rw[aJ,ex,xl])]
     exact⟨qE hF fq,aM,_,_,_,I⟩
   ·have iF:¬i+1=s.length:=fun z=>gh (congrArg V.int (by omega))
    have ho:[!decide (i+1=s.length)]=[ag]:=by rw[gM iF];rfl
    refine .inr ⟨_,_,I,I,(by rw[s1,dA,dA];exact eX (by rw[iC];omega)),?_⟩
    rw[s1,Ar,<- ho]
    refine⟨_,I,.inl ⟨I,_,bX mM⟩,_,I,_,_,I,I,(by show (0:Int)<2;decide),I,_,I,?_⟩
    have nZ:∀ z:List V,z=((gF 0 s).take i).map (fun p=>V.str (bw p))->z.length<bT:=fun z bI=>by rw[bI,cM,kg];exact fi (show min i (gF 0 s).length<100001 by omega) (wk (by decide))
    have cF:∀ p:List Bool,p=hK i x (decide (i+1=s.length))->((gF 0 s).take i).map (fun p=>V.str (bw p))++[V.str (bw p)]=((gF 0 s).take (i+1)).map (fun p=>V.str (bw p)):=fun p bh=>by rw[nE,ya,fz,bh];rfl
    refine e0 (fun fD=>?_) (fun fD=>?_)
    ·have aJ:odd i=ag:=ek (by have:=V.int.inj fD;omega)
     refine⟨_,I,_,I,by omega,?_⟩
     refine⟨_,_,_,I,I,mM,nZ _ I,?_⟩
     rw[cF _ (by unfold hK;rw[aJ,ex];exact pE fun b _=>by cases b<;>rfl)]
     exact⟨qE hF fq,aM,_,_,_,I⟩
    ·have aJ:odd i=ah:=gM (fun z=>fD (congrArg V.int (by omega)))
     refine⟨_,I,?_⟩
     refine⟨_,_,_,I,I,mM,nZ _ I,?_⟩
     rw[cF _ (by unfold hK;rw[aJ,ex,xl])]
     exact⟨qE hF fq,aM,_,_,_,I⟩
  ·rw[if_neg x4] at iJ
   have eL:decide (V.int ((i:Nat):Int)=V.int 0)=ah:=gM (fun z=>x4 (by have:=V.int.inj z;omega))
   rw[eL]
   have ajh:=iJ.1
   have GK:=iJ.2
   refine eb ⟨_,I,_,_,I,I,(x - 1).toNat,(congrArg (fun y=>[V.int y]) (by omega)),(by omega),_,I,_,I,_,I,I,_,I,?_⟩
   obtain⟨kW,q0⟩:∃ kW,kW=cnt (x - 1).toNat:=⟨_,rfl⟩
   have ex:(if i=0 then iB x else cnt (x - 1).toNat)=kW:=by rw[if_neg x4,q0]
   have adk:kW.length<=270:=by rw[q0];have:=AF (n:=(x - 1).toNat) (by omega);omega
   rw[<- q0]
   have rq:(kW++[!decide (i+1=s.length)]).length<=271:=by rw[dI,iC];omega
   refine e0 (fun gh=>?_) (fun gh=>?_)
   ·
    have iF:i+1=s.length:=by have:=V.int.inj gh;omega
    have ho:[!decide (i+1=s.length)]=[ah]:=by rw[ek iF];rfl
    refine .inr ⟨_,_,I,I,(by rw[s0,dA,dA];exact eX (by rw[iC];omega)),?_⟩
    rw[s0,Ar,<- ho]
    refine⟨_,I,.inl ⟨I,_,bX mM⟩,_,I,_,_,I,I,(by show (0:Int)<2;decide),I,_,I,?_⟩
    have nZ:∀ z:List V,z=((gF 0 s).take i).map (fun p=>V.str (bw p))->z.length<bT:=fun z bI=>by rw[bI,cM,kg];exact fi (show min i (gF 0 s).length<100001 by omega) (wk (by decide))
    have cF:∀ p:List Bool,p=hK i x (decide (i+1=s.length))->((gF 0 s).take i).map (fun p=>V.str (bw p))++[V.str (bw p)]=((gF 0 s).take (i+1)).map (fun p=>V.str (bw p)):=fun p bh=>by rw[nE,ya,fz,bh];rfl
    refine e0 (fun fD=>?_) (fun fD=>?_)
    ·have aJ:odd i=ag:=ek (by have:=V.int.inj fD;omega)
     refine⟨_,I,_,I,by omega,?_⟩
     refine⟨_,_,_,I,I,mM,nZ _ I,?_⟩
     rw[cF _ (by unfold hK;rw[aJ,ex];exact pE fun b _=>by cases b<;>rfl)]
     exact⟨qE hF fq,aM,_,_,_,I⟩
    ·have aJ:odd i=ah:=gM (fun z=>fD (congrArg V.int (by omega)))
     refine⟨_,I,?_⟩
     refine⟨_,_,_,I,I,mM,nZ _ I,?_⟩
     rw[cF _ (by unfold hK;rw[aJ,ex,xl])]
     exact⟨qE hF fq,aM,_,_,_,I⟩
   ·have iF:¬i+1=s.length:=fun z=>gh (congrArg V.int (by omega))
    have ho:[!decide (i+1=s.length)]=[ag]:=by rw[gM iF];rfl
    refine .inr ⟨_,_,I,I,(by rw[s1,dA,dA];exact eX (by rw[iC];omega)),?_⟩
    rw[s1,Ar,<- ho]
    refine⟨_,I,.inl ⟨I,_,bX mM⟩,_,I,_,_,I,I,(by show (0:Int)<2;decide),I,_,I,?_⟩
    have nZ:∀ z:List V,z=((gF 0 s).take i).map (fun p=>V.str (bw p))->z.length<bT:=fun z bI=>by rw[bI,cM,kg];exact fi (show min i (gF 0 s).length<100001 by omega) (wk (by decide))
    have cF:∀ p:List Bool,p=hK i x (decide (i+1=s.length))->((gF 0 s).take i).map (fun p=>V.str (bw p))++[V.str (bw p)]=((gF 0 s).take (i+1)).map (fun p=>V.str (bw p)):=fun p bh=>by rw[nE,ya,fz,bh];rfl
    refine e0 (fun fD=>?_) (fun fD=>?_)
    ·have aJ:odd i=ag:=ek (by have:=V.int.inj fD;omega)
     refine⟨_,I,_,I,by omega,?_⟩
     refine⟨_,_,_,I,I,mM,nZ _ I,?_⟩
     rw[cF _ (by unfold hK;rw[aJ,ex];exact pE fun b _=>by cases b<;>rfl)]
     exact⟨qE hF fq,aM,_,_,_,I⟩
    ·have aJ:odd i=ah:=gM (fun z=>fD (congrArg V.int (by omega)))
     refine⟨_,I,?_⟩
     refine⟨_,_,_,I,I,mM,nZ _ I,?_⟩
     rw[cF _ (by unfold hK;rw[aJ,ex,xl])]
     exact⟨qE hF fq,aM,_,_,_,I⟩
 ·rintro ab ax ⟨hs,mL,di,dj,hh,rfl⟩
  have oJ:(gF 0 s).take (s.map V.int).length=gF 0 s:=by rw[mV,<- Ep 0 s,List.take_length]
  rw[oJ] at mL
  obtain⟨a0,Ce,rfl⟩:=List.exists_cons_of_ne_nil n1
  have cG:∀ p∈gF 0 (a0::Ce),p.length<=271:=fun p bh=>by
   obtain⟨i,aB,rfl⟩:=List.mem_iff_getElem.mp bh
   have tm:i<(a0::Ce).length:=by rw[<- Ep 0 (a0::Ce)];exact aB
   have aK:=LB (k:=0) (dm tm)
   rw[dm aB,Nat.zero_add] at aK
   rw[gN aK]
   exact WM (cY.at (dm tm))
  refine⟨I,_,I,_,r,(gF 0 (a0::Ce)).map bw,I,I,bX (by rw[mL,ir];rfl),?_,H,.refl hs,?_⟩
  ·have:=RF cG
   have eL:(af.ofString "").length=0:=by decide +kernel
   rw[eL,Nat.mul_zero,Nat.add_zero]
   rw[Ep] at this
   omega
  ·rw[sm,RV];exact q
inductive Ou(vs:List V)(H:au)(Q:bx)(E:bP):Prop where
 |mk (n:Nat) (bu:vs=[.int n]) (aj:n<2 ^ 100000) (ar:Q (.str (bw (lq n))) H):Ou  vs H Q E
def Ot:b5:=fun vs H Q E=>Ou  vs H Q E
theorem UJ(F:dF K mg "_law_digits" DW ["_law_number"] f fd):bK P w K mg base 1 "_law_digits" ["_law_number"] Ot:=by
 refine F.fK zt (fun bb A outer s H vs Q E az h=>?_)
 obtain⟨n,rfl,bc,q⟩:=h
 refine⟨_,(aP (bV 1 zt.br cJ)
  (aP (qH i9.never (cm kS (ai 0) aD)
   (aP (bV 1 zt.br (aQ eh (cN cP (fU (av cJ (av cJ aA))) (aQ dM (ai 0) aD)) (ai 1)))
   (aT (bV 0 zt.br (aQ hA (ai 0) aD)))))
  (aT (bG (ai 1))))),?_⟩
 try dsimp only[cS,cT,cU,cV]
 have p2:aZ n<=100000:=hn bc
 refine⟨fun m ab ax=>∃ l:List Bool,ab=[J (.int (m:Nat)),J (.str (bw l))]/\lq m++l=lq n/\er H ax,⟨n,[],by rw[<- Oc];rfl,List.append_nil _,dR _⟩,?_⟩
 rintro m ab ax ⟨l,rfl,hd,hs⟩
 have cG:=congrArg List.length hd
 rw[dI,Ah,Ah] at cG
 refine⟨_,I,_,_,I,I,_,I,?_⟩
 refine e0 (fun c=>?_) (fun c=>?_)
 ·have hm:m≠0:=by omega
  have j1:=Xj hm
  have aq:=pB hm
  refine⟨fun bQ H'=>∃ b1,b1<m/\∃ l:List Bool,bQ=[J (.int (b1:Nat)),J (.str (bw l))]/\lq b1++l=lq n/\er H H',fun _ _ h=>h,?_⟩
  refine⟨(by show 2<=bT;decide),fun r vU=>⟨_,I,_,_,I,I,(by show (0:Int)<2;decide),.inl (.inl ⟨_,_,_,_,I,I,bX aM,SD m,?_⟩)⟩⟩
  refine⟨_,I,.inr ⟨_,_,I,I,(by rw[dA,dA];exact eX (by simp only[ed,List.length_nil];omega)),?_⟩⟩
  refine⟨_,I,_,_,I,I,⟨by decide,by decide⟩,m/2,by omega,[decide (m%2=1)]++l,?_,?_,hs.trans (cL vU)⟩
  ·rw[kl];rfl
  ·rw[<- fA,<- j1];exact hd
 ·have hm:m=0:=by omega
  subst hm
  have:l=lq n:=by rw[<- hd,Xi];rfl
  subst this
  exact⟨_,I,H,.refl hs,q⟩
structure uo where
 (n s w l f t a b Cy k:ae)
structure Jj(mg:af->Option ao)(c:uo):Prop where
 aja:ej mg "NoFit" (.ref c.n)
 ajb:ej mg "Short" (.ref c.s)
 ajc:ej mg "Wrong" (.ref c.w)
 gl:ej mg "Left" (.ref c.l)
 Z9:ej mg "NoForm" (.ref c.f)
 gt:ej mg "NoText" (.ref c.t)
 ga:ej mg "NotAhead" (.ref c.a)
 ai7:ej mg "BadPage" (.ref c.b)
 g2:ej mg "Twice" (.ref c.Cy)
 ai9:ej mg "Lacking" (.ref c.k)
structure wZ(K:bO)(c:uo)(C:ae)(bs:List Bool):Prop where
 gm:ExcC K C
 ajJ:∃ gp fC oG sU sV sW sX vu vv vt:Bool,bs=[gp,fC,oG,sU,sV,sW,sX,vu,vv,vt,ag]/\eU K (.ref C) (.ref c.n)=J gp/\eU K (.ref C) (.ref c.s)=J fC/\eU K (.ref C) (.ref c.w)=J oG/\eU K (.ref C) (.ref c.l)=J sU/\
  eU K (.ref C) (.ref c.f)=J sV/\eU K (.ref C) (.ref c.t)=J sW/\eU K (.ref C) (.ref c.a)=J sX/\eU K (.ref C) (.ref c.b)=J vu/\eU K (.ref C) (.ref c.Cy)=J vv/\eU K (.ref C) (.ref c.k)=J vt/\eU K (.ref C) (.type "ValueError")=J ag
inductive OU(K:bO)(c:uo)(vs:List V)(H:au)(Q:bx)(E:bP):Prop where
 |mk (v:V) (bu:vs=[v]) (aj:((v = .bL/\∀ p,H p=aw->Q (.ref p) (upd H p (.lst ([]:List V))))\/ (∃ a C d bs,v = .ref a/\H a=J (k2 a C d)/\(d=aw\/∃ al fs,d=J al/\H al=J (.iL fs))/\wZ K c C bs/\∀ p,H p=aw->Q (.ref p) (upd H p (.lst (bs.map .aH)))))):OU K c vs H Q E
def OT(K:bO)(c:uo):b5:=fun vs H Q E=>OU K c vs H Q E
theorem UI{c:uo}(nb:dV mg)(HB:mg "ValueError"=aw)(X:Jj mg c)(F:dF K mg "_law_kinds" D4 ["_law_kept"] f fd):bK P w K mg base 1 "_law_kinds" ["_law_kept"] (OT K c):=by
 obtain⟨Gh,Gl,Gn,Gg,Gi,Gj,Gk,Ge,Gm,Gf⟩:=X
 refine F.fK zJ (fun bb A outer s H vs Q E az h=>?_)
 obtain⟨v,rfl,bl⟩:=h
 refine⟨_,(aP (cR (cm AS (ai 0) oE) (aT (bG (fU aA))) cQ)
  (aP (bV 1 zJ.br (fU (av (cj nK rfl nb.gB gx (av (ai 0) (av (iv Gh) aA))) (av (cj nK rfl nb.gB gx (av (ai 0) (av (iv Gl) aA))) (av (cj nK rfl nb.gB gx (av (ai 0) (av (iv Gn) aA))) (av (cj nK rfl nb.gB gx (av (ai 0) (av (iv Gg) aA))) aA))))))
  (aP (bV 1 zJ.br (aQ AU (ai 1) (fU (av (cj nK rfl nb.gB gx (av (ai 0) (av (iv Gi) aA))) (av (cj nK rfl nb.gB gx (av (ai 0) (av (iv Gj) aA))) (av (cj nK rfl nb.gB gx (av (ai 0) (av (iv Gk) aA))) aA))))))
  (aP (bV 1 zJ.br (aQ AU (ai 1) (fU (av (cj nK rfl nb.gB gx (av (ai 0) (av (iv Ge) aA))) (av (cj nK rfl nb.gB gx (av (ai 0) (av (iv Gm) aA))) (av (cj nK rfl nb.gB gx (av (ai 0) (av (iv Gf) aA))) aA))))))
  (aT (bG (aQ AU (ai 1) (fU (av (cj nK rfl nb.gB gx (av (ai 0) (av (iR (v := .ty "ValueError") rfl HB US rfl) aA))) aA))))))))),?_⟩
 try dsimp only[cS,cT,cU,cV]
 rcases bl with⟨rfl,q⟩ | ⟨a,C,d,bs,rfl,ba,hd,⟨gm,gp,fC,oG,sU,sV,sW,sX,vu,vv,vt,rfl,gE,e1,h1,tB,j4,yo,Hr,Hs,Ht,acy,gr⟩,q⟩
 ·exact⟨_,I,I,_,I,jl I ⟨UF _,fun r fq=>⟨_,.new fq (cL fq) aM trivial,q r fq⟩⟩⟩
 ·have oV:∀ {D:ae} {b:Bool},eU K (.ref C) (.ref D)=J b->∀ mI,RelV (.ref D) mI->eU K (.ref C) mI=J b:=fun {D b} h mI r=>by
   obtain rfl:mI = .ref D:=r
   exact h
  have ac5:∀ mI,RelV (.ty "ValueError") mI->eU K (.ref C) mI=J ag:=fun mI r=>by
   obtain rfl:mI = .type "ValueError":=r
   exact gr
  have s7:∀ {H':au},er H H'->(d=aw\/∃ al fs,d=J al/\H' al=J (.iL fs)):=fun {H'} hs=>by
   rcases hd with z | ⟨al,fs,z,e⟩
   ·exact .inl z
   ·exact .inr ⟨al,fs,z,hs _ _ e⟩
  refine⟨_,I,I,_,I,gC (fun z=>nomatch z) ?_⟩
  refine⟨_,I,a,C,d,_,gp,I,ba,gm,hd,oV gE,?_⟩
  refine⟨_,I,a,C,d,_,fC,I,ba,gm,hd,oV e1,?_⟩
  refine⟨_,I,a,C,d,_,oG,I,ba,gm,hd,oV h1,?_⟩
  refine⟨_,I,a,C,d,_,sU,I,ba,gm,hd,oV tB,?_⟩
  refine⟨(by show 4<=bT;decide),fun cp aj=>?_⟩
  have kT:=cL (o:=cv.lst [V.aH gp,.aH fC,.aH oG,.aH sU]) aj
  have GD:=kT _ _ ba
  refine⟨_,I,_,I,a,C,d,_,sV,I,GD,gm,s7 kT,oV j4,?_⟩
  refine⟨_,I,a,C,d,_,sW,I,GD,gm,s7 kT,oV yo,?_⟩
  refine⟨_,I,a,C,d,_,sX,I,GD,gm,s7 kT,oV Hr,?_⟩
  refine⟨(by show 3<=bT;decide),fun el ar=>?_⟩
  have rG:=cL (o:=cv.lst [V.aH sV,.aH sW,.aH sX]) ar
  refine⟨cp,el,_,_,I,I,rG _ _ aM,aM,(by show 4+3<=bT;decide),fun rF bB=>?_⟩
  have H2:=cL (o:=cv.lst ([V.aH gp,.aH fC,.aH oG,.aH sU]++[V.aH sV,.aH sW,.aH sX])) bB
  have t3:=(kT.trans rG).trans H2
  have GF:=t3 _ _ ba
  refine⟨_,I,_,I,a,C,d,_,vu,I,GF,gm,s7 t3,oV Hs,?_⟩
  refine⟨_,I,a,C,d,_,vv,I,GF,gm,s7 t3,oV Ht,?_⟩
  refine⟨_,I,a,C,d,_,vt,I,GF,gm,s7 t3,oV acy,?_⟩
  refine⟨(by show 3<=bT;decide),fun HU b0=>?_⟩
  have Oa:=cL (o:=cv.lst [V.aH vu,.aH vv,.aH vt]) b0
  refine⟨rF,HU,_,_,I,I,Oa _ _ aM,aM,(by show 7+3<=bT;decide),fun t2 eB=>?_⟩
  have agr:=cL (o:=cv.lst (([V.aH gp,.aH fC,.aH oG,.aH sU]++[V.aH sV,.aH sW,.aH sX])++[V.aH vu,.aH vv,.aH vt])) eB
  have It:=(t3.trans Oa).trans agr
  have aaD:=It _ _ ba
  refine⟨_,I,_,I,a,C,d,_,ag,I,aaD,gm,s7 It,ac5,?_⟩
  refine⟨(by show 1<=bT;decide),fun af9 kN=>?_⟩
  have Ob:=cL (o:=cv.lst [V.aH ag]) kN
  refine⟨t2,af9,_,_,I,I,Ob _ _ aM,aM,(by show 10+1<=bT;decide),fun p bh=>?_⟩
  have sa:=It.trans Ob
  exact⟨_,.new (sa.free bh) (sa.trans (cL bh)) aM trivial,q p (sa.free bh)⟩
theorem qU:1<=bT:=by decide
inductive O0(vs:List V)(H:au)(Q:bx)(E:bP):Prop where
 |mk (t s:af) (bu:vs=[.str t,.str s]) (aj:t.length<=1000) (ar:Q (.aH (mW t s)) H):O0  vs H Q E
def yQ:b5:=fun vs H Q E=>O0  vs H Q E
theorem We(nb:dV mg)(F:dF K mg "made_of" Ey ["text","signs"] f fd):bK P w K mg base 1 "made_of" ["text","signs"] yQ:=by
 refine F.fK V6 (fun bb A outer s H vs Q E az h=>?_)
 obtain⟨t,bg,rfl,aW,q⟩:=h
 refine⟨_,(aT (bG (cj (ve I) I nb.vr vp (av (iQ ["sign"] [(1,"signs")] I (by decide +kernel) ⟨I,.inl I,trivial⟩ (j7 (ai 0)) (fun _ _ _ _ _=>(eG (i:=0) (show (["sign","signs"]:List af).Nodup by decide +kernel) rfl (by first | exact Or.inl I | exact Or.inr I))) (fun _ _ _ _ _=>iE) (fun _ _ _ _ _=>(LA WS (ai 0) (ai 1) (by with_unfolding_all rfl)))) aA)))),?_⟩
 try dsimp only[cS,cT,cU,cV]
 refine .inr ⟨_,I,t,I,fun D dB=>?_⟩
 refine Lr (fun c => .aH (decide (c∈bg.cps.toList))) (fun ab=>∃ z,ab=[z,J (.str bg)]) (eX (by show t.length<=_;omega)) ⟨_,I⟩ dB ?_ ?_
 ·rintro c hc b8 H1 ⟨z,rfl⟩ hs R cY
  refine⟨_,I,_,I,_,_,I,I,?_⟩
  rw[StrLaws.found_one]
  exact cY _ ⟨_,I⟩
 ·refine⟨D,t.cps.toList.map fun c=>decide (c∈bg.cps.toList),I,?_,H,.refl (cL dB),?_⟩
  ·rw[ir];exact bX aM
  ·rw[List.all_map];exact q
inductive OR(vs:List V)(H:au)(Q:bx)(E:bP):Prop where
 |mk (n:af) (bu:vs=[.str n]) (aj:n.length<=1000) (ar:Q (.aH (isName n)) H):OR  vs H Q E
def OQ:b5:=fun vs H Q E=>OR  vs H Q E
theorem Wf(nb:dV mg)(F8:ej mg "LONGEST_NAME" (.int 12))(Gd:ej mg "SMALL_LETTERS" (.str jM))(F:dF K mg "is_name" Ez ["name"] f fd)(nk:bK P w K mg base 1 "made_of" ["text","signs"] yQ):bK P w K mg base 2 "is_name" ["name"] OQ:=by
 refine F.fK V7 (fun bb A outer s H vs Q E az h=>?_)
 obtain⟨n,rfl,bc,q⟩:=h
 refine⟨_,(aT (bG (iU (gV oa aD (cj d8 I nb.dZ d3 (av (ai 0) aA))) (iU (gV yz (cj d8 I nb.dZ d3 (av (ai 0) aA)) (iv F8)) (kj (cq nk az (av (ai 0) (av (iv Gd) aA)))))))),?_⟩
 try dsimp only[cS,cT,cU,cV]
 have ln:n.length<=bT:=eX (by omega)
 unfold isName at q
 refine⟨_,I,_,_,I,⟨ln,I⟩,.inl ⟨_,_,I,I,_,I,?_⟩⟩
 refine e0 (fun e5=>?_) (fun e5=>?_)
 ·refine⟨_,I,_,_,I,⟨ln,I⟩,_,_,I,I,_,I,?_⟩
  refine e0 (fun gh=>?_) (fun gh=>?_)
  ·refine⟨_,I,n,jM,I,bc,H,.refl (dR _),?_⟩
   rw[ek ⟨by omega,by omega⟩,Bool.true_and] at q
   exact q
  ·rw[gM (fun z=>gh (by omega)),Bool.false_and] at q
   exact⟨H,.refl (dR _),q⟩
 ·rw[gM (fun z=>e5 (by omega)),Bool.false_and] at q
  exact⟨H,.refl (dR _),q⟩
structure Parts(H:au)(p:ae)(ps:List (ae×af×ae)):Prop where
 l:H p=J (.lst (ps.map fun x=>V.ref x.1))
 t:∀ x,x∈ps->H x.1=J (.tup [.str x.2.1,.ref x.2.2])
 n:ps.length<=30
 b:∀ x,x∈ps->x.2.1.length<=100
noncomputable def gR(ps:List (ae×af×ae)):List af:=ps.map fun x=>x.2.1
noncomputable def ic(ps:List (ae×af×ae)):List ae:=ps.map fun x=>x.2.2
theorem Parts.same{H H':au}{p:ae}{ps:List (ae×af×ae)}(h:Parts H p ps)(s:er H H'):Parts H' p ps:=⟨s _ _ h.l,fun x ay=>s _ _ (h.t x ay),h.n,h.b⟩
inductive O2(vs:List V)(H:au)(Q:bx)(E:bP):Prop where
 |mk (p ps) (bu:vs=[.ref p]) (aj:Parts H p ps) (ar:jZ (gR ps)=ag) (bB:∀ D,H D=aw->Q (.ref D) (upd H D (.lst ((gR ps).map V.str)))):O2  vs H Q E
def Ih:b5:=fun vs H Q E=>O2  vs H Q E
theorem VG(nb:dV mg)(Ga:ej mg "MOST_PARTS" (.int 20))(F:dF K mg "names_of" Ej ["parts"] f fd)(CY:bK P w K mg base 2 "is_name" ["name"] OQ):bK P w K mg base 3 "names_of" ["parts"] Ih:=by
 refine F.fK Kf (fun bb A outer s H vs Q E az h=>?_)
 obtain⟨p,ps,rfl,ck,aK,q⟩:=h
 refine⟨_,(aP (VB (i:=1)  ["part"] [] Kf.br I I I (by decide +kernel) trivial (j7 (ai 0)) (fun _ _ _ _ _=>(eG (i:=0) (show (["part"]:List af).Nodup by decide +kernel) rfl (by first | exact Or.inl I | exact Or.inr I))) (fun _ _ _ _ _=>iE) (fun _ _ _ _ _=>(cN cP (ai 0) aD)))
  (aP (cR (gJ.pt (kf (cm dd (cj d8 rfl nb.dZ d3 (av (ai 1) aA)) aD) (k4 (cm kS (cj d8 rfl nb.dZ d3 (av (ai 1) aA)) (iv Ga))))) (aT nG) cQ)
  (aP (cR (cm oa (KH rfl rfl nb.dZ rfl nb.Of (ai 1)) (cj d8 rfl nb.dZ d3 (av (ai 1) aA))) (aT nG) cQ)
  (aP (cR (iS (g8 (cj (ve rfl) rfl nb.vr vp (av (iQ ["name"] [] rfl (by decide +kernel) trivial (j7 (ai 1)) (fun _ _ _ _ _=>(eG (i:=0) (show (["name"]:List af).Nodup by decide +kernel) rfl (by first | exact Or.inl I | exact Or.inr I))) (fun _ _ _ _ _=>iE) (fun _ _ _ _ _=>(cq CY az (av (ai 0) aA)))) aA)))) (aT nG) cQ)
  (aT (bG (ai 1))))))),?_⟩
 try dsimp only[cS,cT,cU,cV]
 refine .inl ⟨_,I,p,I,⟨_,bX ck.l⟩,fun D dB=>?_⟩
 refine xg (K:=K) (a:=p) (xs:=ps.map fun x=>V.ref x.1) (fun i=>V.str ((gR ps).getD i af.empty)) (fun ab=>∃ z,ab=[z]) (by rw[cM];exact eX (by have:=ck.n;omega)) ⟨_,I⟩ dB (bX ck.l) ?_ ?_
 ·rintro i x ay b8 H1 ⟨z,rfl⟩ eR R cY
  rw[fT] at ay
  obtain⟨y,bM,rfl⟩:=Uf.mp ay
  have hm:=jy bM
  have e:(gR ps).getD i af.empty=y.2.1:=by unfold gR;rw[e9,fT,bM];rfl
  rw[e] at cY
  exact⟨_,I,.inl (.inr ⟨_,_,_,_,I,I,dc (eR _ _ (ck.t y hm)),dt (j:=0) I,cY _ ⟨_,I⟩⟩)⟩
 have gP:(List.range (ps.map fun x=>V.ref x.1).length).map (fun i=>V.str ((gR ps).getD i af.empty))=(gR ps).map V.str:=by
  have bu:=Kj (gR ps)
  rw[show (ps.map fun x=>V.ref x.1).length=(gR ps).length by unfold gR;rw[cM,cM]]
  exact bu
 rw[gP]
 have ajq:(gR ps).length<=30:=by unfold gR;rw[cM];exact ck.n
 have vK:dQ K (upd H D (.lst ((gR ps).map V.str))) D ((gR ps).map V.str):=bX aM
 have gq:=S3 (gR ps)
 unfold jZ at aK
 refine⟨_,I,_,_,I,.inl ⟨_,vK,I⟩,I,_,I,?_⟩
 rw[cM]
 simp only[h7,jQ] at aK
 obtain⟨⟨bu,vF,hd⟩,hZ⟩:=aK
 refine gC (fun z=>bu (by have:=V.int.inj z;omega)) ⟨_,I,_,_,I,.inl ⟨_,vK,I⟩,_,_,I,I,_,I,gC (by rw[cM];omega) ?_⟩
 refine⟨_,I,_,_,Vt vK,(by unfold scanBound;omega),_,I,_,_,I,.inl ⟨_,vK,I⟩,.inl ⟨_,_,I,I,_,I,gC (by rw[cM];show ¬(((A8 (gR ps):Nat):Int)<_);omega) ?_⟩⟩
 refine .inl ⟨_,I,D,I,⟨_,vK⟩,fun jK q7=>?_⟩
 have pY:upd H D (.lst ((gR ps).map V.str)) D=J (.lst ((gR ps).map V.str)):=aM
 refine Ax (K:=K) (a:=D) (xs:=(gR ps).map V.str) (fun x=>match x with | .str n => .aH (isName n) | _ => .bL) (fun ab=>∃ z,ab=[z]) (by rw[cM];exact eX (by omega)) ⟨_,rfl⟩ q7 vK ?_ ?_
 ·rintro x ay b8 H1 ⟨z,rfl⟩ eR R cY
  obtain⟨n,bc,rfl⟩:=List.mem_map.mp ay
  obtain⟨y,bM,rfl⟩:=List.mem_map.mp bc
  have:=ck.b y bM
  exact⟨_,I,_,I,by omega,cY _ ⟨_,rfl⟩⟩
 ·rw[ir]
  refine⟨jK,(gR ps).map isName,I,?_,_,I,?_⟩
  ·rw[ir];exact bX aM
  rw[List.all_map,show (id ∘ isName)=isName from rfl,hZ]
  exact eb ⟨_,I,_,.new (o:=cv.lst ((gR ps).map V.str)) dB ((cL dB).trans (cL q7)) (by rw[bJ (fun z=>by rw[<- z,pY] at q7;cases q7)];exact aM) trivial,q D dB⟩
structure uY(K:bO)(C:ae):Prop where
 cl:fe K C
 oY:jN K C "low"
 B1:jN K C "high"
structure sq(K:bO)(C:ae):Prop where
 cl:fe K C
 m1:jN K C "signs"
structure nC(K:bO)(C:ae):Prop where
 cl:fe K C
 rx:jN K C "names"
 qj:jN K C "forms"
theorem adj:¬(("low":af)="high"):=by decide +kernel
theorem adR:¬(("names":af)="forms"):=by decide +kernel
theorem RM(v:V):e8 "low" v []=([("low",v)]:List (af×V)):=rfl
theorem XO(v w:V):e8 "high" w ([("low",v)]:List (af×V))=([("low",v),("high",w)]:List (af×V)):=by simp only[e8,adj,if_false]
theorem Wb(v:V):e8 "signs" v []=([("signs",v)]:List (af×V)):=rfl
theorem KC(v:V):e8 "names" v []=([("names",v)]:List (af×V)):=rfl
theorem KD(v w:V):e8 "forms" w ([("names",v)]:List (af×V))=([("names",v),("forms",w)]:List (af×V)):=by simp only[e8,adR,if_false]
theorem hI(k:af)(v:V)(r:List (af×V)):((k,v)::r).lookup k=J v:=by simp[List.lookup]
theorem oX(k e1:af)(v w:V)(h:(e1 == k)=ah):([(k,v),(e1,w)]:List (af×V)).lookup e1=J w:=by simp[List.lookup,h]
theorem G3:(("high":af) == "low")=ah:=by decide +kernel
theorem tb:(("forms":af) == "names")=ah:=by decide +kernel
noncomputable def Py(a b:Int):List (af×V):=[("low",.int a),("high",.int b)]
noncomputable def NM(s:af):List (af×V):=[("signs",.str s)]
noncomputable def Cz(ei et:ae):List (af×V):=[("names",.ref ei),("forms",.ref et)]
inductive Pl(C:ae)(vs:List V)(H:au)(Q:bx)(E:bP):Prop where
 |mk (p al:ae) (a b:Int) (bu:vs=[.ref p,.int a,.int b]) (aj:H p=J (.ins C al [])) (ar:a<=b) (bB:Q .bL (upd H p (.ins C al (Py a b)))):Pl C vs H Q E
def Im(C:ae):b5:=fun vs H Q E=>Pl C vs H Q E
theorem U8(T:uY K C)(F:c2 K "__init__" "Span.__init__" Eb f fd):cg P w K mg base dk 1 f fd ["self","low","high"] (Im C):=by
 refine F.ok U1 (fun vs H Q E h=>?_) (fun bb A outer s H vs Q E az h=>?_)
 ·obtain⟨_,_,_,_,rfl,_⟩:=h;rfl
 obtain⟨p,al,a,b,rfl,bh,M3,q⟩:=h
 refine⟨_,(aP (cR (cm kS (ai 1) (ai 2)) (aT nG) cQ)
  (aP (iT (ai 0) (ai 1) rfl)
  (aT (iT (ai 0) (ai 2) rfl)))),?_⟩
 try dsimp only[cS,cT,cU,cV]
 refine⟨_,I,_,I,_,_,I,I,_,I,gC (by omega) ?_⟩
 refine⟨_,I,_,I,p,C,al,_,I,bh,T.cl,T.oY,(by show 0<1000;decide),?_⟩
 rw[RM]
 refine⟨_,I,_,I,p,C,al,_,I,aM,T.cl,T.B1,(by show 1<1000;decide),?_⟩
 rw[XO,h8]
 exact q
inductive OW(C:ae)(vs:List V)(H:au)(Q:bx)(E:bP):Prop where
 |mk (p al:ae) (s:af) (bu:vs=[.ref p,.str s]) (aj:H p=J (.ins C al [])) (ar:s.length<=1000) (bB:ko s=ag) (b0:Q .bL (upd H p (.ins C al (NM s)))):OW C vs H Q E
def Ic(C:ae):b5:=fun vs H Q E=>OW C vs H Q E
theorem VH(nb:dV mg)(Gb:ej mg "MOST_SIGNS" (.int 60))(F7:ej mg "LETTERS_AND_FIGURES" (.str pC))(T:sq K C)(F:c2 K "__init__" "Letters.__init__" DL f fd)(nk:bK P w K mg base 1 "made_of" ["text","signs"] yQ):cg P w K mg base dk 2 f fd ["self","signs"] (Ic C):=by
 refine F.ok TZ (fun vs H Q E h=>?_) (fun bb A outer s H vs Q E az h=>?_)
 ·obtain⟨_,_,_,rfl,_⟩:=h;rfl
 obtain⟨p,al,t,rfl,bh,aW,aK,q⟩:=h
 refine⟨_,(aP (cR (gJ.pt (kf (cm dd (ai 1) cJ) (k4 (cm kS (cj d8 I nb.dZ d3 (av (ai 1) aA)) (iv Gb))))) (aT nG) cQ)
  (aP (cR (cm oa (KH rfl rfl nb.dZ rfl nb.Of (ai 1)) (cj d8 rfl nb.dZ d3 (av (ai 1) aA))) (aT nG) cQ)
  (aP (cR (iS (g8 (cq nk az (av (ai 1) (av (iv F7) aA))))) (aT nG) cQ)
  (aT (iT (ai 0) (ai 1) rfl))))),?_⟩
 try dsimp only[cS,cT,cU,cV]
 have ln:t.length<=bT:=eX (by omega)
 have gq:=S2 t
 unfold ko at aK
 simp only[h7,jQ] at aK
 obtain⟨⟨bu,pX,hd⟩,hZ⟩:=aK
 refine⟨_,I,I,_,I,gC (fun z=>bu ((RG t).mp (V.str.inj z))) ⟨_,I,_,_,I,⟨ln,I⟩,_,_,I,I,_,I,gC (by omega) ?_⟩⟩
 refine⟨_,I,_,_,V1 t,(by unfold scanBound;show t.length+1<_;omega),_,I,_,_,I,⟨ln,I⟩,.inl ⟨_,_,I,I,_,I,gC (by show ¬(((A9 t:Nat):Int)<_);omega) ?_⟩⟩
 refine⟨_,I,t,pC,I,by omega,_,rfl,?_⟩
 rw[hZ]
 refine eb ⟨_,I,_,I,p,C,al,_,I,bh,T.cl,T.m1,(by show 0<1000;decide),?_⟩
 rw[Wb]
 exact q
theorem Parts.keep{H H':au}{p o C al:ae}{fs:List (af×V)}{ps:List (ae×af×ae)}(h:Parts H p ps)(aJ:H o=J (.ins C al fs))(s:∀ b u,b≠o->H b=J u->H' b=J u):Parts H' p ps :=
 ⟨s _ _ (fun z=>by have:=h.l;rw[z,aJ] at this;cases this) h.l,fun x ay=>s _ _ (fun z=>by have:=h.t x ay;rw[z,aJ] at this;cases this) (h.t x ay),h.n,h.b⟩
inductive Pp(C:ae)(vs:List V)(H:au)(Q:bx)(E:bP):Prop where
 |mk (o al p:ae) (ps:List (ae×af×ae)) (bu:vs=[.ref o,.ref p]) (aj:H o=J (.ins C al [])) (ar:Parts H p ps) (bB:jZ (gR ps)=ag) (b0:∀ ei et,H ei=aw->H et=aw->ei≠et->Q .bL (upd (upd (upd H ei (.lst ((gR ps).map V.str))) et (.lst ((ic ps).map V.ref))) o (.ins C al (Cz ei et)))):Pp C vs H Q E
def wq(C:ae):b5:=fun vs H Q E=>Pp C vs H Q E
theorem VF(nb:dV mg)(T:nC K C)(F:c2 K "__init__" "Record.__init__" DR f fd)(uz:bK P w K mg base 3 "names_of" ["parts"] Ih):cg P w K mg base dk 4 f fd ["self","parts"] (wq C):=by
 refine F.ok Ug (fun vs H Q E h=>?_) (fun bb A outer s H vs Q E az h=>?_)
 ·obtain⟨_,_,_,_,rfl,_⟩:=h;rfl
 obtain⟨o,al,p,ps,rfl,aJ,ck,aK,q⟩:=h
 refine⟨_,(aP (iT (ai 0) (cq uz az (av (ai 1) aA)) I)
  (aT (iT (ai 0) (iQ ["part"] [] rfl (by decide +kernel) trivial (j7 (ai 1)) (fun _ _ _ _ _=>(eG (i:=0) (show (["part"]:List af).Nodup by decide +kernel) rfl (by first | exact Or.inl I | exact Or.inr I))) (fun _ _ _ _ _=>iE) (fun _ _ _ _ _=>(cN cP (ai 0) aD))) rfl))),?_⟩
 try dsimp only[cS,cT,cU,cV]
 refine⟨_,I,p,ps,I,ck,aK,fun ei aj=>?_⟩
 have eT:ei≠o:=(eO aJ aj).symm
 refine⟨_,I,o,C,al,_,I,(by rw[bJ (d2 eT)];exact aJ),T.cl,T.rx,(by show 0<1000;decide),?_⟩
 rw[KC]
 have gE:∀ b u,b≠o->H b=J u->upd (upd H ei (.lst ((gR ps).map V.str))) o (.ins C al [("names",.ref ei)]) b=J u:=fun b u nb e=>by rw[bJ nb,bJ (eO e aj)];exact e
 have th:=ck.keep aJ gE
 refine .inl ⟨_,I,p,I,⟨_,bX th.l⟩,fun et ar=>?_⟩
 have dO:et≠o:=fun z=>by rw[z,aM] at ar;cases ar
 have yu:ei≠et:=fun z=>by rw[bJ dO,<- z,aM] at ar;cases ar
 have vF:H et=aw:=by rw[bJ dO,bJ (d2 yu)] at ar;exact ar
 refine xg (K:=K) (a:=p) (xs:=ps.map fun x=>V.ref x.1) (fun i=>V.ref ((ic ps).getD i 0)) (fun ab=>∃ z,ab=[z]) (by rw[cM];exact eX (by have:=ck.n;omega)) ⟨_,I⟩ ar (bX th.l) ?_ ?_
 ·rintro i x ay b8 H1 ⟨z,rfl⟩ eR R cY
  rw[fT] at ay
  obtain⟨y,bM,rfl⟩:=Uf.mp ay
  have hm:=jy bM
  have e:(ic ps).getD i 0=y.2.2:=by unfold ic;rw[e9,fT,bM];rfl
  rw[e] at cY
  exact⟨_,I,.inl (.inr ⟨_,_,_,_,I,I,dc (eR _ _ (th.t y hm)),dt (j:=1) I,cY _ ⟨_,I⟩⟩)⟩
 have gP:(List.range (ps.map fun x=>V.ref x.1).length).map (fun i=>V.ref ((ic ps).getD i 0))=(ic ps).map V.ref:=by
  apply List.ext_getElem
  ·unfold ic;simp
  ·intro i g1 g2
   have g3:i<ps.length:=by simpa [ic] using g2
   have nS:i<(ic ps).length:=by simpa using g2
   rw[jR,jR,List.getElem_range,e9,dm nS];rfl
 rw[gP]
 refine⟨_,I,o,C,al,_,I,(by rw[bJ (d2 dO)];exact aM),T.cl,T.qj,(by show 1<1000;decide),?_⟩
 rw[KD,Az (d2 dO),h8]
 exact q ei et aj vF yu
theorem VL(nb:dV mg)(T:nC K C)(F:c2 K "__init__" "Choice.__init__" DS f fd)(uz:bK P w K mg base 3 "names_of" ["parts"] Ih):cg P w K mg base dk 4 f fd ["self","cases"] (wq C):=by
 refine F.ok Uj (fun vs H Q E h=>?_) (fun bb A outer s H vs Q E az h=>?_)
 ·obtain⟨_,_,_,_,rfl,_⟩:=h;rfl
 obtain⟨o,al,p,ps,rfl,aJ,ck,aK,q⟩:=h
 refine⟨_,(aP (iT (ai 0) (cq uz az (av (ai 1) aA)) I)
  (aT (iT (ai 0) (iQ ["case"] [] rfl (by decide +kernel) trivial (j7 (ai 1)) (fun _ _ _ _ _=>(eG (i:=0) (show (["case"]:List af).Nodup by decide +kernel) rfl (by first | exact Or.inl I | exact Or.inr I))) (fun _ _ _ _ _=>iE) (fun _ _ _ _ _=>(cN cP (ai 0) aD))) rfl))),?_⟩
 try dsimp only[cS,cT,cU,cV]
 refine⟨_,I,p,ps,I,ck,aK,fun ei aj=>?_⟩
 have eT:ei≠o:=(eO aJ aj).symm
 refine⟨_,I,o,C,al,_,I,(by rw[bJ (d2 eT)];exact aJ),T.cl,T.rx,(by show 0<1000;decide),?_⟩
 rw[KC]
 have gE:∀ b u,b≠o->H b=J u->upd (upd H ei (.lst ((gR ps).map V.str))) o (.ins C al [("names",.ref ei)]) b=J u:=fun b u nb e=>by rw[bJ nb,bJ (eO e aj)];exact e
 have th:=ck.keep aJ gE
 refine .inl ⟨_,I,p,I,⟨_,bX th.l⟩,fun et ar=>?_⟩
 have dO:et≠o:=fun z=>by rw[z,aM] at ar;cases ar
 have yu:ei≠et:=fun z=>by rw[bJ dO,<- z,aM] at ar;cases ar
 have vF:H et=aw:=by rw[bJ dO,bJ (d2 yu)] at ar;exact ar
 refine xg (K:=K) (a:=p) (xs:=ps.map fun x=>V.ref x.1) (fun i=>V.ref ((ic ps).getD i 0)) (fun ab=>∃ z,ab=[z]) (by rw[cM];exact eX (by have:=ck.n;omega)) ⟨_,I⟩ ar (bX th.l) ?_ ?_
 ·rintro i x ay b8 H1 ⟨z,rfl⟩ eR R cY
  rw[fT] at ay
  obtain⟨y,bM,rfl⟩:=Uf.mp ay
  have hm:=jy bM
  have e:(ic ps).getD i 0=y.2.2:=by unfold ic;rw[e9,fT,bM];rfl
  rw[e] at cY
  exact⟨_,I,.inl (.inr ⟨_,_,_,_,I,I,dc (eR _ _ (th.t y hm)),dt (j:=1) I,cY _ ⟨_,I⟩⟩)⟩
 have gP:(List.range (ps.map fun x=>V.ref x.1).length).map (fun i=>V.ref ((ic ps).getD i 0))=(ic ps).map V.ref:=by
  apply List.ext_getElem
  ·unfold ic;simp
  ·intro i g1 g2
   have g3:i<ps.length:=by simpa [ic] using g2
   have nS:i<(ic ps).length:=by simpa using g2
   rw[jR,jR,List.getElem_range,e9,dm nS];rfl
 rw[gP]
 refine⟨_,I,o,C,al,_,I,(by rw[bJ (d2 dO)];exact aM),T.cl,T.qj,(by show 1<1000;decide),?_⟩
 rw[KD,Az (d2 dO),h8]
 exact q ei et aj vF yu
structure ke(K:bO)(C:ae):Prop where
 cl:fe K C
 mZ:jN K C "inner"
inductive O8(C:ae)(vs:List V)(H:au)(Q:bx)(E:bP):Prop where
 |mk (p al w) (bu:vs=[.ref p,.ref w]) (aj:H p=J (.ins C al [])) (ar:Q .bL (upd H p (.ins C al [("inner",.ref w)]))):O8 C vs H Q E
def qn(C:ae):b5:=fun vs H Q E=>O8 C vs H Q E
theorem UE(T:ke K C)(F:c2 K "__init__" "Maybe.__init__" D0 f fd):cg P w K mg base dk 1 f fd ["self","inner"] (qn C):=by
 refine F.ok UA (fun vs H Q E h=>?_) (fun bb A outer s H vs Q E az h=>?_)
 ·obtain⟨_,_,_,rfl,_⟩:=h;rfl
 obtain⟨p,al,w,rfl,bh,q⟩:=h
 exact⟨_,(aT (iT (ai 0) (ai 1) I)),_,I,_,I,p,C,al,_,I,bh,T.cl,T.mZ,(by show 0<1000;decide),q⟩
theorem U9(T:ke K C)(F:c2 K "__init__" "Many.__init__" Ec f fd):cg P w K mg base dk 1 f fd ["self","inner"] (qn C):=by
 refine F.ok U4 (fun vs H Q E h=>?_) (fun bb A outer s H vs Q E az h=>?_)
 ·obtain⟨_,_,_,rfl,_⟩:=h;rfl
 obtain⟨p,al,w,rfl,bh,q⟩:=h
 exact⟨_,(aT (iT (ai 0) (ai 1) I)),_,I,_,I,p,C,al,_,I,bh,T.cl,T.mZ,(by show 0<1000;decide),q⟩
theorem Um(T:ke K C)(F:c2 K "__init__" "Turned.__init__" DP f fd):cg P w K mg base dk 1 f fd ["self","inner"] (qn C):=by
 refine F.ok Ua (fun vs H Q E h=>?_) (fun bb A outer s H vs Q E az h=>?_)
 ·obtain⟨_,_,_,rfl,_⟩:=h;rfl
 obtain⟨p,al,w,rfl,bh,q⟩:=h
 exact⟨_,(aT (iT (ai 0) (ai 1) I)),_,I,_,I,p,C,al,_,I,bh,T.cl,T.mZ,(by show 0<1000;decide),q⟩
noncomputable def isNum:D->Bool
 | .int _=>ag
 | _=>ah
noncomputable def A2(bz:D->Bool):Fin 4->D->Bool
 | 0,.bL=>ag
 | 1,.aH _=>ag
 | 2,.int i=>decide (iu i)
 | 3,d=>bz d
 | _,_=>ah
noncomputable def ru(g:D->Bool):D->Bool
 | .tup []=>ag
 | .tup [x]=>g x
 | _=>ah
noncomputable def tF(g:D->Bool):D->Bool
 | .lst ds=>decide (ds.length<=60)&&ds.all g
 | _=>ah
noncomputable def HN(k:Fin 3)(g:D->Bool)(d:D):Bool:=if k=0 then ru g d else if k=1 then tF g d else g d
noncomputable def agE(a b:Int):D->Bool
 | .int i=>decide (a<=i/\i<=b)
 | _=>ah
noncomputable def adg(s:af):D->Bool
 | .str t=>decide (t.length<=200)&&mW t s
 | _=>ah
noncomputable def IC(g:List D->Bool):D->Bool
 | .tup ds=>g ds
 | _=>ah
noncomputable def xG(g:af->D->Bool):D->Bool
 | .tup [.str n,x]=>g n x
 | _=>ah
mutual
noncomputable def cO(bz:D->Bool):bN->D->Bool
 | .bare k,d=>A2 bz k d
 | .sp a b,d=>agE a b d
 | .le s,d=>adg s d
 | .one k f,d=>HN k (cO bz f) d
 | .two k ns fs,d=>if k=0 then IC (eZ bz fs) d else xG (lu bz fs ns) d
noncomputable def eZ(bz:D->Bool):List bN->List D->Bool
 | [],ds=>ds.isEmpty
 | f::fs,ds=>match ds with | []=>ah | d::ds=>cO bz f d&&eZ bz fs ds
noncomputable def lu(bz:D->Bool):List bN->List af->af->D->Bool
 | [],_,_,_=>ah
 | f::fs,ns,n,x=>if ns.head?=J n then cO bz f x else lu bz fs ns.tail n x
end
inductive OS(vs:List V)(H:au)(Q:bx)(E:bP):Prop where
 |mk (v:V) (d:D) (bu:vs=[v]) (aj:fP H d v) (ar:Q (.aH (isNum d)) H):OS  vs H Q E
def yP:b5:=fun vs H Q E=>OS  vs H Q E
inductive OL(vs:List V)(H:au)(Q:bx)(E:bP):Prop where
 |mk (n:Int) (bu:vs=[.int n]) (aj:Q (.aH (decide (iu n))) H):OL  vs H Q E
def Ib:b5:=fun vs H Q E=>OL  vs H Q E
theorem Tu(F:dF K mg "has_whole_row" zY ["n"] f fd)(mx:bK P w K mg base 1 "is_count" ["n"] yO):bK P w K mg base 2 "has_whole_row" ["n"] Ib:=by
 refine F.fK JT (fun bb A outer s H vs Q E az h=>?_)
 obtain⟨n,rfl,q⟩:=h
 refine⟨_,(aT (bG (cq mx az (av (nH (cm HL (ai 0) aD) (ai 0) (aQ gb (lj k3 aD) (ai 0))) aA)))),?_⟩
 try dsimp only[cS,cT,cU,cV]
 refine⟨_,I,_,_,I,I,_,I,?_⟩
 refine e0 (fun c=>?_) (fun c=>?_)
 ·refine⟨_,I,_,I,H,.refl (dR _),?_⟩
  have e:decide (hR n)=decide (iu n):=decide_eq_decide.mpr (by unfold hR iu;omega)
  rw[e];exact q
 ·refine⟨_,I,_,I,_,_,I,I,_,I,H,.refl (dR _),?_⟩
  have e:decide (hR (-1 - n))=decide (iu n):=decide_eq_decide.mpr (by unfold hR iu;omega)
  rw[e];exact q
theorem UK(nb:dV mg)(F:dF K mg "is_number" D7 ["value"] f fd):bK P w K mg base 1 "is_number" ["value"] yP:=by
 refine F.fK UY (fun bb A outer s H vs Q E az h=>?_)
 obtain⟨v,d,rfl,hd,q⟩:=h
 refine⟨_,(aT (bG (iU (cj jd I nb.gB gx (av (ai 0) (av (iR (v := .ty "int") I nb.tA sS I) aA))) (kj (Fb (cj jd I nb.gB gx (av (ai 0) (av (iR (v := .ty "bool") I nb.A4 AM I) aA)))))))),?_⟩
 try dsimp only[cS,cT,cU,cV]
 refine⟨_,I,.inl ⟨_,_,_,_,I,hd.ty,hb K d (by decide),_,I,?_⟩⟩
 cases d with
 | int i=>exact gD ⟨_,I,.inl ⟨_,_,_,_,I,hd.ty,hb K _ (by decide),_,I,H,.refl (dR _),q⟩⟩
 | aH b=>exact gD ⟨_,I,.inl ⟨_,_,_,_,I,hd.ty,hb K _ (by decide),_,I,H,.refl (dR _),q⟩⟩
 | _=>exact eb ⟨H,.refl (dR _),q⟩
inductive Oz(has:eW->Bool)(bz:D->Bool)(c:eu)(n:Nat)(i:eW)(vs:List V)(H:au)(Q:bx)(E:bP):Prop where
 |mk (o:ae) (f:bN) (v:V) (d:D) (bu:vs=[.ref o,v]) (aj:slot f=i) (ar:b4 c [] H f o) (bB:mh has f) (b0:aW f<=n) (eB:fP H d v) (kN:cO bz f d=ag) (vH:Q (.aH ag) H):Oz has bz c n i vs H Q E
def i3(has:eW->Bool)(bz:D->Bool)(c:eu)(n:Nat)(i:eW):b5:=fun vs H Q E=>Oz has bz c n i vs H Q E
theorem xm(bz:D->Bool)(k:Fin 4)(d:D):cO bz (.bare k) d=A2 bz k d:=by rw[cO]
theorem b4.fits{c:eu}{X:List ae}{H:au}(f:bN){o:ae}(h:b4 c X H f o):∃ al fs,H o=J (.ins (fE c (slot f)) al fs)/\fs.lookup (af.ofString "fits")=aw :=
 b4.ins (m:=af.ofString "fits") (by decide +kernel) (by decide +kernel) (by decide +kernel) (by decide +kernel) (by decide +kernel) (by decide +kernel) f h
theorem EW(bz:D->Bool):∀ (fs:List bN) (ds:List D),ds.length≠fs.length->eZ bz fs ds=ah
 | [],ds,h=>by
  cases ds with
  | nil=>exact absurd I h
  | cons d ds=>rw[eZ];rfl
 | f::fs,[],h=>by rw[eZ]
 | f::fs,d::ds,h=>by
  rw[eZ]
  show (cO bz f d&&eZ bz fs ds)=ah
  rw[EW bz fs ds (fun e=>h (by rw[ed,ed,e])),Bool.and_false]
theorem EX(bz:D->Bool):∀ (fs:List bN) (ds:List D),ds.length=fs.length->eZ bz fs ds=(List.range fs.length).all fun i=>cO bz (fs.getD i (.bare 0)) (ds.getD i .bL)
 | [],ds,h=>by
  obtain rfl:ds=[]:=List.length_eq_zero_iff.mp h
  rw[eZ];rfl
 | f::fs,[],h=>by cases h
 | f::fs,d::ds,h=>by
  rw[eZ]
  show (cO bz f d&&eZ bz fs ds)=_
  rw[EX bz fs ds (by simpa using h),ed,List.range_succ_eq_map,List.all_cons,List.all_map]
  rfl
theorem Ws(F:c2 K "fits" "Nothing.fits" zm f fd):cg P w K mg base dk 1 f fd ["self","value"] (i3 has bz c n (.b 0)):=by
 refine F.hJ TV (fun bb A outer s H vs Q E az h=>?_)
 obtain⟨o,dY,v,d,rfl,hs,b6,aR,cW,hd,aE,q⟩:=h
 have:=mH hs
 subst this
 rw[xm] at aE
 cases d with
 | bL =>
  obtain rfl:v = .bL:=hd
  exact⟨_,(aT (bG (gV AS (ai 1) oE))),_,I,I,H,.refl (dR _),q⟩
 | _=>cases aE
theorem X7(F:c2 K "fits" "Truth.fits" z8 f fd):cg P w K mg base dk 1 f fd ["self","value"] (i3 has bz c n (.b 1)):=by
 refine F.hJ Ux (fun bb A outer s H vs Q E az h=>?_)
 obtain⟨o,dY,v,d,rfl,hs,b6,aR,cW,hd,aE,q⟩:=h
 have:=mH hs
 subst this
 rw[xm] at aE
 cases d with
 | aH b =>
  obtain rfl:v = .aH b:=hd
  refine⟨_,(aT (bG (JJ (gV L1 (ai 1) gn) (kj (gV L1 (ai 1) gn))))),_,I,ah,I,I,?_⟩
  cases b with
  | false=>exact⟨ag,I,gD ⟨H,.refl (dR _),q⟩⟩
  | true=>exact⟨ah,I,eb ⟨_,I,ag,I,I,H,.refl (dR _),q⟩⟩
 | _=>cases aE
theorem X6(F:c2 K "fits" "Whole.fits" zK f fd)(my:bK P w K mg base 1 "is_number" ["value"] yP)(r9:bK P w K mg base 2 "has_whole_row" ["n"] Ib):cg P w K mg base dk 3 f fd ["self","value"] (i3 has bz c n (.b 2)):=by
 refine F.hJ Uv (fun bb A outer s H vs Q E az h=>?_)
 obtain⟨o,dY,v,d,rfl,hs,b6,aR,cW,hd,aE,q⟩:=h
 have:=mH hs
 subst this
 rw[xm] at aE
 cases d with
 | int i =>
  obtain rfl:v = .int i:=hd
  have aE:decide (iu i)=ag:=aE
  refine⟨_,(aT (bG (iU (cq my az (av (ai 1) aA)) (kj (cq r9 az (av (ai 1) aA)))))),_,I,_,.int i,I,I,ag,I,gD ⟨_,I,i,I,H,.refl (dR _),?_⟩⟩
  rw[aE];exact q
 | _=>cases aE
theorem Sd(T:uY K c.s)(F:c2 K "fits" "Span.fits" Ad f fd)(my:bK P w K mg base 1 "is_number" ["value"] yP):cg P w K mg base dk 2 f fd ["self","value"] (i3 has bz c n .s):=by
 refine F.hJ U2 (fun bb A outer s H vs Q E az h=>?_)
 obtain⟨o,dY,v,d,rfl,hs,b6,aR,cW,hd,aE,q⟩:=h
 obtain⟨a,b,rfl⟩:=E5 hs
 obtain⟨_,al,aJ⟩:=b6
 rw[cO] at aE
 cases d with
 | int i =>
  obtain rfl:v = .int i:=hd
  have aE:=lb (show decide (a<=i/\i<=b)=ag from aE)
  refine⟨_,(aT (bG (iU (cq my az (av (ai 1) aA)) (iU (gV yz (ee (ai 0) I) (ai 1)) (kj (gV yz (ai 1) (ee (ai 0) I))))))),_,I,_,.int i,I,I,ag,I,gD ⟨_,I,o,c.s,al,_,_,I,aJ,T.cl,T.oY,hI ..,_,I,_,_,I,I,_,I,jl aE.1 ⟨_,I,_,I,o,c.s,al,_,_,I,aJ,T.cl,T.B1,oX _ _ _ _ G3,_,_,I,I,H,.refl (dR _),?_⟩⟩⟩
  dsimp only
  rw[ek aE.2];exact q
 | _=>cases aE
theorem Wt(nb:dV mg)(oN:ej mg "LONGEST_TEXT" (.int 200))(T:sq K c.l)(F:c2 K "fits" "Letters.fits" zq f fd)(nk:bK P w K mg base 1 "made_of" ["text","signs"] yQ):cg P w K mg base dk 2 f fd ["self","value"] (i3 has bz c n .l):=by
 refine F.hJ T1 (fun bb A outer s H vs Q E az h=>?_)
 obtain⟨o,dY,v,d,rfl,hs,b6,aR,cW,hd,aE,q⟩:=h
 obtain⟨bg,rfl⟩:=E6 hs
 obtain⟨_,al,aJ⟩:=b6
 rw[cO] at aE
 refine⟨_,(aT (bG (iU (cj jd I nb.gB gx (av (ai 1) (av (iR (v := .ty "str") I nb.Iq FG I) aA))) (iU (gV yz (cj d8 I nb.dZ d3 (av (ai 1) aA)) (iv oN)) (kj (cq nk az (av (ai 1) (av (ee (ai 0) I) aA)))))))),_,I,.inl ⟨_,_,_,_,I,hd.ty,hb K d (by decide),_,I,?_⟩⟩
 cases d with
 | str t =>
  obtain⟨rfl,qf⟩:=hd
  have aE:(decide (t.length<=200)&&mW t bg)=ag:=aE
  rw[h7,jQ] at aE
  refine gD ⟨_,I,_,_,I,⟨eX qf,I⟩,_,_,I,I,_,I,jl (by omega) ⟨_,I,_,I,o,c.l,al,_,_,I,aJ,T.cl,T.m1,hI ..,t,bg,I,by omega,H,.refl (dR _),?_⟩⟩
  rw[aE.2];exact q
 | _=>cases aE
theorem X8(nb:dV mg)(T:ke K (c.o 0))(F:c2 K "fits" "Maybe.fits" Aa f fd)(jq:iN P w K mg base (2*n+4) "fits" ["self","value"] (fE c) (i3 has bz c n)):cg P w K mg base dk (2*n+4+1) f fd ["self","value"] (i3 has bz c (n+1) (.o 0)):=by
 refine F.hJ UB (fun bb A outer s H vs Q E az h=>?_)
 obtain⟨o,dY,v,d,rfl,hs,b6,aR,cW,hd,aE,q⟩:=h
 obtain⟨g,rfl⟩:=px hs
 obtain⟨_,al,i,aJ,ef⟩:=b6
 have ig:aW g<=n:=by rw[aW] at cW;omega
 rw[cO] at aE
 have aE:ru (cO bz g) d=ag:=aE
 obtain⟨fZ,f3,fb,li⟩:=b4.fits g ef
 refine⟨_,(aP (cR (gJ.pt (kf (iS (g8 (cj jd I nb.gB gx (av (ai 1) (av (iR (v := .ty "tuple") I nb.rO qJ I) aA))))) (k4 (cm kS (cj d8 I nb.dZ d3 (av (ai 1) aA)) aD)))) (aT (bG gn)) cQ)
  (aT (bG (JJ (gV dd (cj d8 rfl nb.dZ d3 (av (ai 1) aA)) aD) (kj (kG jq az (ee (ai 0) rfl) (av (cN cP (ai 1) aD) aA) (hk:=by omega))))))),_,rfl,.inl ⟨_,_,_,_,rfl,hd.ty,hb K d (by decide),_,rfl,?_⟩⟩
 unfold ru at aE
 split at aE
 ·obtain⟨a,vs,rfl,c7,rfl,j2⟩:=hd
  exact eb ⟨_,I,_,_,I,.inr ⟨_,dc c7,I⟩,_,_,I,I,_,I,gC (by decide) ⟨_,I,_,_,I,.inr ⟨_,dc c7,I⟩,I,_,I,jl I ⟨H,.refl (dR _),q⟩⟩⟩
 ·rename_i x _
  obtain⟨a,vs,rfl,c7,⟨y,r,rfl,ay,rfl⟩,j2⟩:=hd
  refine eb ⟨_,I,_,_,I,.inr ⟨_,dc c7,I⟩,_,_,I,I,_,I,gC (by show ¬((1:Int)<1);decide) ⟨_,I,_,_,I,.inr ⟨_,dc c7,I⟩,I,_,I,gC (fun z=>nomatch z) ?_⟩⟩
  exact⟨_,I,o,c.o 0,al,_,_,I,aJ,T.cl,T.mZ,hI ..,i,slot g,fZ,f3,I,fb,li,_,I,.inl (.inr ⟨_,_,_,_,I,I,dc c7,dt (j:=0) I,i,g,y,x,I,I,ef,aR.one,ig,ay,aE,H,.refl (dR _),q⟩)⟩
 ·cases aE
theorem W5(T:ke K (c.o 2))(F:c2 K "fits" "Turned.fits" zA f fd)(jq:iN P w K mg base (2*n+4) "fits" ["self","value"] (fE c) (i3 has bz c n)):cg P w K mg base dk (2*n+4+1) f fd ["self","value"] (i3 has bz c (n+1) (.o 2)):=by
 refine F.hJ Ub (fun bb A outer s H vs Q E az h=>?_)
 obtain⟨o,dY,v,d,rfl,hs,b6,aR,cW,hd,aE,q⟩:=h
 obtain⟨g,rfl⟩:=px hs
 obtain⟨_,al,i,aJ,ef⟩:=b6
 have ig:aW g<=n:=by rw[aW] at cW;omega
 rw[cO] at aE
 obtain⟨fZ,f3,fb,li⟩:=b4.fits g ef
 exact⟨_,(aT (bG (kG jq az (ee (ai 0) I) (av (ai 1) aA) (hk:=by omega)))),_,rfl,o,c.o 2,al,_,_,rfl,aJ,T.cl,T.mZ,hI ..,i,slot g,fZ,f3,rfl,fb,li,_,rfl,i,g,v,d,rfl,rfl,ef,aR.one,ig,hd,aE,H,.refl (dR _),q⟩
theorem Se(nb:dV mg)(oO:ej mg "MOST_VALUES" (.int 60))(T:ke K (c.o 1))(F:c2 K "fits" "Many.fits" Af f fd)(jq:iN P w K mg base (2*n+4) "fits" ["self","value"] (fE c) (i3 has bz c n)):cg P w K mg base dk (2*n+4+1) f fd ["self","value"] (i3 has bz c (n+1) (.o 1)):=by
 refine F.hJ U5 (fun bb A outer s H vs Q E az h=>?_)
 obtain⟨o,dY,v,d,rfl,hs,b6,aR,cW,hd,aE,q⟩:=h
 obtain⟨g,rfl⟩:=px hs
 obtain⟨_,al,i,aJ,ef⟩:=b6
 have ig:aW g<=n:=by rw[aW] at cW;omega
 rw[cO] at aE
 have aE:tF (cO bz g) d=ag:=aE
 obtain⟨fZ,f3,fb,li⟩:=b4.fits g ef
 refine⟨_,(aP (cR (gJ.pt (kf (iS (g8 (cj jd I nb.gB gx (av (ai 1) (av (iR (v := .ty "list") I nb.Hv Fn I) aA))))) (k4 (cm kS (cj d8 I nb.dZ d3 (av (ai 1) aA)) (iv oO))))) (aT (bG gn)) cQ)
  (aT (bG (cj (ve rfl) rfl nb.vr vp (av (iQ ["part"] [(0,"self")] rfl (by decide +kernel) ⟨rfl,.inl rfl,trivial⟩ (j7 (ai 1)) (fun _ _ _ _ _=>(eG (i:=0) (show (["part","self"]:List af).Nodup by decide +kernel) rfl (by first | exact Or.inl I | exact Or.inr I))) (fun _ _ _ _ _=>iE) (fun _ _ _ _ _=>(kG jq az (ee (ai 1) rfl) (av (ai 0) aA) (hk:=by omega)))) aA))))),_,rfl,.inl ⟨_,_,_,_,rfl,hd.ty,hb K d (by decide),_,rfl,?_⟩⟩
 cases d with
 | lst ds =>
  obtain⟨a,vs,rfl,c7,gq,j2⟩:=hd
  have cG:=ff.len ds gq
  have aE:(decide (ds.length<=60)&&ds.all (cO bz g))=ag:=aE
  rw[h7,jQ,iD] at aE
  refine eb ⟨_,I,_,_,I,.inl ⟨_,bX c7,I⟩,_,_,I,I,_,I,gC (by omega) (.inl ⟨_,I,a,I,⟨_,bX c7⟩,fun dT fo=>?_⟩)⟩
  refine Ax (K:=K) (a:=a) (xs:=vs) (fun _=>V.aH ag) (fun ab=>∃ z,ab=[z,J (.ref o)]) (eX (by omega)) ⟨_,I⟩ fo (bX c7) ?_ ?_
  ·rintro x ay b8 H1 ⟨z,rfl⟩ eR R cY
   obtain⟨k,hk,rfl⟩:=List.mem_iff_getElem.mp ay
   obtain⟨jf,lC,Hm⟩:=ff.get ds gq (dm hk)
   exact⟨_,I,o,c.o 1,al,_,_,I,eR _ _ aJ,T.cl,T.mZ,hI ..,i,slot g,fZ,f3,I,eR _ _ fb,li,_,I,i,g,_,jf,I,I,b4.keep (fun b u _ e=>eR b u e) g ef,aR.one,ig,fP.same eR jf Hm,aE.2 jf (jy lC),cY _ ⟨_,I⟩⟩
  ·refine⟨dT,List.replicate vs.length ag,I,bX (by rw[aM,List.map_replicate,List.map_const']),H,.refl (cL fo),?_⟩
   rw[show (List.replicate vs.length ag).all id=ag by simp];exact q
 | _=>cases aE
theorem W6(nb:dV mg)(T:nC K (c.t 0))(F:c2 K "fits" "Record.fits" zF f fd)(jq:iN P w K mg base (2*n+4) "fits" ["self","value"] (fE c) (i3 has bz c n)):cg P w K mg base dk (2*n+4+1) f fd ["self","value"] (i3 has bz c (n+1) (.t 0)):=by
 refine F.hJ Uh (fun bb A outer s H vs Q E az h=>?_)
 obtain⟨o,dY,v,d,rfl,hs,b6,aR,cW,hd,aE,q⟩:=h
 obtain⟨ns,fs,rfl⟩:=va hs
 obtain⟨_,al,a1,a2,os,aJ,_,_,aj,ar,ef⟩:=b6
 obtain⟨fG,mb,ih⟩:=aR.two
 have ig:gA fs<=n:=by rw[aW] at cW;omega
 have rj:=ew.len fs ef
 have x7:=(nI fG).1
 rw[cO] at aE
 have aE:IC (eZ bz fs) d=ag:=aE
 refine⟨_,(aP (cR (gJ.pt (kf (iS (g8 (cj jd I nb.gB gx (av (ai 1) (av (iR (v := .ty "tuple") I nb.rO qJ I) aA))))) (k4 (cm wd (cj d8 I nb.dZ d3 (av (ai 1) aA)) (cj d8 I nb.dZ d3 (av (ee (ai 0) I) aA)))))) (aT (bG gn)) cQ)
  (aT (bG (cj (ve rfl) rfl nb.vr vp (av (iQ ["form","part"] [] rfl (by decide +kernel) trivial (Ly rfl nb.P7 (av (ee (ai 0) rfl) (av (ai 1) aA))) (fun _ _ _ _ _=>(pL rfl (jz (eG (i:=0) (show (["form","part"]:List af).Nodup by decide +kernel) rfl (by first | exact Or.inl I | exact Or.inr I)) (jz (eG (i:=1) (show (["form","part"]:List af).Nodup by decide +kernel) rfl (by first | exact Or.inl I | exact Or.inr I)) pI)))) (fun _ _ _ _ _=>iE) (fun _ _ _ _ _=>(kG jq az (ai 0) (av (ai 1) aA) (hk:=by omega)))) aA))))),_,rfl,.inl ⟨_,_,_,_,rfl,hd.ty,hb K d (by decide),_,rfl,?_⟩⟩
 cases d with
 | tup ds =>
  obtain⟨a,vs,rfl,c7,gq,j2⟩:=hd
  have rm:=ff.len ds gq
  have aE:eZ bz fs ds=ag:=aE
  have e5:ds.length=fs.length:=by
   by_cases z:ds.length=fs.length
   ·exact z
   ·rw[EW bz fs ds z] at aE;cases aE
  rw[EX bz fs ds e5,iD] at aE
  refine eb ⟨_,I,_,_,I,.inr ⟨_,dc c7,I⟩,_,I,o,c.t 0,al,_,_,I,aJ,T.cl,T.qj,oX _ _ _ _ tb,_,_,I,.inl ⟨_,bX ar,I⟩,I,_,I,ym (by rw[cM,rm,rj,e5]) ?_⟩
  refine⟨_,I,o,c.t 0,al,_,_,I,aJ,T.cl,T.qj,oX _ _ _ _ tb,_,I,a2,a,_,_,I,bX ar,dc c7,fun dT fo=>?_⟩
  refine K2 (fun k=>V.aH ag) (fun ab=>∃ di dj,ab=[di,dj]) (by rw[cM];omega) ⟨_,_,I⟩ fo (bX ar) (dc c7) ?_ ?_
  ·rintro k x y ay bM b8 H1 sy ⟨di,dj,rfl⟩ eR q9 R cY
   rw[fT] at ay
   obtain⟨tL,Hf,rfl⟩:=Uf.mp ay
   obtain⟨dY,tl,xS⟩:=ew.get fs ef Hf
   obtain⟨jf,lC,Ho⟩:=ff.get ds gq bM
   obtain⟨n2,x3⟩:=ih.get tl
   have hk:k<fs.length:=(kE.mp tl).1
   have xY:=aE k (List.mem_range.mpr hk)
   rw[e9,tl,e9,lC] at xY
   have t5:=eR.trans (cL (o:=cv.tup [V.ref tL,y]) q9)
   obtain⟨fZ,f3,fb,li⟩:=b4.fits dY (b4.keep (fun b u _ e=>t5 b u e) dY xS)
   exact⟨sy,_,I,dc aM,I,_,_,I,_,_,I,I,_,I,tL,slot dY,fZ,f3,I,fb,li,_,I,tL,dY,y,jf,I,I,b4.keep (fun b u _ e=>t5 b u e) dY xS,n2,by omega,fP.same t5 jf Ho,xY,cY _ _ ⟨_,_,rfl⟩ (dR _)⟩
  ·intro H' tu nV
   have e:(List.range (min (os.map V.ref).length vs.length)).map (fun k=>V.aH ag)=(List.replicate fs.length ag).map V.aH:=by
    rw[cM,rm,rj,e5,Nat.min_self,List.map_const',lW,List.map_replicate]
   rw[e] at nV
   refine⟨dT,_,I,bX nV,H,.refl tu,?_⟩
   rw[show (List.replicate fs.length ag).all id=ag by simp];exact q
 | _=>cases aE
noncomputable def A3(fw:D->List Bool):Fin 4->D->List Bool
 | 1,.aH b=>[b]
 | 2,.int i=>iB i
 | 3,d=>fw d
 | _,_=>[]
noncomputable def Hw(g:D->List Bool):D->List Bool
 | .tup [x]=>ag::g x
 | _=>[ah]
noncomputable def adt(g:D->List Bool):D->List Bool
 | .lst ds=>(ds.map fun d=>ag::g d).flatten++[ah]
 | _=>[]
noncomputable def B8(k:Fin 3)(g:D->List Bool)(d:D):List Bool:=if k=0 then Hw g d else if k=1 then adt g d else (g d).map (!·)
noncomputable def agF(a b:Int):D->List Bool
 | .int i=>d4 (i - a).toNat (aZ (b - a).toNat)
 | _=>[]
noncomputable def NN(s:af):D->List Bool
 | .str t=>(t.cps.toList.map fun c=>ag::d4 (s.cps.toList.idxOf c) (aZ (s.length - 1))).flatten++[ah]
 | _=>[]
noncomputable def ahE(g:List D->List Bool):D->List Bool
 | .tup ds=>g ds
 | _=>[]
noncomputable def YM(g:af->D->List Bool):D->List Bool
 | .tup [.str n,x]=>g n x
 | _=>[]
mutual
noncomputable def cB(fw:D->List Bool):bN->D->List Bool
 | .bare k,d=>A3 fw k d
 | .sp a b,d=>agF a b d
 | .le s,d=>NN s d
 | .one k f,d=>B8 k (cB fw f) d
 | .two k ns fs,d=>if k=0 then ahE (fW fw fs) d else YM (ql fw fs ns 0 (fs.length - 1)) d
noncomputable def fW(fw:D->List Bool):List bN->List D->List Bool
 | [],_=>[]
 | f::fs,ds=>match ds with | []=>[] | d::ds=>cB fw f d++fW fw fs ds
noncomputable def ql(fw:D->List Bool):List bN->List af->Nat->Nat->af->D->List Bool
 | [],_,_,_,_,_=>[]
 | f::fs,ns,k,m,n,x=>if ns.head?=J n then d4 k (aZ m)++cB fw f x else ql fw fs ns.tail (k+1) m n x
end
inductive Pw(has:eW->Bool)(bz:D->Bool)(fw:D->List Bool)(c:eu)(n:Nat)(i:eW)(vs:List V)(H:au)(Q:bx)(E:bP):Prop where
 |mk (o:ae) (f:bN) (v:V) (d:D) (bu:vs=[.ref o,v]) (aj:slot f=i) (ar:b4 c [] H f o) (bB:mh has f) (b0:aW f<=n) (eB:fP H d v) (kN:cO bz f d=ag) (vH:(cB fw f d).length<=15000000) (Bi:Q (.str (bw (cB fw f d))) H):Pw has bz fw c n i vs H Q E
def i4(has:eW->Bool)(bz:D->Bool)(fw:D->List Bool)(c:eu)(n:Nat)(i:eW):b5:=fun vs H Q E=>Pw has bz fw c n i vs H Q E
theorem b4.written{c:eu}{X:List ae}{H:au}(f:bN){o:ae}(h:b4 c X H f o):∃ al fs,H o=J (.ins (fE c (slot f)) al fs)/\fs.lookup (af.ofString "written")=aw :=
 b4.ins (m:=af.ofString "written") (by decide +kernel) (by decide +kernel) (by decide +kernel) (by decide +kernel) (by decide +kernel) (by decide +kernel) f h
theorem vf:af.ofString "1"=bw [ag]:=by decide +kernel
theorem AH:af.ofString "0"=bw [ah]:=by decide +kernel
theorem Tp(F:c2 K "written" "Nothing.written" zS f fd):cg P w K mg base dk 1 f fd ["self","value"] (i4 has bz fw c n (.b 0)):=by
 refine F.hJ To (fun bb A outer s H vs Q E az h=>?_)
 obtain⟨o,dY,v,d,rfl,hs,b6,aR,cW,hd,aE,aC,q⟩:=h
 have:=mH hs
 subst this
 rw[cB] at q
 refine⟨_,(aT (bG cJ)),H,.refl (dR _),?_⟩
 cases d<;>exact q
theorem TM(F:c2 K "written" "Truth.written" z0 f fd):cg P w K mg base dk 1 f fd ["self","value"] (i4 has bz fw c n (.b 1)):=by
 refine F.hJ TG (fun bb A outer s H vs Q E az h=>?_)
 obtain⟨o,dY,v,d,rfl,hs,b6,aR,cW,hd,aE,aC,q⟩:=h
 have:=mH hs
 subst this
 rw[cB] at q
 rw[cO] at aE
 cases d with
 | aH b =>
  obtain rfl:v = .aH b:=hd
  refine⟨_,(aT (bG (nH (g8 (ai 1)) cJ cJ))),_,I,?_⟩
  refine⟨b,I,?_⟩
  cases b with
  | true=>exact gD ⟨H,.refl (dR _),q⟩
  | false=>exact eb ⟨H,.refl (dR _),q⟩
 | _=>cases aE
theorem Tw(F:c2 K "written" "Whole.written" zZ f fd)(qz:bK P w K mg base 3 "whole_row" ["n"] Ai):cg P w K mg base dk 4 f fd ["self","value"] (i4 has bz fw c n (.b 2)):=by
 refine F.hJ TF (fun bb A outer s H vs Q E az h=>?_)
 obtain⟨o,dY,v,d,rfl,hs,b6,aR,cW,hd,aE,aC,q⟩:=h
 have:=mH hs
 subst this
 rw[cB] at q
 rw[cO] at aE
 cases d with
 | int i =>
  obtain rfl:v = .int i:=hd
  exact⟨_,(aT (bG (cq qz az (av (ai 1) aA)))),_,I,i,I,lb aE,H,.refl (dR _),q⟩
 | _=>cases aE
theorem TN(T:uY K c.s)(F:c2 K "written" "Span.written" zk f fd)(nj:bK P w K mg base 2 "fixed_row" ["n","most"] yN):cg P w K mg base dk 3 f fd ["self","value"] (i4 has bz fw c n .s):=by
 refine F.hJ TU (fun bb A outer s H vs Q E az h=>?_)
 obtain⟨o,dY,v,d,rfl,hs,b6,aR,cW,hd,aE,aC,q⟩:=h
 obtain⟨a,b,rfl⟩:=E5 hs
 obtain⟨_,al,aJ⟩:=b6
 rw[cB] at q aC
 rw[cO] at aE
 cases d with
 | int i =>
  obtain rfl:v = .int i:=hd
  have aE:a<=i/\i<=b:=lb aE
  have aC:(d4 (i - a).toNat (aZ (b - a).toNat)).length<=15000000:=aC
  rw[kF] at aC
  have aG:((i - a).toNat:Int)=i - a:=Int.toNat_of_nonneg (by omega)
  have aL:((b - a).toNat:Int)=b - a:=Int.toNat_of_nonneg (by omega)
  refine⟨_,(aT (bG (cq nj az (av (aQ gb (ai 1) (ee (ai 0) I)) (av (aQ gb (ee (ai 0) I) (ee (ai 0) I)) aA))))),?_⟩
  try dsimp only[cS,cT,cU,cV]
  refine⟨_,I,_,I,o,c.s,al,_,_,I,aJ,T.cl,T.oY,hI ..,_,_,I,I,_,I,o,c.s,al,_,_,I,aJ,T.cl,T.B1,oX _ _ _ _ G3,_,I,o,c.s,al,_,_,I,aJ,T.cl,T.oY,hI ..,_,_,I,I,(i - a).toNat,(b - a).toNat,by rw[aG,aL];rfl,by omega,by omega,H,.refl (dR _),q⟩
 | _=>cases aE
theorem TO(nb:dV mg)(T:ke K (c.o 0))(F:c2 K "written" "Maybe.written" z2 f fd)(kB:iN P w K mg base (2*n+4) "written" ["self","value"] (fE c) (i4 has bz fw c n)):cg P w K mg base dk (2*n+4+1) f fd ["self","value"] (i4 has bz fw c (n+1) (.o 0)):=by
 refine F.hJ TI (fun bb A outer s H vs Q E az h=>?_)
 obtain⟨o,dY,v,d,rfl,hs,b6,aR,cW,hd,aE,aC,q⟩:=h
 obtain⟨g,rfl⟩:=px hs
 obtain⟨_,al,i,aJ,ef⟩:=b6
 have ih:=aR.one
 have ig:aW g<=n:=by rw[aW] at cW;omega
 rw[cO] at aE
 rw[cB] at q aC
 have aE:ru (cO bz g) d=ag:=aE
 have q:Q (.str (bw (Hw (cB fw g) d))) H:=q
 have aC:(Hw (cB fw g) d).length<=15000000:=aC
 obtain⟨fZ,f3,fb,li⟩:=b4.written g ef
 cases d with
 | tup ds =>
  obtain⟨a,vs,rfl,c7,gq,j2⟩:=hd
  have cG:=ff.len ds gq
  refine⟨_,(aT (bG (nH (cm dd (cj d8 I nb.dZ d3 (av (ai 1) aA)) aD) cJ (aQ eh cJ (kG kB az (ee (ai 0) I) (av (cN cP (ai 1) aD) aA) (hk:=by omega)))))),?_⟩
  try dsimp only[cS,cT,cU,cV]
  refine⟨_,I,_,_,I,.inr ⟨_,dc c7,I⟩,I,_,I,?_⟩
  cases ds with
  | nil =>
   obtain rfl:vs=[]:=gq
   exact gD ⟨H,.refl (dR _),q⟩
  | cons x r =>
   cases r with
   | cons y r=>cases aE
   | nil =>
    obtain⟨y,r,rfl,ay,vU⟩:=gq
    obtain rfl:r=[]:=vU
    have aC:(ag::cB fw g x).length<=15000000:=aC
    rw[ed] at aC
    refine eb ⟨_,I,o,c.o 0,al,_,_,I,aJ,T.cl,T.mZ,hI ..,i,slot g,fZ,f3,I,fb,li,?_⟩
    refine⟨_,I,.inl (.inr ⟨_,_,_,_,I,I,dc c7,dt (j:=0) I,i,g,y,x,I,I,ef,ih,ig,ay,aE,by omega,.inr ⟨_,_,rfl,rfl,ku ?_,H,.refl (dR _),?_⟩⟩)⟩
    ·rw[vf,dA,dA];simp only[ed,List.length_nil];omega
    ·rw[vf,kl];exact q
 | _=>cases aE
theorem Tx(T:ke K (c.o 2))(F:c2 K "written" "Turned.written" zU f fd)(nq:bK P w K mg base 1 "turned_row" ["row"] w5)(kB:iN P w K mg base (2*n+4) "written" ["self","value"] (fE c) (i4 has bz fw c n)):cg P w K mg base dk (2*n+4+1) f fd ["self","value"] (i4 has bz fw c (n+1) (.o 2)):=by
 refine F.hJ Tr (fun bb A outer s H vs Q E az h=>?_)
 obtain⟨o,dY,v,d,rfl,hs,b6,aR,cW,hd,aE,aC,q⟩:=h
 obtain⟨g,rfl⟩:=px hs
 obtain⟨_,al,i,aJ,ef⟩:=b6
 have ih:=aR.one
 have ig:aW g<=n:=by rw[aW] at cW;omega
 rw[cO] at aE
 rw[cB] at q aC
 have aE:cO bz g d=ag:=aE
 have q:Q (.str (bw ((cB fw g d).map (!·)))) H:=q
 have aC:((cB fw g d).map (!·)).length<=15000000:=aC
 rw[cM] at aC
 obtain⟨fZ,f3,fb,li⟩:=b4.written g ef
 refine⟨_,(aT (bG (cq nq az (av (kG kB az (ee (ai 0) I) (av (ai 1) aA) (hk:=by omega)) aA) (hk:=by omega)))),?_⟩
 try dsimp only[cS,cT,cU,cV]
 refine⟨_,I,o,c.o 2,al,_,_,I,aJ,T.cl,T.mZ,hI ..,i,slot g,fZ,f3,I,fb,li,?_⟩
 exact⟨_,I,i,g,v,d,I,I,ef,ih,ig,hd,aE,aC,_,I,by omega,H,.refl (dR _),q⟩
theorem EN{ls:List (List Bool)}{l:List Bool}(h:l∈ls):l.length<=ls.flatten.length:=by
 induction ls with
 | nil=>cases h
 | cons a r cA =>
  rw[mF,dI]
  rcases dn.mp h with rfl | h
  ·omega
  ·have:=cA h;omega
theorem EL(ls:List (List Bool)):((ls.map bw).map (·.length)).sum+(ls.map bw).length*(af.ofString "").length=ls.flatten.length:=by
 have e:(af.ofString "").length=0:=by decide +kernel
 rw[e,Nat.mul_zero,Nat.add_zero,ir,List.length_flatten]
 congr 1
 exact pE fun l _=>dA l
theorem KB(fw:D->List Bool):∀ (fs:List bN) (ds:List D),ds.length=fs.length->fW fw fs ds=((List.range fs.length).map fun i=>cB fw (fs.getD i (.bare 0)) (ds.getD i .bL)).flatten
 | [],ds,h=>by rw[fW];rfl
 | f::fs,[],h=>by cases h
 | f::fs,d::ds,h=>by
  rw[fW]
  show cB fw f d++fW fw fs ds=_
  rw[KB fw fs ds (by simpa using h),ed,List.range_succ_eq_map,jw,mF,ir]
  rfl
theorem T5(nb:dV mg)(T:ke K (c.o 1))(F:c2 K "written" "Many.written" zp f fd)(kB:iN P w K mg base (2*n+4) "written" ["self","value"] (fE c) (i4 has bz fw c n)):cg P w K mg base dk (2*n+4+1) f fd ["self","value"] (i4 has bz fw c (n+1) (.o 1)):=by
 refine F.hJ TY (fun bb A outer s H vs Q E az h=>?_)
 obtain⟨o,dY,v,d,rfl,hs,b6,aR,cW,hd,aE,aC,q⟩:=h
 obtain⟨g,rfl⟩:=px hs
 obtain⟨_,al,i,aJ,ef⟩:=b6
 have ih:=aR.one
 have ig:aW g<=n:=by rw[aW] at cW;omega
 rw[cO] at aE
 rw[cB] at q aC
 have aE:tF (cO bz g) d=ag:=aE
 obtain⟨fZ,f3,fb,li⟩:=b4.written g ef
 cases d with
 | lst ds =>
  obtain⟨a,vs,rfl,c7,gq,j2⟩:=hd
  have cG:=ff.len ds gq
  have aE:(decide (ds.length<=60)&&ds.all (cO bz g))=ag:=aE
  obtain⟨pX,hZ⟩:=mD.mp aE
  have hZ:=iD.mp hZ
  have q:Q (.str (bw ((ds.map fun d=>ag::cB fw g d).flatten++[ah]))) H:=q
  have aC:((ds.map fun d=>ag::cB fw g d).flatten++[ah]).length<=15000000:=aC
  rw[dI] at aC
  refine⟨_,(aT (bG (aQ eh (jP PySem.F.plainAttrs_str PySem.F.slot_str_join PySem.F.type_str_join vh cJ (av (iQ ["part"] [(0,"self")] I (by decide +kernel) ⟨I,.inl I,trivial⟩ (j7 (ai 1)) (fun _ _ _ _ _=>(eG (i:=0) (show (["part","self"]:List af).Nodup by decide +kernel) rfl (by first | exact Or.inl I | exact Or.inr I))) (fun _ _ _ _ _=>iE) (fun _ _ _ _ _=>(aQ eh cJ (kG kB az (ee (ai 1) rfl) (av (ai 0) aA) (hk:=by omega))))) aA)) cJ))),?_⟩
  try dsimp only[cS,cT,cU,cV]
  refine⟨I,.inl ⟨_,I,a,I,⟨_,bX c7⟩,fun dT fo=>?_⟩⟩
  refine xg (K:=K) (a:=a) (xs:=vs) (fun k=>V.str (bw (ag::cB fw g (ds.getD k .bL)))) (fun ab=>∃ z,ab=[z,J (.ref o)]) (eX (by omega)) ⟨_,I⟩ fo (bX c7) ?_ ?_
  ·rintro k x ay b8 H1 ⟨z,rfl⟩ eR R cY
   obtain⟨jf,lC,Hm⟩:=ff.get ds gq ay
   have e:ds.getD k .bL=jf:=by rw[e9,lC];rfl
   rw[e] at cY
   have hm:jf∈ds:=jy lC
   have bh:=EN (List.mem_map_of_mem (f:=fun d=>ag::cB fw g d) hm)
   rw[ed] at bh
   refine⟨_,I,o,c.o 1,al,_,_,I,eR _ _ aJ,T.cl,T.mZ,hI ..,i,slot g,fZ,f3,I,eR _ _ fb,li,?_⟩
   refine⟨_,I,i,g,x,jf,I,I,b4.keep (fun b u _ e=>eR b u e) g ef,ih,ig,fP.same eR jf Hm,hZ _ hm,by omega,.inr ⟨_,_,rfl,rfl,ku ?_,?_⟩⟩
   ·rw[vf,dA,dA];simp only[ed,List.length_nil];omega
   ·rw[vf,kl];exact cY _ ⟨_,I⟩
  ·have e:(List.range vs.length).map (fun k=>V.str (bw (ag::cB fw g (ds.getD k .bL))))=((ds.map fun d=>ag::cB fw g d).map bw).map V.str:=by
    rw[cG]
    apply List.ext_getElem
    ·simp
    ·intro k aj ar
     have bB:k<ds.length:=by simpa using ar
     rw[jR,jR,jR,jR,List.getElem_range,e9,dm bB];rfl
   rw[e]
   refine⟨_,dT,_,I,I,bX aM,by rw[EL];omega,.inr ⟨_,_,rfl,rfl,ku ?_,H,.refl (cL fo),?_⟩⟩
   ·rw[sm,AH,dA,dA];omega
   ·rw[sm,AH,kl];exact q
 | _=>cases aE
theorem Tz(nb:dV mg)(T:nC K (c.t 0))(F:c2 K "written" "Record.written" zV f fd)(kB:iN P w K mg base (2*n+4) "written" ["self","value"] (fE c) (i4 has bz fw c n)):cg P w K mg base dk (2*n+4+1) f fd ["self","value"] (i4 has bz fw c (n+1) (.t 0)):=by
 refine F.hJ Ts (fun bb A outer s H vs Q E az h=>?_)
 obtain⟨o,dY,v,d,rfl,hs,b6,aR,cW,hd,aE,aC,q⟩:=h
 obtain⟨ns,fs,rfl⟩:=va hs
 obtain⟨_,al,a1,a2,os,aJ,_,_,aj,ar,ef⟩:=b6
 obtain⟨fG,mb,ih⟩:=aR.two
 have ig:gA fs<=n:=by rw[aW] at cW;omega
 have rj:=ew.len fs ef
 have x7:=(nI fG).1
 rw[cO] at aE
 rw[cB] at q aC
 have aE:IC (eZ bz fs) d=ag:=aE
 cases d with
 | tup ds =>
  obtain⟨a,vs,rfl,c7,gq,j2⟩:=hd
  have rm:=ff.len ds gq
  have aE:eZ bz fs ds=ag:=aE
  have e5:ds.length=fs.length:=Classical.byContradiction fun bc=>by rw[EW bz fs ds bc] at aE;cases aE
  rw[EX bz fs ds e5] at aE
  have hZ:=iD.mp aE
  have q:Q (.str (bw (fW fw fs ds))) H:=q
  have aC:(fW fw fs ds).length<=15000000:=aC
  rw[KB fw fs ds e5] at q aC
  refine⟨_,(aT (bG (jP PySem.F.plainAttrs_str PySem.F.slot_str_join PySem.F.type_str_join vh cJ (av (iQ ["form","part"] [] I (by decide +kernel) trivial (Ly I nb.P7 (av (ee (ai 0) I) (av (ai 1) aA))) (fun _ _ _ _ _=>(pL I (jz (eG (i:=0) (show (["form","part"]:List af).Nodup by decide +kernel) rfl (by first | exact Or.inl I | exact Or.inr I)) (jz (eG (i:=1) (show (["form","part"]:List af).Nodup by decide +kernel) rfl (by first | exact Or.inl I | exact Or.inr I)) pI)))) (fun _ _ _ _ _=>iE) (fun _ _ _ _ _=>(kG kB az (ai 0) (av (ai 1) aA) (hk:=by omega)))) aA)))),?_⟩
  try dsimp only[cS,cT,cU,cV]
  refine⟨I,_,I,o,c.t 0,al,_,_,I,aJ,T.cl,T.qj,oX _ _ _ _ tb,_,I,a2,a,_,_,I,bX ar,dc c7,fun dT fo=>?_⟩
  refine K2 (fun k=>V.str (bw (cB fw (fs.getD k (.bare 0)) (ds.getD k .bL)))) (fun ab=>∃ di dj,ab=[di,dj]) (by rw[cM];omega) ⟨_,_,I⟩ fo (bX ar) (dc c7) ?_ ?_
  ·rintro k x y ay bM b8 H1 sy ⟨di,dj,rfl⟩ eR q9 R cY
   rw[fT] at ay
   obtain⟨tL,Hf,rfl⟩:=Uf.mp ay
   obtain⟨dY,tl,xS⟩:=ew.get fs ef Hf
   obtain⟨jf,lC,Ho⟩:=ff.get ds gq bM
   obtain⟨n2,x3⟩:=ih.get tl
   have aG:fs.getD k (.bare 0)=dY:=by rw[e9,tl];rfl
   have aL:ds.getD k .bL=jf:=by rw[e9,lC];rfl
   have hk:k∈List.range fs.length:=List.mem_range.mpr (kE.mp tl).1
   have xY:=hZ k hk
   have bh:=EN (List.mem_map_of_mem (f:=fun i=>cB fw (fs.getD i (.bare 0)) (ds.getD i .bL)) hk)
   rw[aG,aL] at cY xY bh
   have t5:=eR.trans (cL (o:=cv.tup [V.ref tL,y]) q9)
   obtain⟨fZ,f3,fb,li⟩:=b4.written dY (b4.keep (fun b u _ e=>t5 b u e) dY xS)
   refine⟨sy,_,I,dc aM,I,_,_,I,_,_,I,I,?_⟩
   refine⟨_,I,tL,slot dY,fZ,f3,I,fb,li,?_⟩
   exact⟨_,I,tL,dY,y,jf,I,I,b4.keep (fun b u _ e=>t5 b u e) dY xS,n2,by omega,fP.same t5 jf Ho,xY,by omega,cY _ _ ⟨_,_,rfl⟩ (dR _)⟩
  ·intro H' tu nV
   have e:(List.range (min (os.map V.ref).length vs.length)).map (fun k=>V.str (bw (cB fw (fs.getD k (.bare 0)) (ds.getD k .bL))))=(((List.range fs.length).map fun k=>cB fw (fs.getD k (.bare 0)) (ds.getD k .bL)).map bw).map V.str:=by
    rw[cM,rm,rj,e5,Nat.min_self,ir,ir];rfl
   rw[e] at nV
   refine⟨_,dT,_,I,I,bX nV,by rw[EL];omega,H,.refl tu,?_⟩
   rw[sm];exact q
 | _=>cases aE
noncomputable def idxs(s t:af):List Nat:=t.cps.toList.map fun c=>s.cps.toList.idxOf c
inductive O9(C:ae)(vs:List V)(H:au)(Q:bx)(E:bP):Prop where
 |mk (o al:ae) (s t:af) (bu:vs=[.ref o,.str t]) (aj:H o=J (.ins C al [("signs",.str s)])) (ar:mW t s=ag) (bB:t.length<=200) (b0:∀ r,H r=aw->Q (.ref r) (upd H r (.lst ((idxs s t).map fun k=>V.int ((k:Nat):Int))))):O9 C vs H Q E
def Ii(C:ae):b5:=fun vs H Q E=>O9 C vs H Q E
theorem TA(T:sq K C)(F:c2 K "places" "Letters.places" zW f fd):cg P w K mg base dk 1 f fd ["self","text"] (Ii C):=by
 refine F.hJ Tt (fun bb A outer s H vs Q E az h=>?_)
 obtain⟨o,al,bg,t,rfl,aJ,hm,aC,q⟩:=h
 refine⟨_,(aT (bG (iQ ["sign"] [(0,"self")] I (by decide +kernel) ⟨I,.inl I,trivial⟩ (j7 (ai 1)) (fun _ _ _ _ _=>(eG (i:=0) (show (["sign","self"]:List af).Nodup by decide +kernel) rfl (by first | exact Or.inl I | exact Or.inr I))) (fun _ _ _ _ _=>iE) (fun _ _ _ _ _=>(jP PySem.F.plainAttrs_str PySem.F.slot_str_index PySem.F.type_str_index Wh (ee (ai 1) rfl) (av (ai 0) aA)))))),?_⟩
 try dsimp only[cS,cT,cU,cV]
 refine .inr ⟨_,I,_,I,fun D dB=>?_⟩
 refine Lr (fun c=>V.int ((bg.cps.toList.idxOf c:Nat):Int)) (fun ab=>∃ z,ab=[z,J (.ref o)]) (eX (by show t.length<=_;omega)) ⟨_,I⟩ dB ?_ ?_
 ·rintro ch hc b8 H1 ⟨z,rfl⟩ eR R cY
  refine⟨_,I,o,C,al,_,_,I,eR _ _ aJ,T.cl,T.m1,hI ..,?_⟩
  exact⟨I,_,I,bg,ch,I,I,lb (iD.mp hm ch hc),cY _ ⟨_,I⟩⟩
 ·refine⟨_,.new dB (cL dB) aM trivial,?_⟩
  have q:=q D dB
  unfold idxs at q
  rw[ir] at q
  exact q
theorem Tq(nb:dV mg)(T:sq K c.l)(F:c2 K "written" "Letters.written" zT f fd)(e6:fe K c.l)(w1:lS P w K mg base 1 c.l "places" ["self","text"] (Ii c.l))(nj:bK P w K mg base 2 "fixed_row" ["n","most"] yN):cg P w K mg base dk 3 f fd ["self","value"] (i4 has bz fw c n .l):=by
 refine F.hJ JR (fun bb A outer s H vs Q E az h=>?_)
 obtain⟨o,dY,v,d,rfl,hs,b6,aR,cW,hd,aE,aC,q⟩:=h
 obtain⟨bg,rfl⟩:=E6 hs
 obtain⟨_,al,aJ⟩:=b6
 rw[cO] at aE
 rw[cB] at q aC
 cases d with
 | str t =>
  obtain⟨rfl,_⟩:=hd
  have aE:(decide (t.length<=200)&&mW t bg)=ag:=aE
  obtain⟨vG,hm⟩:=mD.mp aE
  have vG:=lb vG
  have qe:ko bg=ag/\bg.length<=60:=by have:=aR.1;rw[gj] at this;exact this
  refine⟨_,(aP (bV 2 JR.br (aQ gb (cj d8 I nb.dZ d3 (av (ee (ai 0) I) aA)) aD))
  (aT (bG (aQ eh (jP PySem.F.plainAttrs_str PySem.F.slot_str_join PySem.F.type_str_join vh cJ (av (iQ ["place"] [(2,"most")] rfl (by decide +kernel) ⟨rfl,.inl rfl,trivial⟩ (j7 (EM w1 e6 az (ai 0) (av (ai 1) aA))) (fun _ _ _ _ _=>(eG (i:=0) (show (["place","most"]:List af).Nodup by decide +kernel) rfl (by first | exact Or.inl I | exact Or.inr I))) (fun _ _ _ _ _=>iE) (fun _ _ _ _ _=>(aQ eh cJ (cq nj az (av (ai 0) (av (ai 1) aA)))))) aA)) cJ)))),?_⟩
  try dsimp only[cS,cT,cU,cV]
  have q:Q (.str (bw ((t.cps.toList.map fun c=>ag::d4 (bg.cps.toList.idxOf c) (aZ (bg.length - 1))).flatten++[ah]))) H:=q
  have aC:((t.cps.toList.map fun c=>ag::d4 (bg.cps.toList.idxOf c) (aZ (bg.length - 1))).flatten++[ah]).length<=15000000:=aC
  rw[dI] at aC
  refine⟨_,I,o,c.l,al,_,_,I,aJ,T.cl,T.m1,hI ..,_,_,I,⟨eX (by omega),I⟩,_,_,I,I,?_⟩
  have adV:List.lookup (af.ofString "places") [(af.ofString "signs",V.str bg)]=aw:=by
   unfold List.lookup
   rw[show (af.ofString "places" == af.ofString "signs")=ah by decide +kernel]
   rfl
  refine⟨I,.inl ⟨_,I,o,al,_,I,aJ,adV,_,I,o,al,bg,t,I,aJ,hm,vG,fun r fq=>?_⟩⟩
  have ajI:(idxs bg t).length=t.length:=by unfold idxs;rw[cM];exact hT
  refine⟨r,I,⟨_,bX aM⟩,fun dT fo=>?_⟩
  refine xg (K:=K) (a:=r) (xs:=(idxs bg t).map fun k=>V.int ((k:Nat):Int)) (fun k=>V.str (bw (ag::d4 ((idxs bg t).getD k 0) (aZ (bg.length - 1))))) (fun ab=>∃ z,ab=[z,J (V.int ((bg.length:Int) - 1))]) (eX (by rw[cM];omega)) ⟨_,I⟩ fo (bX aM) ?_ ?_
  ·rintro k x ay b8 H1 ⟨z,rfl⟩ eR R cY
   rw[fT] at ay
   obtain⟨ro,oT,rfl⟩:=Uf.mp ay
   have e:(idxs bg t).getD k 0=ro:=by rw[e9,oT];rfl
   rw[e] at cY
   have G5:=oT
   unfold idxs at G5
   rw[fT] at G5
   obtain⟨ch,mQ,rfl⟩:=Uf.mp G5
   have gW:ch∈t.cps.toList:=jy mQ
   have aaN:ch∈bg.cps.toList:=lb (iD.mp hm ch gW)
   have i2:bg.cps.toList.idxOf ch<bg.length:=by
    have:=List.idxOf_lt_length_iff.mpr aaN
    rwa [hT] at this
   have bh:=EN (List.mem_map_of_mem (f:=fun c=>ag::d4 (bg.cps.toList.idxOf c) (aZ (bg.length - 1))) gW)
   rw[ed,kF] at bh
   have aL:(bg.length:Int) - 1=((bg.length - 1:Nat):Int):=by omega
   refine⟨_,I,_,I,bg.cps.toList.idxOf ch,bg.length - 1,by rw[<- aL];rfl,by omega,by omega,.inr ⟨_,_,rfl,rfl,ku ?_,?_⟩⟩
   ·rw[vf,dA,dA,kF];simp only[ed,List.length_nil];omega
   ·rw[vf,kl];exact cY _ ⟨_,I⟩
  ·have e:(List.range ((idxs bg t).map fun k=>V.int ((k:Nat):Int)).length).map (fun k=>V.str (bw (ag::d4 ((idxs bg t).getD k 0) (aZ (bg.length - 1)))))=((t.cps.toList.map fun c=>ag::d4 (bg.cps.toList.idxOf c) (aZ (bg.length - 1))).map bw).map V.str:=by
    rw[cM]
    apply List.ext_getElem
    ·unfold idxs;simp
    ·intro k aj ar
     have bB:k<t.cps.toList.length:=by simpa using ar
     have dE:(idxs bg t)[k]?=J (bg.cps.toList.idxOf t.cps.toList[k]):=by unfold idxs;rw[fT,dm bB];rfl
     rw[jR,jR,jR,jR,List.getElem_range,e9,dE];rfl
   rw[e]
   have agC:=(cL (o:=cv.lst ((idxs bg t).map fun k=>V.int ((k:Nat):Int))) fq).trans (cL (o:=cv.lst (((t.cps.toList.map fun c=>ag::d4 (bg.cps.toList.idxOf c) (aZ (bg.length - 1))).map bw).map V.str)) fo)
   refine⟨_,dT,_,I,I,bX aM,by rw[EL];omega,.inr ⟨_,_,rfl,rfl,ku ?_,H,.refl agC,?_⟩⟩
   ·rw[sm,AH,dA,dA];omega
   ·rw[sm,AH,kl];exact q
 | _=>cases aE
noncomputable def Bg(m:Nat):D->Bool
 | .tup [.int p,.int q]=>decide (0<q/\c4 p q=1/\(d9 p q).length<=m/\la (d9 p q))
 | _=>ah
noncomputable def iV:D->Bool:=Bg 310
noncomputable def pT:D->Bool:=Bg 290
theorem AD{bz:D->Bool}:∀ (fs:List bN) (ns:List af) (n:af) (x:D),ns.length=fs.length->lu bz fs ns n x=ag->n∈ns
 | [],ns,n,x,_,h=>by rw[lu] at h;cases h
 | f::fs,[],n,x,aC,h=>by cases aC
 | f::fs,m::ns,n,x,aC,h=>by
  rw[lu] at h
  by_cases z:m=n
  ·subst z;exact hz ..
  ·have h:(if J m=J n then _ else lu bz fs ns n x)=ag:=h
   rw[if_neg (fun e=>z (gN e))] at h
   exact fk _ (AD fs ns n x (by simpa using aC) h)
theorem vd{bz:D->Bool}{x:D}:∀ (fs:List bN) (ns:List af) (n:af),n∈ns->ns.length=fs.length->lu bz fs ns n x=cO bz (fs.getD (ns.idxOf n) (.bare 0)) x
 | [],[],n,h,_=>by cases h
 | f::fs,[],n,h,_=>by cases h
 | [],m::ns,n,_,h=>by cases h
 | f::fs,m::ns,n,h,aC=>by
  rw[lu]
  show (if J m=J n then _ else lu bz fs ns n x)=_
  by_cases z:m=n
  ·subst z
   rw[if_pos rfl,List.idxOf_cons_self];rfl
  ·rw[if_neg (fun e=>z (gN e)),vd fs ns n ((dn.mp h).resolve_left (d2 z)) (by simpa using aC),List.idxOf_cons,beq_false_of_ne z];rfl
theorem ew.ge{c:eu}{X:List ae}{H:au}:∀ (fs:List bN) {os:List ae} {i:Nat} {f:bN},ew c X H fs os->fs[i]?=J f->∃ o,os[i]?=J o/\b4 c X H f o
 | [],os,i,f,h,e=>by cases e
 | g::fs,os,0,f,h,e=>by
  obtain⟨d0,r,rfl,q,cE⟩:=h
  cases e
  exact⟨_,I,q⟩
 | g::fs,os,i+1,f,h,e=>by
  obtain⟨d0,r,rfl,q,cE⟩:=h
  obtain⟨v,aj,ar⟩:=ew.ge (os:=r) fs cE (show fs[i]?=J f from e)
  exact⟨v,aj,ar⟩
theorem B0(val:Nat->af):∀ n i,i<n->val i∈f9 val n
 | 0,i,h=>by omega
 | n+1,i,h=>by
  unfold f9
  by_cases z:i=n
  ·subst z
   split
   ·assumption
   ·exact mC _ (fy.mpr I)
  ·have:=B0 val n i (by omega)
   split
   ·exact this
   ·exact List.mem_append_left _ this
theorem xi(val:Nat->af):∀ n,(f9 val n).length=n->∀ i j,i<j->j<n->val i≠val j
 | 0,_,i,j,_,h=>by omega
 | n+1,h,i,j,G4,cy=>by
  unfold f9 at h
  have hle:=xp val n
  by_cases z:val n∈f9 val n
  ·rw[if_pos z] at h;omega
  ·rw[if_neg z,dI,iC] at h
   by_cases aiy:j=n
   ·subst aiy
    exact fun e=>z (by rw[<- e];exact B0 val j i G4)
   ·exact xi val n (by omega) i j G4 (by omega)
theorem jA:2<=bT:=by decide
theorem xa{ns:List af}{i:Nat}{n:af}(h:jZ ns=ag)(e:ns[i]?=J n):ns.idxOf n=i:=by
 unfold jZ at h
 simp only[h7,jQ] at h
 have hd:=h.1.2.2
 have aB:i<ns.length:=by
  rcases jx i ns.length with z | z
  ·exact z
  ·rw[zQ z] at e;cases e
 have bc:ns[i]=n:=by rw[dm aB] at e;exact gN e
 have hm:n∈ns:=by rw[<- bc];exact List.getElem_mem aB
 have hk:=sC hm
 have tn:ns[ns.idxOf n]=n:=List.getElem_idxOf hk
 have g:∀ k (hk:k<ns.length),ns.getD k af.empty=ns[k]:=fun k hk=>by rw[e9,dm hk];rfl
 rcases Nat.lt_trichotomy (ns.idxOf n) i with z | z | z
 ·exact absurd (by rw[g _ hk,g _ aB,tn,bc]) (xi _ _ hd _ _ z aB)
 ·exact z
 ·exact absurd (by rw[g _ hk,g _ aB,tn,bc]) (xi _ _ hd _ _ z hk)
theorem BU{K:bO}{H:au}{p:ae}{l:List V}{j:Nat}{x:V}{Q:bx}(h:H p=J (.lst l)\/H p=J (.tup l))(e:l[j]?=J x)(q:Q x H):(HV K (.ref p) (.int ((j:Nat):Int)) H Q\/HX K (.ref p) (.int ((j:Nat):Int)) H Q)\/HW (.ref p) (.int ((j:Nat):Int)) H Q :=
 h.elim (fun qZ => .inl (.inl ⟨_,_,_,_,rfl,rfl,bX qZ,dt e,q⟩)) (fun gO => .inl (.inr ⟨_,_,_,_,rfl,rfl,dc gO,dt e,q⟩))
theorem xk{fw:D->List Bool}{x:D}{M:Nat}:∀ (fs:List bN) (ns:List af) (k:Nat) (n:af),n∈ns->ns.length=fs.length->ql fw fs ns k M n x=d4 (k+ns.idxOf n) (aZ M)++cB fw (fs.getD (ns.idxOf n) (.bare 0)) x
 | [],[],k,n,h,_=>by cases h
 | f::fs,[],k,n,h,_=>by cases h
 | [],m::ns,k,n,_,h=>by cases h
 | f::fs,m::ns,k,n,h,aC=>by
  rw[ql]
  show (if J m=J n then _ else ql fw fs ns (k+1) M n x)=_
  by_cases z:m=n
  ·subst z
   rw[if_pos rfl,List.idxOf_cons_self];rfl
  ·rw[if_neg (fun e=>z (gN e)),xk fs ns (k+1) n ((dn.mp h).resolve_left (d2 z)) (by simpa using aC),List.idxOf_cons,beq_false_of_ne z,show k+1+ns.idxOf n=k+(ns.idxOf n+1) by omega];rfl
theorem TB(nb:dV mg)(T:nC K (c.t 1))(F:c2 K "written" "Choice.written" zX f fd)(nj:bK P w K mg base 2 "fixed_row" ["n","most"] yN)(kB:iN P w K mg base (2*n+4) "written" ["self","value"] (fE c) (i4 has bz fw c n)):cg P w K mg base dk (2*n+4+1) f fd ["self","value"] (i4 has bz fw c (n+1) (.t 1)):=by
 refine F.hJ JS (fun bb A outer s H vs Q E az h=>?_)
 obtain⟨o,dY,v,d,rfl,hs,b6,aR,cW,hd,i0,cG,q⟩:=h
 obtain⟨ns,fs,rfl⟩:=va hs
 obtain⟨_,al,hu,hv,os,aJ,_,_,g1,g2,ef⟩:=b6
 obtain⟨fG,mb,ih⟩:=aR.two
 have ig:gA fs<=n:=by rw[aW] at cW;omega
 rw[cO,if_neg (by decide)] at i0
 unfold xG at i0
 split at i0
 ·rename_i m x
  have hm:=AD fs ns _ _ mb i0
  rw[vd fs ns _ hm mb] at i0
  obtain⟨t,_,rfl,e,⟨_,_,rfl,⟨rfl,_⟩,IG,_,rfl,ay,rfl⟩,_⟩:=hd
  have mL:cB fw (.two 1 ns fs) (.tup [.str m,x])=d4 (ns.idxOf m) (aZ (fs.length - 1))++cB fw (fs.getD (ns.idxOf m) (.bare 0)) x:=by
   rw[cB,if_neg (by decide)]
   show ql fw fs ns 0 _ m x=_
   rw[xk fs ns 0 m hm mb,Nat.zero_add]
  rw[mL] at cG q
  have hk:=sC hm
  have tp:ns[ns.idxOf m]?=J m:=by rw[dm hk,List.getElem_idxOf hk]
  have vS:ns.idxOf m<fs.length:=by omega
  have aE:=dm vS
  rw[e9,aE] at i0 cG q
  obtain⟨ob,mc,tg⟩:=ew.ge fs ef aE
  obtain⟨n2,x3⟩:=ih.get aE
  obtain⟨fZ,f3,fb,li⟩:=b4.written _ tg
  have a0:∀ (x:V) (r:List V),eH (x::r) 0=J x:=fun x r=>dt (j:=0) rfl
  have a1:∀ (x y:V) (r:List V),eH (x::y::r) 1=J y:=fun x y r=>dt (j:=1) rfl
  have x7:=(nI fG).1
  refine⟨_,(aP (bV 2 JS.br (jP PySem.F.plainAttrs_list PySem.F.slot_list_index PySem.F.type_list_index KJ (ee (ai 0) I) (av (cN cP (ai 1) aD) aA)))
  (aT (bG (aQ eh (cq nj az (av (ai 2) (av (aQ gb (cj d8 rfl nb.dZ d3 (av (ee (ai 0) rfl) aA)) aD) aA)) (hk:=by omega)) (kG kB az (cN cP (ee (ai 0) rfl) (ai 2)) (av (cN cP (ai 1) aD) aA) (hk:=by omega)))))),?_⟩
  try dsimp only[cS,cT,cU,cV]
  refine⟨_,I,o,c.t 1,al,_,_,I,aJ,T.cl,T.rx,hI ..,.inl ⟨I,_,bX g1⟩,_,I,.inl (.inr ⟨_,_,_,_,I,I,dc e,a0 _ _,hu,ns,m,ns.idxOf m,I,I,g1,tp,(fun j cy hw=>by have:=xa fG hw;omega),by omega,?_⟩)⟩
  have n0:(((ns.map V.str).length:Nat):Int) - 1=((fs.length - 1:Nat):Int):=by rw[cM];omega
  have aq:aZ (fs.length - 1)<=16000000:=by
   have:=ey (dI ▸ Nat.le_add_right _ _) cG
   rw[kF] at this
   omega
  refine⟨_,I,_,I,o,c.t 1,al,_,_,I,aJ,T.cl,T.rx,hI ..,_,_,I,.inl ⟨_,bX g1,I⟩,_,_,I,I,ns.idxOf m,fs.length - 1,by rw[<- n0];rfl,by omega,aq,?_⟩
  refine⟨_,I,o,c.t 1,al,_,_,I,aJ,T.cl,T.qj,oX _ _ _ _ tb,_,I,BU (.inl g2) (show (os.map V.ref)[ns.idxOf m]?=J (V.ref ob) by rw[fT,mc];rfl) ⟨ob,slot _,fZ,f3,rfl,fb,li,_,rfl,.inl (.inr ⟨_,_,_,_,rfl,rfl,dc e,a1 _ _ _,ob,_,IG,x,rfl,rfl,tg,n2,by omega,ay,i0,?_,?_⟩)⟩⟩
  ·rw[dI] at cG
   exact ey (Nat.le_add_left _ _) cG
  ·refine .inr ⟨_,_,I,I,?_,H,.refl (dR _),?_⟩
   ·rw[dA,dA,<- dI]
    exact ku (ey cG (by decide))
   ·rw[<- kl] at q
    exact q
 ·cases i0
theorem S6:∀ (n:Nat) {p q:Int},q.toNat<=n->0<=q->(0<q\/0<=p)->c4 p q∣p/\c4 p q∣q/\0<=c4 p q:=by
 intro n
 induction n with
 | zero =>
  intro p q bu aj ar
  obtain rfl:q=0:=by omega
  rw[vk]
  exact⟨Int.dvd_refl _,Int.dvd_zero _,ar.elim (fun z=>by omega) id⟩
 | succ n cA =>
  intro p q bu aj ar
  by_cases aU:q=0
  ·subst aU
   rw[vk]
   exact⟨Int.dvd_refl _,Int.dvd_zero _,ar.elim (fun z=>by omega) id⟩
  ·have aU:0<q:=by omega
   rw[vo aU]
   have ks:=hl p (Int.ne_of_gt aU)
   have cp:=hy p aU
   obtain⟨eQ,hB,FT⟩:=cA (p:=q) (q:=p%q) (by omega) ks (.inr aj)
   refine⟨?_,eQ,FT⟩
   have e:=Int.mul_ediv_add_emod p q
   have:c4 q (p%q)∣q*(p/q)+p%q:=Int.dvd_add (Int.dvd_mul_of_dvd_left eQ) hB
   rwa [e] at this
theorem JD{p q:Int}(aU:0<q)(h:Int.gcd p q=1):c4 p q=1:=by
 obtain⟨eQ,hB,FT⟩:=S6 q.toNat (cx _) (Int.le_of_lt aU) (.inl aU) (p:=p)
 have:=Int.dvd_coe_gcd eQ hB
 rw[h] at this
 exact Int.eq_one_of_dvd_one FT this
theorem Ye:∀ (n:Nat) {p q:Int},q.toNat<=n->0<=q->q<p->c4 p q=1->Tail (d9 p q)/\cC (d9 p q)=(p,q):=by
 have base:∀ {p:Int},c4 p 0=1->Tail (d9 p 0)/\cC (d9 p 0)=(p,0):=fun {p} h=>by
  rw[vk] at h
  subst h
  rw[pA]
  exact⟨⟨(fun x ay=>nomatch ay),(fun z=>absurd I z)⟩,I⟩
 intro n
 induction n with
 | zero =>
  intro p q bu aj _ hc
  obtain rfl:q=0:=by omega
  exact base hc
 | succ n cA =>
  intro p q bu aj ajC hc
  by_cases aU:q=0
  ·subst aU;exact base hc
  have aU:0<q:=by omega
  rw[vo aU] at hc
  have ks:=hl p (Int.ne_of_gt aU)
  have cp:=hy p aU
  have e:=Int.mul_ediv_add_emod p q
  have t3:1<=p/q:=Int.le_ediv_of_mul_le aU (by omega)
  obtain⟨t,f⟩:=cA (p:=q) (q:=p%q) (by omega) ks cp hc
  rw[lg aU]
  refine⟨⟨fun x ay=>?_,fun z=>?_⟩,?_⟩
  ·rcases dn.mp ay with y | y
   ·rw[y];exact t3
   ·exact t.1 x y
  ·by_cases az:d9 q (p%q)=[]
   ·have abL:p%q=0:=by
     by_cases y:p%q=0
     ·exact y
     ·rw[lg (by omega)] at az;cases az
    rw[abL,vk] at hc
    subst hc
    have:(p/1::d9 1 (p%1)).getLast z=p/1:=by simp only[az,List.getLast_singleton]
    rw[this,Int.ediv_one];omega
   ·rw[List.getLast_cons az];exact t.2 az
  ·rw[cC,f]
   show (p/q*q+p%q,q)=(p,q)
   rw[Int.mul_comm,e]
theorem Ll{p q:Int}(aU:0<q)(hc:c4 p q=1):Good (d9 p q)/\cC (d9 p q)=(p,q):=by
 rw[vo aU] at hc
 have ks:=hl p (Int.ne_of_gt aU)
 have cp:=hy p aU
 obtain⟨t,f⟩:=Ye _ (cx _) ks cp hc
 rw[lg aU]
 refine⟨t,?_⟩
 rw[cC,f]
 show (p/q*q+p%q,q)=(p,q)
 rw[Int.mul_comm,Int.mul_ediv_add_emod]
theorem Si:∀ (k:Nat) {p q:Int},0<=q->q<2 ^ k->(d9 p q).length<=2*k+1:=by
 intro k
 induction k with
 | zero =>
  intro p q bu aj
  have:q=0:=by omega
  subst this
  rw[pA];exact UF _
 | succ k cA =>
  intro p q bu aj
  by_cases aU:q=0
  ·subst aU;rw[pA];exact UF _
  ·have aU:0<q:=by omega
   rw[lg aU,ed]
   have ks:=hl p (Int.ne_of_gt aU)
   have cp:=hy p aU
   generalize p%q=r at ks cp
   by_cases az:r=0
   ·subst az;rw[pA];simp
   ·have az:0<r:=by omega
    rw[lg az,ed]
    have t0:=hl q (Int.ne_of_gt az)
    have t1:=hy q az
    have kV:=Int.mul_ediv_add_emod q r
    have t3:1<=q/r:=Int.le_ediv_of_mul_le az (by omega)
    have ajV:r*1<=r*(q/r):=Int.mul_le_mul_of_nonneg_left t3 (by omega)
    have e:(2:Int) ^ (k+1)=2 ^ k*2:=Int.pow_succ ..
    have:=cA (p:=r) (q:=q%r) t0 (by omega)
    omega
theorem Yf{B:Int}:∀ (n:Nat) {p q:Int},q.toNat<=n->0<=q->-B<=p->p<=B->q<=B->∀ x∈d9 p q,-B<=x/\x<=B:=by
 intro n
 induction n with
 | zero =>
  intro p q bu aj _ _ _ x ay
  have:q=0:=by omega
  subst this
  rw[pA] at ay;cases ay
 | succ n cA =>
  intro p q bu aj ar bB b0 x ay
  by_cases aU:q=0
  ·subst aU;rw[pA] at ay;cases ay
  ·have aU:0<q:=by omega
   rw[lg aU] at ay
   rcases dn.mp ay with z | z
   ·subst z
    constructor
    ·refine Int.le_ediv_of_mul_le aU ?_
     have : -B*q<=-B*1:=Int.mul_le_mul_of_nonpos_left (by omega) (by omega)
     omega
    ·refine Int.ediv_le_of_le_mul aU ?_
     have:B*1<=B*q:=Int.mul_le_mul_of_nonneg_left (by omega) (by omega)
     omega
   ·have ks:=hl p (Int.ne_of_gt aU)
    have cp:=hy p aU
    exact cA (by omega) ks (by omega) b0 (by omega) x z
theorem K9{s:List Int}(h:la s):∀ x∈s,x.natAbs<2 ^ 1000:=by
 intro x ay
 obtain⟨i,aB,rfl⟩:=List.mem_iff_getElem.mp ay
 have z:=h.at (dm aB)
 refine fi (m:=2 ^ 256) ?_ (Nat.pow_le_pow_right (by decide) (by decide))
 split at z
 ·obtain⟨di,dj⟩:=z;omega
 ·obtain⟨di,dj⟩:=z;omega
theorem EF{m:Nat}{d:D}(h:Bg m d=ag):∃ p q:Int,d = .tup [.int p,.int q]/\0<q/\c4 p q=1/\(d9 p q).length<=m/\la (d9 p q):=by
 unfold Bg at h
 split at h
 ·rename_i p q
  obtain⟨aj,ar,bB,b0⟩:=lb h
  exact⟨p,q,I,aj,ar,bB,b0⟩
 ·cases h
theorem Es{d:D}(h:iV d=ag):∃ p q:Int,d = .tup [.int p,.int q]/\0<q/\c4 p q=1/\(d9 p q).length<=310/\la (d9 p q):=EF h
theorem X9{p q:Int}(aj:0<q)(ar:Int.gcd p q=1)(bB:p.natAbs<=10 ^ 38)(b0:q<=10 ^ 38):pT (.tup [.int p,.int q])=ag:=by
 have fC:(10:Int) ^ 38<2 ^ 127:=by decide
 have oG:(2:Int) ^ 127<2 ^ 254:=by decide
 refine ek ⟨aj,JD aj ar,?_,?_⟩
 ·exact ey (Si 127 (Int.le_of_lt aj) (by omega)) (by decide)
 ·have hs:=Yf (B:=10 ^ 38) q.toNat (cx _) (Int.le_of_lt aj) (p:=p) (by omega) (by omega) b0
  obtain⟨t,_⟩:=Ll aj (JD aj ar)
  refine⟨fun x ay=>?_,fun x ay=>?_⟩
  ·have:=hs x (List.mem_of_mem_take ay)
   unfold iu;omega
  ·have:=hs x (List.mem_of_mem_drop ay)
   rw[lg aj] at t ay
   have:=t.1 x ay
   unfold hR;omega
theorem VP(nb:dV mg)(F:c2 K "fits" "Fraction.fits" z3 f fd)(my:bK P w K mg base 1 "is_number" ["value"] yP)(wN:bK P w K mg base 3 "has_fraction_row" ["fraction"] Ia):cg P w K mg base dk 4 f fd ["self","value"] (i3 has iV c n (.b 3)):=by
 refine F.hJ TJ (fun bb A outer s H vs Q E az h=>?_)
 obtain⟨o,dY,v,d,rfl,hs,b6,aR,cW,hd,aE,q⟩:=h
 have:=mH hs
 subst this
 rw[xm] at aE
 have aE:iV d=ag:=by cases d<;>exact aE
 obtain⟨p,iA,rfl,aj,ar,b0,eB⟩:=Es aE
 refine⟨_,(aP (cR (gJ.pt (kf (iS (g8 (cj jd I nb.gB gx (av (ai 1) (av (iR (v := .ty "tuple") I nb.rO qJ I) aA))))) (k4 (cm wd (cj d8 I nb.dZ d3 (av (ai 1) aA)) aD)))) (aT (bG gn)) cQ)
  (aT (bG (iU (cq my az (av (cN cP (ai 1) aD) aA)) (iU (cq my az (av (cN cP (ai 1) aD) aA)) (kj (cq wN az (av (ai 1) aA)))))))),_,rfl,.inl ⟨_,_,_,_,rfl,hd.ty,hb K _ (by decide),_,rfl,?_⟩⟩
 obtain⟨a,vs,rfl,c7,⟨_,_,rfl,rfl,_,_,rfl,rfl,rfl⟩,j2⟩:=hd
 have a0:∀ (x:V) (r:List V),eH (x::r) 0=J x:=fun x r=>dt (j:=0) rfl
 have a1:∀ (x y:V) (r:List V),eH (x::y::r) 1=J y:=fun x y r=>dt (j:=1) rfl
 refine eb ⟨_,I,_,_,I,.inr ⟨_,dc c7,I⟩,I,_,I,ym I ?_⟩
 refine⟨_,I,.inl (.inr ⟨_,_,_,_,I,I,dc c7,a0 _ _,_,.int p,I,I,ag,I,gD ?_⟩)⟩
 refine⟨_,I,.inl (.inr ⟨_,_,_,_,I,I,dc c7,a1 _ _ _,_,.int iA,I,I,ag,I,gD ?_⟩)⟩
 refine⟨_,I,a,p,iA,I,c7,fun _=>⟨by omega,K9 eB⟩,H,.refl (dR _),?_⟩
 rw[ek ⟨aj,ar,eB⟩];exact q
noncomputable def ez:D->List Bool
 | .tup [.int p,.int q]=>lx (d9 p q)
 | _=>[]
theorem Wu{s:List Int}(h:Good s):ez (.tup [.int (cC s).1,.int (cC s).2])=lx s:=by
 show lx (d9 _ _)=_
 rw[h.d9.2]
theorem Tn(F:c2 K "written" "Fraction.written" z5 f fd)(qy:bK P w K mg base 1 "steps_of" ["fraction"] Cm)(wO:bK P w K mg base 4 "row_of_steps" ["steps"] Ik):cg P w K mg base dk 5 f fd ["self","value"] (i4 has iV ez c n (.b 3)):=by
 refine F.hJ Tj (fun bb A outer s H vs Q E az h=>?_)
 obtain⟨o,dY,v,d,rfl,hs,b6,aR,cW,hd,aE,aC,q⟩:=h
 have:=mH hs
 subst this
 rw[xm] at aE
 have aE:iV d=ag:=by cases d<;>exact aE
 obtain⟨p,iA,rfl,aj,ar,b0,eB⟩:=Es aE
 rw[cB] at q
 obtain⟨a,vs,rfl,c7,⟨_,_,rfl,rfl,_,_,rfl,rfl,rfl⟩,j2⟩:=hd
 refine⟨_,(aT (bG (cq wO az (av (cq qy az (av (ai 1) aA)) aA)))),?_⟩
 try dsimp only[cS,cT,cU,cV]
 refine⟨_,I,a,p,iA,I,c7,Int.le_of_lt aj,by omega,K9 eB,fun r fq=>?_⟩
 exact⟨r,_,I,aM,by rw[lg aj];exact mE _ _,by omega,eB,H,.refl (cL fq),q⟩
theorem W7(nb:dV mg)(T:nC K (c.t 1))(F:c2 K "fits" "Choice.fits" zH f fd)(jq:iN P w K mg base (2*n+4) "fits" ["self","value"] (fE c) (i3 has bz c n)):cg P w K mg base dk (2*n+4+1) f fd ["self","value"] (i3 has bz c (n+1) (.t 1)):=by
 refine F.hJ Uk (fun bb A outer s H vs Q E az h=>?_)
 obtain⟨o,dY,v,d,rfl,hs,b6,aR,cW,hd,aE,q⟩:=h
 obtain⟨ns,fs,rfl⟩:=va hs
 obtain⟨_,al,hu,hv,os,aJ,_,_,g1,g2,ef⟩:=b6
 obtain⟨fG,mb,ih⟩:=aR.two
 have ig:gA fs<=n:=by rw[aW] at cW;omega
 have x7:=(nI fG).1
 rw[cO,if_neg (by decide)] at aE
 refine⟨_,(aP (cR (gJ.pt (kf (iS (g8 (cj jd I nb.gB gx (av (ai 1) (av (iR (v := .ty "tuple") I nb.rO qJ I) aA))))) (kf (cm wd (cj d8 I nb.dZ d3 (av (ai 1) aA)) aD) (k4 (E9 (WQ (HY az)) (cN cP (ai 1) aD) (ee (ai 0) I) (by with_unfolding_all rfl)))))) (aT (bG gn)) cQ)
  (aT (bG (kG jq az (cN cP (ee (ai 0) rfl) (jP PySem.F.plainAttrs_list PySem.F.slot_list_index PySem.F.type_list_index KJ (ee (ai 0) rfl) (av (cN cP (ai 1) aD) aA))) (av (cN cP (ai 1) aD) aA) (hk:=by omega))))),_,rfl,.inl ⟨_,_,_,_,rfl,hd.ty,hb K d (by decide),_,rfl,?_⟩⟩
 unfold xG at aE
 split at aE
 ·rename_i m x
  obtain⟨a,vs,rfl,c7,⟨v0,_,rfl,bu,IG,_,rfl,ay,rfl⟩,j2⟩:=hd
  have hm:=AD fs ns m x mb aE
  have a0:∀ (x:V) (r:List V),eH (x::r) 0=J x:=fun x r=>dt (j:=0) rfl
  have a1:∀ (x y:V) (r:List V),eH (x::y::r) 1=J y:=fun x y r=>dt (j:=1) rfl
  refine eb ⟨_,I,_,_,I,.inr ⟨_,dc c7,I⟩,I,_,I,ym I ?_⟩
  refine⟨_,I,.inl (.inr ⟨_,_,_,_,I,I,dc c7,a0 _ _,_,I,o,c.t 1,al,_,_,I,aJ,T.cl,T.rx,hI ..,hu,ns,.str m,I,bX g1,bu,_,I,?_⟩)⟩
  obtain⟨rfl,_⟩:=bu
  have fb:inD ns (.str m)=ag:=List.any_eq_true.mpr ⟨m,hm,by simp⟩
  rw[fb]
  have hk:=sC hm
  have tp:ns[ns.idxOf m]?=J m:=by rw[dm hk,List.getElem_idxOf hk]
  have vS:ns.idxOf m<fs.length:=by omega
  have aK:=dm vS
  rw[vd fs ns m hm mb,e9,aK] at aE
  obtain⟨ob,mc,tg⟩:=ew.ge fs ef aK
  obtain⟨n2,x3⟩:=ih.get aK
  obtain⟨fZ,f3,Zi,li⟩:=b4.fits _ tg
  refine eb ⟨_,I,o,c.t 1,al,_,_,I,aJ,T.cl,T.qj,oX _ _ _ _ tb,_,I,o,c.t 1,al,_,_,I,aJ,T.cl,T.rx,hI ..,.inl ⟨I,_,bX g1⟩,_,I,.inl (.inr ⟨_,_,_,_,I,I,dc c7,a0 _ _,hu,ns,m,ns.idxOf m,I,I,g1,tp,(fun j cy hw=>by have:=xa fG hw;omega),by omega,?_⟩)⟩
  exact BU (.inl g2) (show (os.map V.ref)[ns.idxOf m]?=J (V.ref ob) by rw[fT,mc];rfl) ⟨ob,slot _,fZ,f3,rfl,Zi,li,_,rfl,.inl (.inr ⟨_,_,_,_,rfl,rfl,dc c7,a1 _ _ _,ob,_,IG,x,rfl,rfl,tg,n2,by omega,ay,aE,H,.refl (dR _),q⟩)⟩
 ·cases aE
theorem Et{K:bO}{a:ae}{xs:List V}{g:gK}{cn:TE}{Q:bx}{H:au}{D:ae}{fO:St}(Inv:Nat->List V->au->Prop)(S:St->Prop)(bI:xs.length<=100000)(bu:S fO)
  (aC:∀ i aY ax,Inv i aY ax->dQ K ax a xs) (aj:Inv 0 [] (upd H D (.lst [])))
  (aW:∀ i x,xs[i]?=J x->∀ aY b8 H1,S b8->Inv i aY H1->H1 D=J (.lst aY)->aY.length=i->∀ R:St->V->au->Prop,(∀ bR y bt,S bR->bt D=J (.lst aY)->Inv (i+1) (aY++[y]) (upd bt D (.lst (aY++[y])))->R bR y bt)->g x b8 H1 fun bR ax=>cn bR ax fun y bt=>R bR y bt)
  (aU:∀ (aY:List V) (H':au),aY.length=xs.length->H' D=J (.lst aY)->Inv xs.length aY H'->Q (.ref D) H') :
  ot (qD K a) g rN cn Q fO H D:=by
 refine⟨fun i m b8 ax=>i<=xs.length/\m=xs.length - i/\S b8/\∃ aY:List V,aY.length=i/\ax D=J (.lst aY)/\Inv i aY ax,⟨xs.length,UF _,I,bu,[],I,aM,aj⟩,?_⟩
 rintro i m b8 ax ⟨aB,rfl,ar,aY,bM,l6,ck⟩
 have i1:=aC i aY ax ck
 rcases jx i xs.length with z | z
 ·refine .inr ⟨⟨xs,xs[i],i1,dm z⟩,?_⟩
  rintro x bt ⟨rfl,ay⟩
  have ay:=ay xs i1
  refine aW i x ay aY b8 _ ar ck l6 bM (fun bR y e3=>∃ zs b1,e3 D=J (.lst zs)/\zs.length<bT/\b1<xs.length - i/\(i+1<=xs.length/\b1=xs.length - (i+1)/\S bR/\∃ ws:List V,ws.length=i+1/\upd e3 D (.lst (zs++[y])) D=J (.lst ws)/\Inv (i+1) ws (upd e3 D (.lst (zs++[y]))))) fun bR y e3 fL Gq Gw=>?_
  exact⟨aY,xs.length - (i+1),Gq,fi (show aY.length<100000 by omega) (by decide),by omega,by omega,rfl,fL,aY++[y],by rw[dI,bM];rfl,aM,Gw⟩
 ·have e:i=xs.length:=by omega
  subst e
  exact .inl ⟨⟨xs,i1,cx _⟩,aU aY ax bM l6 ck⟩
noncomputable def iW(s:List Int):D := .tup [.int (cC s).1,.int (cC s).2]
noncomputable def sY(N:Nat)(e:Bool)(k:Fin 4)(s:List Bool):R D :=
 if k=0 then .ok .bL s else if k=1 then (eQ e ah s).bd fun b s => .ok (.aH b) s else if k=2 then (l3 e s).bd fun n s => .ok (.int n) s else (nO N e s).bd fun st s => .ok (iW st) s
noncomputable def jX(e:Bool)(bg:af):Nat->List Nat->List Bool->R (List Nat)
 | 0,_,_ => .st
 | m+1,w,s=>(eQ e ah s).bd fun b s=>if b=ag then (if w.length=200 then .no ag s.length else (gi e (bg.length - 1) (aZ (bg.length - 1)) 0 s).bd fun i s=>jX e bg m (w++[bg.cps.toList.getD i 0]) s) else .ok w s
noncomputable def je(e:Bool)(g:List Bool->R D):Nat->List D->List Bool->R (List D)
 | 0,_,_ => .st
 | m+1,ds,s=>(eQ e ah s).bd fun b s=>if b=ag then (if ds.length=60 then .no ag s.length else (g s).bd fun d s=>je e g m (ds++[d]) s) else .ok ds s
noncomputable def tM(e:Bool)(k:Fin 3)(g:List Bool->R D)(s:List Bool):R D :=
 if k=0 then (eQ e ah s).bd fun b s=>if b=ag then (g s).bd fun d s => .ok (.tup [d]) s else .ok (.tup []) s
 else if k=1 then (je e g 61 [] s).bd fun ds s => .ok (.lst ds) s else (g (s.map (!·))).cH
mutual
noncomputable def cZ(N:Nat)(e:Bool):bN->List Bool->R D
 | .bare k,s=>sY N e k s
 | .sp a b,s=>(gi e (b - a).toNat (aZ (b - a).toNat) 0 s).bd fun n s => .ok (.int (a+((n:Nat):Int))) s
 | .le bg,s=>(jX e bg 201 [] s).bd fun w s => .ok (.str ⟨w.toArray⟩) s
 | .one k f,s=>tM e k (cZ N e f) s
 | .two k ns fs,s=>if k=0 then (hf N e fs s).bd fun ds s => .ok (.tup ds) s else (gi e (fs.length - 1) (aZ (fs.length - 1)) 0 s).bd fun i s=>(gY N e fs i s).bd fun d s => .ok (.tup [.str (ns.getD i af.empty),d]) s
noncomputable def hf(N:Nat)(e:Bool):List bN->List Bool->R (List D)
 | [],s => .ok [] s
 | f::fs,s=>(cZ N e f s).bd fun d s=>(hf N e fs s).bd fun ds s => .ok (d::ds) s
noncomputable def gY(N:Nat)(e:Bool):List bN->Nat->List Bool->R D
 | [],_,_ => .st
 | f::fs,i,s=>match i with | 0=>cZ N e f s | i+1=>gY N e fs i s
end
theorem Lx{N:Nat}{e:Bool}:∀ (fs:List bN) (i:Nat) (s:List Bool),i<fs.length->gY N e fs i s=cZ N e (fs.getD i (.bare 0)) s
 | [],i,s,h=>absurd h (by simp)
 | f::fs,0,s,_=>by rw[gY];rfl
 | f::fs,i+1,s,h=>by
  rw[gY]
  exact Lx fs i s (by simpa using h)
theorem Fh(bg:af):∀ m w,cb (jX ah bg m w)
 | 0,w=>cb.stuck
 | m+1,w=>(lZ ah).bd fun b=>cb.ite (cb.ite cb.rU ((sN _ _ _).bd fun i=>Fh bg m _)) (cb.pure w)
theorem E0{g:List Bool->R D}(aK:cb g):∀ m ds,cb (je ah g m ds)
 | 0,w=>cb.stuck
 | m+1,w=>(lZ ah).bd fun b=>cb.ite (cb.ite cb.rU (aK.bd fun i=>E0 aK m _)) (cb.pure w)
theorem Xt(N:Nat)(k:Fin 4):cb (sY N ah k):=cb.ite (cb.pure _) (cb.ite ((lZ ah).bd fun b=>cb.pure _) (cb.ite (A7.bd fun b=>cb.pure _) ((Lo N).bd fun b=>cb.pure _)))
theorem XU(k:Fin 3){g:List Bool->R D}(aK:cb g):cb (tM ah k g):=cb.ite ((lZ ah).bd fun b=>cb.ite (aK.bd fun d=>cb.pure _) (cb.pure _)) (cb.ite ((E0 aK 61 []).bd fun b=>cb.pure _) aK.cH)
mutual
theorem sQ(N:Nat):∀ f:bN,cb (cZ N ah f)
 | .bare k=>(Xt N k).of fun s=>by rw[cZ]
 | .sp a b=>((sN (b - a).toNat (aZ (b - a).toNat) 0).bd fun n=>cb.pure (D.int (a+((n:Nat):Int)))).of fun s=>by rw[cZ]
 | .le bg=>((Fh bg 201 []).bd fun w=>cb.pure (D.str ⟨w.toArray⟩)).of fun s=>by rw[cZ]
 | .one k f=>(XU k (sQ N f)).of fun s=>by rw[cZ]
 | .two k ns fs=>(cb.ite (c:=k=0) ((AR N fs).bd fun ds=>cb.pure (D.tup ds)) ((sN (fs.length - 1) (aZ (fs.length - 1)) 0).bd fun i=>(Fu N fs i).bd fun d=>cb.pure (D.tup [.str (ns.getD i af.empty),d]))).of fun s=>by rw[cZ]
theorem AR(N:Nat):∀ fs:List bN,cb (hf N ah fs)
 | []=>(cb.pure ([]:List D)).of fun s=>by rw[hf]
 | f::fs=>((sQ N f).bd fun d=>(AR N fs).bd fun ds=>cb.pure (d::ds)).of fun s=>by rw[hf]
theorem Fu(N:Nat):∀ (fs:List bN) (i:Nat),cb (gY N ah fs i)
 | [],i=>cb.stuck.of fun s=>by rw[gY]
 | f::fs,0=>(sQ N f).of fun s=>by rw[gY]
 | f::fs,i+1=>(Fu N fs i).of fun s=>by rw[gY]
end
theorem Vm{bg:af}{i:Nat}(h:ko bg=ag)(aB:i<bg.length):bg.cps.toList.idxOf (bg.cps.toList.getD i 0)=i:=by
 unfold ko at h
 simp only[h7,jQ] at h
 have hd:=h.1.2.2
 have rf:i<bg.cps.toList.length:=by rw[hT];exact aB
 have g:∀ k,signsOf bg k=⟨#[bg.cps.toList.getD k 0]⟩:=fun k=>by
  unfold signsOf
  rw[Array.getD_eq_getD_getElem?,e9,Array.getElem?_toList]
 obtain⟨c,hc⟩:∃ c,c=bg.cps.toList.getD i 0:=⟨_,rfl⟩
 rw[<- hc]
 have hm:c∈bg.cps.toList:=by
  rw[hc,e9,dm rf];exact List.getElem_mem rf
 have hk:=sC hm
 have tn:bg.cps.toList.getD (bg.cps.toList.idxOf c) 0=c:=by
  rw[e9,dm hk];exact List.getElem_idxOf hk
 rw[hT] at hk
 rcases Nat.lt_trichotomy (bg.cps.toList.idxOf c) i with z | z | z
 ·exact absurd (by rw[g,g,tn,<- hc]) (xi _ _ hd _ _ z aB)
 ·exact z
 ·exact absurd (by rw[g,g,tn,<- hc]) (xi _ _ hd _ _ z hk)
theorem Kc{bg:af}(h:ko bg=ag):0<bg.length:=by
 unfold ko at h
 simp only[h7,jQ] at h
 omega
theorem S0{bg:af}{c:Nat}(h:c∈bg.cps.toList):bg.cps.toList.idxOf c<bg.length:=by
 have:=sC h
 rwa [hT] at this
theorem Jz{e:Bool}{bg:af}:∀ (cs:List Nat) (m:Nat) (w:List Nat) (r:List Bool),cs.length<m->w.length+cs.length<=200->(∀ c∈cs,c∈bg.cps.toList)->jX e bg m w ((cs.map fun c=>ag::d4 (bg.cps.toList.idxOf c) (aZ (bg.length - 1))).flatten++([ah]++r)) = .ok (w++cs) r
 | cs,0,w,r,h,_,_=>absurd h (by omega)
 | [],m+1,w,r,_,_,_=>by
  show R.ok w r=_
  rw[List.append_nil]
 | c::cs,m+1,w,r,h,hw,hc=>by
  rw[ed] at h hw
  have hm:=hc c (hz ..)
  have aB:=S0 hm
  rw[jw,mF,List.cons_append,List.cons_append]
  show (if w.length=200 then _ else (gi e (bg.length - 1) (aZ (bg.length - 1)) 0 _).bd _)=_
  rw[if_neg (by omega),fA,Fj (by omega)]
  show jX e bg m (w++[bg.cps.toList.getD (bg.cps.toList.idxOf c) 0]) _=_
  have tn:bg.cps.toList.getD (bg.cps.toList.idxOf c) 0=c:=by
   rw[e9,dm (sC hm)];exact List.getElem_idxOf _
  rw[tn,Jz cs m _ r (by omega) (by rw[dI,iC];omega) (fun x ay=>hc x (fk _ ay)),fA];rfl
theorem LJ{e:Bool}{g:List Bool->R D}{row:D->List Bool}:∀ (ds:List D) (m:Nat) (w:List D) (r:List Bool),ds.length<m->w.length+ds.length<=60->(∀ d∈ds,∀ r,g (row d++r) = .ok d r)->je e g m w ((ds.map fun d=>ag::row d).flatten++([ah]++r)) = .ok (w++ds) r
 | ds,0,w,r,h,_,_=>absurd h (by omega)
 | [],m+1,w,r,_,_,_=>by
  show R.ok w r=_
  rw[List.append_nil]
 | d::ds,m+1,w,r,h,hw,aK=>by
  rw[ed] at h hw
  rw[jw,mF,List.cons_append,List.cons_append]
  show (if w.length=60 then _ else (g _).bd _)=_
  rw[if_neg (by omega),fA,aK d (hz ..)]
  show je e g m (w++[d]) _=_
  rw[LJ ds m _ r (by omega) (by rw[dI,iC];omega) (fun x ay=>aK x (fk _ ay)),fA];rfl
def w8(N:Nat)(bz:D->Bool):Prop:=∀ d,bz d=ag->∃ s,Good s/\s.length<=N/\la s/\d=iW s/\ez d=lx s
theorem S8{s:List Int}(h:la s):uC (s.drop 1):=fun y bM=>by
 obtain⟨aj,ar⟩:=h.2 y bM
 exact⟨by omega,by omega⟩
theorem Rv{N:Nat}{e:Bool}{bz:D->Bool}(bU:w8 N bz)(k:Fin 4)(d:D)(r:List Bool)(h:A2 bz k d=ag):sY N e k (A3 ez k d++r) = .ok d r:=by
 rcases q3 k with rfl | rfl | rfl | rfl
 ·cases d with
  | bL=>rfl
  | _=>cases h
 ·cases d with
  | aH b=>rfl
  | _=>cases h
 ·cases d with
  | int i =>
   have h:iu i:=lb h
   show (l3 e (iB i++r)).bd _=_
   rw[JM h];rfl
  | _=>cases h
 ·have h:bz d=ag:=by cases d<;>exact h
  have mL:A3 ez 3 d=ez d:=by cases d<;>rfl
  obtain⟨s,aj,ar,bB,b0,eB⟩:=bU d h
  rw[mL,eB]
  show (nO N e (lx s++r)).bd _=_
  rw[So aj ar bB.1 (S8 bB),b0];rfl
theorem RZ{e:Bool}{g:List Bool->R D}{fit:D->Bool}{row:D->List Bool}(aK:∀ d r,fit d=ag->g (row d++r) = .ok d r)(k:Fin 3)(d:D)(r:List Bool)(h:HN k fit d=ag):tM e k g (B8 k row d++r) = .ok d r:=by
 rcases pR k with rfl | rfl | rfl
 ·change ru fit d=ag at h
  unfold ru at h
  split at h
  ·rfl
  ·rename_i x
   show (g (row x++r)).bd _=_
   rw[aK x r h];rfl
  ·cases h
 ·change tF fit d=ag at h
  unfold tF at h
  split at h
  ·rename_i ds
   obtain⟨aj,ar⟩:=mD.mp h
   have aj:=lb aj
   have ar:=iD.mp ar
   show (je e g 61 [] (((ds.map fun d=>ag::row d).flatten++[ah])++r)).bd _=_
   rw[fA,LJ ds 61 [] r (by omega) (by simpa using aj) (fun d hd r=>aK d r (ar d hd))];rfl
  ·cases h
 ·have h:fit d=ag:=h
  show (g (((row d).map (!·)++r).map (!·))).cH=_
  rw[fz,nn,aK d _ h]
  show R.ok d _=_
  rw[nn]
mutual
theorem AZ{N:Nat}{e:Bool}{bz:D->Bool}(bU:w8 N bz):∀ (f:bN) (d:D) (r:List Bool),gj f->cO bz f d=ag->cZ N e f (cB ez f d++r) = .ok d r
 | .bare k,d,r,_,h=>by
  rw[cO] at h
  rw[cZ,cB]
  exact Rv bU k d r h
 | .sp a b,d,r,hk,h=>by
  rw[gj] at hk
  rw[cO] at h
  rw[cZ,cB]
  cases d with
  | int i =>
   have h:a<=i/\i<=b:=lb h
   show (gi e _ _ 0 (d4 (i - a).toNat (aZ (b - a).toNat)++r)).bd _=_
   rw[Fj (by omega)]
   show R.ok (D.int (a+(((i - a).toNat:Nat):Int))) r=_
   rw[show a+(((i - a).toNat:Nat):Int)=i by omega]
  | _=>cases h
 | .le bg,d,r,hk,h=>by
  rw[cO] at h
  rw[cZ,cB]
  cases d with
  | str w =>
   have h:(decide (w.length<=200)&&mW w bg)=ag:=h
   obtain⟨vG,hm⟩:=mD.mp h
   have vG:=lb vG
   have aC:w.cps.toList.length=w.length:=hT
   show (jX e bg 201 [] (((w.cps.toList.map fun c=>ag::d4 (bg.cps.toList.idxOf c) (aZ (bg.length - 1))).flatten++[ah])++r)).bd _=_
   rw[fA,Jz w.cps.toList 201 [] r (by omega) (by simpa using (show w.cps.toList.length<=200 by omega)) (fun c hc=>lb (iD.mp hm c hc))]
   rfl
  | _=>cases h
 | .one k f,d,r,hk,h=>by
  rw[gj] at hk
  rw[cO] at h
  rw[cZ,cB]
  exact RZ (fun d r h=>AZ bU f d r hk h) k d r h
 | .two k ns fs,d,r,hk,h=>by
  rw[gj] at hk
  obtain⟨fG,cG,qa⟩:=hk
  rw[cO] at h
  rw[cZ,cB]
  by_cases z:k=0
  ·rw[if_pos z] at h ⊢
   rw[if_pos z]
   cases d with
   | tup ds =>
    show (hf N e fs (fW ez fs ds++r)).bd _=_
    rw[JG bU fs ds r qa h];rfl
   | _=>cases h
  ·rw[if_neg z] at h ⊢
   rw[if_neg z]
   unfold xG at h
   split at h
   ·rename_i n x
    have ri:=AD fs ns n x cG h
    rw[vd fs ns n ri cG] at h
    show (gi e _ _ 0 (ql ez fs ns 0 (fs.length - 1) n x++r)).bd _=_
    have aB:=sC ri
    rw[xk fs ns 0 n ri cG,Nat.zero_add,fA,Fj (by omega)]
    show (gY N e fs (ns.idxOf n) _).bd _=_
    rw[JI bU fs (ns.idxOf n) x r qa (by omega) h]
    show R.ok (D.tup [.str (ns.getD (ns.idxOf n) af.empty),x]) r=_
    rw[e9,dm aB,List.getElem_idxOf aB];rfl
   ·cases h
theorem JG{N:Nat}{e:Bool}{bz:D->Bool}(bU:w8 N bz):∀ (fs:List bN) (ds:List D) (r:List Bool),gX fs->eZ bz fs ds=ag->hf N e fs (fW ez fs ds++r) = .ok ds r
 | [],[],r,_,h=>by
  rw[hf,fW];rfl
 | [],d::ds,r,_,h=>by
  rw[eZ] at h;cases h
 | f::fs,[],r,hk,h=>by rw[eZ] at h;cases h
 | f::fs,d::ds,r,hk,h=>by
  rw[gX] at hk
  rw[eZ] at h
  rw[hf,fW]
  have h:(cO bz f d&&eZ bz fs ds)=ag:=h
  obtain⟨aj,ar⟩:=mD.mp h
  show (cZ N e f ((cB ez f d++fW ez fs ds)++r)).bd _=_
  rw[fA,AZ bU f d _ hk.1 aj]
  show (hf N e fs _).bd _=_
  rw[JG bU fs ds r hk.2 ar];rfl
theorem JI{N:Nat}{e:Bool}{bz:D->Bool}(bU:w8 N bz):∀ (fs:List bN) (i:Nat) (d:D) (r:List Bool),gX fs->i<fs.length->cO bz (fs.getD i (.bare 0)) d=ag->gY N e fs i (cB ez (fs.getD i (.bare 0)) d++r) = .ok d r
 | [],i,d,r,_,h,_=>absurd h (by simp)
 | f::fs,0,d,r,hk,_,h=>by
  rw[gX] at hk
  rw[gY]
  exact AZ bU f d r hk.1 h
 | f::fs,i+1,d,r,hk,aB,h=>by
  rw[gX] at hk
  rw[gY]
  exact JI bU fs i d r hk.2 (by simpa using aB) h
end
theorem L7{bg:af}(aK:ko bg=ag):∀ {m:Nat} {w v:List Nat} {s r:List Bool},w.length<=200->jX ah bg m w s = .ok v r->∃ cs,v=w++cs/\v.length<=200/\(∀ c∈cs,c∈bg.cps.toList)/\s=(cs.map fun c=>ag::d4 (bg.cps.toList.idxOf c) (aZ (bg.length - 1))).flatten++([ah]++r)
 | 0,w,v,s,r,_,h=>(nomatch h)
 | m+1,w,v,s,r,hw,h=>by
  obtain⟨b,s1,aj,h⟩:=eF h
  rw[oH aj]
  cases b with
  | false =>
   injection h with aG aL
   subst aG aL
   exact⟨[],by rw[List.append_nil],hw,(fun c hc=>nomatch hc),rfl⟩
  | true =>
   have h:(if w.length=200 then R.no ag s1.length else (gi ah (bg.length - 1) (aZ (bg.length - 1)) 0 s1).bd fun i s=>jX ah bg m (w++[bg.cps.toList.getD i 0]) s)=_:=h
   by_cases z:w.length=200
   ·rw[if_pos z] at h;cases h
   ·rw[if_neg z] at h
    obtain⟨i,s2,ar,h⟩:=eF h
    obtain⟨ea,eg,n6⟩:=AV (UF _) ar
    obtain⟨cs,e5,gh,fD,l1⟩:=L7 aK (by rw[dI,iC];omega) h
    have bh:=Kc aK
    have ay:=Vm aK (i:=i) (by omega)
    refine⟨bg.cps.toList.getD i 0::cs,by rw[e5,fA];rfl,gh,fun c hc=>?_,?_⟩
    ·rcases dn.mp hc with rfl | q
     ·have rf:i<bg.cps.toList.length:=by rw[hT];show i<bg.length;omega
      rw[e9,dm rf];exact List.getElem_mem rf
     ·exact fD c q
    ·rw[jw,mF,ay,n6,l1]
     simp only[fA,List.cons_append]
theorem LI{g:List Bool->R D}{fit:D->Bool}{row:D->List Bool}(aK:∀ s d r,g s = .ok d r->fit d=ag/\s=row d++r):∀ {m:Nat} {w v:List D} {s r:List Bool},w.length<=60->je ah g m w s = .ok v r->∃ ds,v=w++ds/\v.length<=60/\(∀ d∈ds,fit d=ag)/\s=(ds.map fun d=>ag::row d).flatten++([ah]++r)
 | 0,w,v,s,r,_,h=>(nomatch h)
 | m+1,w,v,s,r,hw,h=>by
  obtain⟨b,s1,aj,h⟩:=eF h
  rw[oH aj]
  cases b with
  | false =>
   injection h with aG aL
   subst aG aL
   exact⟨[],by rw[List.append_nil],hw,(fun c hc=>nomatch hc),rfl⟩
  | true =>
   have h:(if w.length=60 then R.no ag s1.length else (g s1).bd fun d s=>je ah g m (w++[d]) s)=_:=h
   by_cases z:w.length=60
   ·rw[if_pos z] at h;cases h
   ·rw[if_neg z] at h
    obtain⟨d,s2,ar,h⟩:=eF h
    obtain⟨ea,n6⟩:=aK _ _ _ ar
    obtain⟨cs,e5,gh,fD,l1⟩:=LI aK (by rw[dI,iC];omega) h
    refine⟨d::cs,by rw[e5,fA];rfl,gh,fun c hc=>?_,?_⟩
    ·rcases dn.mp hc with rfl | q
     ·exact ea
     ·exact fD c q
    ·rw[jw,mF,n6,l1]
     simp only[fA,List.cons_append]
def w7(N:Nat)(bz:D->Bool):Prop:=∀ s,Good s->s.length<=N->la s->bz (iW s)=ag
theorem Ry{s:List Int}(aj:∀ y∈s.take 1,-(2 ^ 255)<y/\y<2 ^ 255 - 1)(ar:uC (s.drop 1)):la s:=⟨aj,fun y bM=>by
 obtain⟨a,b⟩:=ar y bM
 exact⟨by omega,by omega⟩⟩
theorem Ru{N:Nat}{bz:D->Bool}(bU:w7 N bz)(k:Fin 4){d:D}{s r:List Bool}(h:sY N ah k s = .ok d r):A2 bz k d=ag/\s=A3 ez k d++r:=by
 rcases q3 k with rfl | rfl | rfl | rfl
 ·injection h with aG aL
  subst aG aL
  exact⟨I,I⟩
 ·obtain⟨b,s1,aj,h⟩:=eF (show (eQ ah ah s).bd _=_ from h)
  injection h with aG aL
  subst aG aL
  exact⟨I,oH aj⟩
 ·obtain⟨b,s1,aj,h⟩:=eF (show (l3 ah s).bd _=_ from h)
  injection h with aG aL
  subst aG aL
  obtain⟨a1,a2⟩:=JL aj
  exact⟨ek a1,a2⟩
 ·obtain⟨b,s1,aj,h⟩:=eF (show (nO N ah s).bd _=_ from h)
  injection h with aG aL
  subst aG aL
  obtain⟨a1,a2,a3,a4,a5⟩:=Sn aj
  exact⟨bU b a1 a2 (Ry a4 a5),by show s=ez (iW b)++s1;unfold iW;rw[Wu a1];exact a3⟩
theorem RY{g:List Bool->R D}{fit:D->Bool}{row:D->List Bool}(aK:∀ s d r,g s = .ok d r->fit d=ag/\s=row d++r)(k:Fin 3){d:D}{s r:List Bool}(h:tM ah k g s = .ok d r):HN k fit d=ag/\s=B8 k row d++r:=by
 rcases pR k with rfl | rfl | rfl
 ·obtain⟨b,s1,aj,h⟩:=eF (show (eQ ah ah s).bd _=_ from h)
  rw[oH aj]
  cases b with
  | true =>
   obtain⟨x,s2,ar,h⟩:=eF (show (g s1).bd _=_ from h)
   injection h with aG aL
   subst aG aL
   obtain⟨a1,a2⟩:=aK _ _ _ ar
   exact⟨a1,by rw[a2];rfl⟩
  | false =>
   injection h with aG aL
   subst aG aL
   exact⟨I,I⟩
 ·obtain⟨ds,s1,aj,h⟩:=eF (show (je ah g 61 [] s).bd _=_ from h)
  injection h with aG aL
  subst aG aL
  obtain⟨cs,e5,gh,fD,l1⟩:=LI aK (UF _) aj
  rw[List.nil_append] at e5
  subst e5
  refine⟨mD.mpr ⟨ek gh,iD.mpr fD⟩,?_⟩
  show s=(_++[ah])++_
  rw[fA];exact l1
 ·obtain⟨a1,a2⟩:=aK _ _ _ (sT (show R.cH (g (s.map (!·)))=_ from h))
  refine⟨a1,?_⟩
  have:=congrArg (List.map (!·)) a2
  rw[nn,fz,nn] at this
  exact this
mutual
theorem xB{N:Nat}{bz:D->Bool}(bU:w7 N bz):∀ (f:bN) {d:D} {s r:List Bool},gj f->cZ N ah f s = .ok d r->cO bz f d=ag/\s=cB ez f d++r
 | .bare k,d,s,r,_,h=>by
  rw[cZ] at h
  rw[cO,cB]
  exact Ru bU k h
 | .sp a b,d,s,r,hk,h=>by
  rw[gj] at hk
  rw[cZ] at h
  rw[cO,cB]
  obtain⟨n,s1,aj,h⟩:=eF h
  injection h with aG aL
  subst aG aL
  obtain⟨ea,eg,n6⟩:=AV (UF _) aj
  refine⟨ek (by omega),?_⟩
  show s=d4 (a+((n:Nat):Int) - a).toNat _++_
  rw[show (a+((n:Nat):Int) - a).toNat=n by omega];exact n6
 | .le bg,d,s,r,hk,h=>by
  rw[gj] at hk
  rw[cZ] at h
  rw[cO,cB]
  obtain⟨v,s1,aj,h⟩:=eF h
  injection h with aG aL
  subst aG aL
  obtain⟨cs,e5,gh,fD,l1⟩:=L7 hk.1 (UF _) aj
  rw[List.nil_append] at e5
  subst e5
  refine⟨mD.mpr ⟨ek (by show v.toArray.size<=200;rw[fY];exact gh),iD.mpr fun c hc=>ek (fD c hc)⟩,?_⟩
  show s=(_++[ah])++_
  rw[fA];exact l1
 | .one k f,d,s,r,hk,h=>by
  rw[gj] at hk
  rw[cZ] at h
  rw[cO,cB]
  exact RY (fun s d r h=>xB bU f hk h) k h
 | .two k ns fs,d,s,r,hk,h=>by
  rw[gj] at hk
  obtain⟨fG,cG,qa⟩:=hk
  rw[cZ] at h
  rw[cO,cB]
  by_cases z:k=0
  ·rw[if_pos z] at h ⊢
   rw[if_pos z]
   obtain⟨ds,s1,aj,h⟩:=eF h
   injection h with aG aL
   subst aG aL
   exact JF bU fs qa aj
  ·rw[if_neg z] at h ⊢
   rw[if_neg z]
   obtain⟨i,s1,aj,h⟩:=eF h
   obtain⟨x,s2,ar,h⟩:=eF h
   injection h with aG aL
   subst aG aL
   obtain⟨ea,eg,n6⟩:=AV (UF _) aj
   have aaV:0<fs.length:=by
    cases fs with
    | nil=>rw[gY] at ar;cases ar
    | cons f fs=>simp
   have aB:i<ns.length:=by omega
   obtain⟨a1,a2⟩:=JH bU fs i qa (by omega) ar
   have gP:ns[i]?=J (ns.getD i af.empty):=by rw[e9,dm aB];rfl
   have ri:ns.getD i af.empty∈ns:=jy gP
   have oT:=xa fG gP
   constructor
   ·show lu bz fs ns (ns.getD i af.empty) x=ag
    rw[vd fs ns _ ri cG,oT];exact a1
   ·show s=ql ez fs ns 0 (fs.length - 1) (ns.getD i af.empty) x++s2
    rw[xk fs ns 0 _ ri cG,oT,Nat.zero_add,fA,<- a2];exact n6
theorem JF{N:Nat}{bz:D->Bool}(bU:w7 N bz):∀ (fs:List bN) {ds:List D} {s r:List Bool},gX fs->hf N ah fs s = .ok ds r->eZ bz fs ds=ag/\s=fW ez fs ds++r
 | [],ds,s,r,_,h=>by
  rw[hf] at h
  injection h with aG aL
  subst aG aL
  rw[eZ,fW];exact⟨I,I⟩
 | f::fs,ds,s,r,hk,h=>by
  rw[gX] at hk
  rw[hf] at h
  obtain⟨d,s1,aj,h⟩:=eF h
  obtain⟨aV,s2,ar,h⟩:=eF h
  injection h with aG aL
  subst aG aL
  obtain⟨a1,a2⟩:=xB bU f hk.1 aj
  obtain⟨gp,fC⟩:=JF bU fs hk.2 ar
  rw[eZ,fW]
  refine⟨mD.mpr ⟨a1,gp⟩,?_⟩
  show s=(cB ez f d++fW ez fs aV)++s2
  rw[fA,<- fC];exact a2
theorem JH{N:Nat}{bz:D->Bool}(bU:w7 N bz):∀ (fs:List bN) (i:Nat) {d:D} {s r:List Bool},gX fs->i<fs.length->gY N ah fs i s = .ok d r->cO bz (fs.getD i (.bare 0)) d=ag/\s=cB ez (fs.getD i (.bare 0)) d++r
 | [],i,d,s,r,_,h,_=>absurd h (by simp)
 | f::fs,0,d,s,r,hk,_,h=>by
  rw[gX] at hk
  rw[gY] at h
  exact xB bU f hk.1 h
 | f::fs,i+1,d,s,r,hk,aB,h=>by
  rw[gX] at hk
  rw[gY] at h
  exact JH bU fs i hk.2 (by simpa using aB) h
end
mutual
noncomputable def c0:bN->Nat
 | .bare _=>1
 | .sp _ _=>1
 | .le _=>1
 | .one _ f=>c0 f+1
 | .two _ _ fs=>hM fs+1
noncomputable def hM:List bN->Nat
 | []=>0
 | f::fs=>c0 f+hM fs
end
theorem c3.loop{α:Type}{B:Nat}{fx:List Bool->R α}{d6:Bool->List Bool->R α}{a:α}{G0:List Bool->R α}{G1:Bool->List Bool->R α}(h:c3 B G0 G1)(xP:1<=B)
  (eL:∀ s,fx s=(eQ ah ah s).bd fun b s=>if b=ag then G0 s else .ok a s) (aG:∀ e s,d6 e s=(eQ e ah s).bd fun b s=>if b=ag then G1 e s else .ok a s):c3 B fx d6:=by
 refine⟨fun s b r q e=>?_,fun s k q e=>?_,fun s k q=>?_⟩
 ·rw[eL] at q
  rw[aG]
  cases s with
  | nil=>cases q
  | cons c s =>
   cases c with
   | true=>exact h.ok s _ _ q e
   | false=>exact q
 ·rw[eL] at q
  rw[aG]
  cases s with
  | nil=>cases q
  | cons c s =>
   cases c with
   | true=>exact h.wr s _ q e
   | false=>cases q
 ·rw[eL] at q
  cases s with
  | nil=>exact⟨a,[ah],by rw[aG];rfl,by rw[aG];rfl,xP⟩
  | cons c s =>
   cases c with
   | true =>
    obtain⟨x,y,aj,ar,bB⟩:=h.lI s _ q
    exact⟨x,y,by rw[aG];exact aj,by rw[aG];exact ar,bB⟩
   | false=>cases q
theorem c3.stuck{α:Type}{B:Nat}{d6:Bool->List Bool->R α}:c3 B (fun _=>(R.st:R α)) d6:=⟨fun s b r h e=>(nomatch h),fun s k h=>(nomatch h),fun s k h=>(nomatch h)⟩
theorem E7{bg:af}(h:bg.length<=60):aZ (bg.length - 1)<=6:=hn (w:=6) (by omega)
theorem LL{bg:af}(hs:bg.length<=60):∀ m w,w.length+m=201->c3 10 (jX ah bg m w) (fun e=>jX e bg m w)
 | 0,w,_=>c3.stuck
 | m+1,w,h=>c3.loop (a:=w) (G0:=fun s=>if w.length=200 then .no ag s.length else (gi ah (bg.length - 1) (aZ (bg.length - 1)) 0 s).bd fun i s=>jX ah bg m (w++[bg.cps.toList.getD i 0]) s) (G1:=fun e s=>if w.length=200 then .no ag s.length else (gi e (bg.length - 1) (aZ (bg.length - 1)) 0 s).bd fun i s=>jX e bg m (w++[bg.cps.toList.getD i 0]) s) (c3.ite (fun _=>c3.rU.le (by omega)) fun c=>by
   obtain⟨k,rfl⟩:∃ k,m=k+1:=⟨m - 1,by omega⟩
   exact(xv _ _ 0 (UF _)).FL (Pa:=fun _=>True) (G0:=fun i s=>jX ah bg (k+1) (w++[bg.cps.toList.getD i 0]) s) (G1:=fun i e s=>jX e bg (k+1) (w++[bg.cps.toList.getD i 0]) s) (sN _ _ _) (fun _ _ _ _ _=>trivial) (fun i _=>LL hs (k+1) _ (by rw[dI,iC];omega)) (fun i _ => .inl I) (fun i _ _ _=>⟨_,[ah],I,I,by have:=E7 hs;show _+1<=10;omega⟩) (cx _) (by have:=E7 hs;omega)) (by omega) (fun s=>rfl) (fun e s=>rfl)
theorem Ln{B:Nat}{pV:List Bool->R D}{g1:Bool->List Bool->R D}(aK:c3 B pV g1)(hm:cb (g1 ah)):∀ m w,w.length+m=61->c3 (B+1) (je ah pV m w) (fun e=>je e (g1 e) m w)
 | 0,w,_=>c3.stuck
 | m+1,w,h=>c3.loop (a:=w) (G0:=fun s=>if w.length=60 then .no ag s.length else (pV s).bd fun d s=>je ah pV m (w++[d]) s) (G1:=fun e s=>if w.length=60 then .no ag s.length else (g1 e s).bd fun d s=>je e (g1 e) m (w++[d]) s) (c3.ite (fun _=>c3.rU.le (by omega)) fun c=>by
   obtain⟨k,rfl⟩:∃ k,m=k+1:=⟨m - 1,by omega⟩
   exact aK.FL (Pa:=fun _=>True) (G0:=fun d s=>je ah pV (k+1) (w++[d]) s) (G1:=fun d e s=>je e (g1 e) (k+1) (w++[d]) s) hm (fun _ _ _ _ _=>trivial) (fun i _=>Ln aK hm (k+1) _ (by rw[dI,iC];omega)) (fun i _ => .inl I) (fun i _ _ _=>⟨_,[ah],I,I,cx _⟩) (cx _) (by omega)) (by omega) (fun s=>rfl) (fun e s=>rfl)
theorem Xs(N:Nat)(k:Fin 4):gT (sY N ah k):=by
 rcases q3 k with rfl | rfl | rfl | rfl<;>first | exact .inl I | exact .inr ⟨_,I⟩
theorem Xu{N:Nat}(bU:1<=N)(k:Fin 4):c3 560 (sY N ah k) (fun e=>sY (N+2) e k):=by
 rcases q3 k with rfl | rfl | rfl | rfl
 ·exact(c3.pure (D.bL)).le (by omega)
 ·exact((A1 ah).map D.aH (lZ ah)).le (by omega)
 ·exact(Mm.map D.int A7).le (by omega)
 ·exact((Rl bU).map iW (Lo _)).le (by omega)
theorem XT(k:Fin 3){g:List Bool->R D}(aK:gT g):gT (tM ah k g):=by
 rcases pR k with rfl | rfl | rfl
 ·exact .inl I
 ·exact .inl I
 ·rcases aK with h | ⟨a,h⟩
  ·exact .inl (by show (g []).cH=_;rw[h];rfl)
  ·exact .inr ⟨a,by show (g []).cH=_;rw[h];rfl⟩
theorem XV{B:Nat}{pV:List Bool->R D}{g1:Bool->List Bool->R D}(k:Fin 3)(aK:c3 B pV g1)(hm:cb (g1 ah)):c3 (B+2) (tM ah k pV) (fun e=>tM e k (g1 e)):=by
 rcases pR k with rfl | rfl | rfl
 ·exact c3.loop (a:=D.tup []) (G0:=fun s=>(pV s).bd fun d s => .ok (.tup [d]) s) (G1:=fun e s=>(g1 e s).bd fun d s => .ok (.tup [d]) s) ((aK.map (fun d=>D.tup [d]) hm).le (by omega)) (by omega) (fun s=>I) (fun e s=>I)
 ·exact((Ln aK hm 61 [] I).map D.lst (E0 hm 61 [])).le (by omega)
 ·exact aK.cH.le (by omega)
theorem gT.of{α:Type}{F G:List Bool->R α}(h:gT G)(e:F []=G []):gT F:=by unfold gT at h ⊢;rw[e];exact h
mutual
theorem Fq(N:Nat):∀ f:bN,gj f->gT (cZ N ah f)
 | .bare k,_=>gT.of (Xs N k) (by rw[cZ])
 | .sp a b,_=>gT.of ((Fi (b - a).toNat (aZ (b - a).toNat) 0).bd fun n _ => .inr ⟨D.int (a+((n:Nat):Int)),rfl⟩) (by rw[cZ])
 | .le bg,_ => .inl (by rw[cZ];rfl)
 | .one k f,h=>by
  rw[gj] at h
  exact gT.of (XT k (Fq N f h)) (by rw[cZ])
 | .two k ns fs,h=>by
  rw[gj] at h
  rcases vC k with rfl | rfl
  ·exact gT.of ((Fs N fs h.2.2).bd fun ds _ => .inr ⟨D.tup ds,I⟩) (by rw[cZ,if_pos rfl])
  ·have bu:0<fs.length:=by
    have fG:=h.1
    unfold jZ at fG
    simp only[h7,jQ] at fG
    omega
   exact gT.of ((Fi (fs.length - 1) (aZ (fs.length - 1)) 0).bd fun i aB=>(Ft N fs i h.2.2 (by have:=xu (UF _) aB;omega)).bd fun d _ => .inr ⟨D.tup [.str (ns.getD i af.empty),d],I⟩) (by rw[cZ,if_neg (by decide)])
theorem Fs(N:Nat):∀ fs:List bN,gX fs->gT (hf N ah fs)
 | [],_ => .inr ⟨[],by rw[hf]⟩
 | f::fs,h=>by
  rw[gX] at h
  exact gT.of ((Fq N f h.1).bd fun d _=>(Fs N fs h.2).bd fun ds _ => .inr ⟨d::ds,I⟩) (by rw[hf])
theorem Ft(N:Nat):∀ (fs:List bN) (i:Nat),gX fs->i<fs.length->gT (gY N ah fs i)
 | [],i,_,h=>absurd h (by simp)
 | f::fs,0,h,_=>by
  rw[gX] at h
  exact gT.of (Fq N f h.1) (by rw[gY])
 | f::fs,i+1,h,aB=>by
  rw[gX] at h
  exact gT.of (Ft N fs i h.2 (by simpa using aB)) (by rw[gY])
end
mutual
theorem AQ{N:Nat}(bU:1<=N):∀ f:bN,gj f->c3 (560*c0 f) (cZ N ah f) (fun e=>cZ (N+2) e f)
 | .bare k,_=>((Xu bU k).of (fun s=>by rw[cZ]) fun b s=>by rw[cZ]).le (by rw[c0];omega)
 | .sp a b,h=>by
  rw[gj] at h
  have aq:aZ (b - a).toNat<=200:=hn (w:=200) (by omega)
  exact(((xv (b - a).toNat (aZ (b - a).toNat) 0 (UF _)).map (fun n=>D.int (a+((n:Nat):Int))) (sN _ _ _)).of (fun s=>by rw[cZ]) fun b s=>by rw[cZ]).le (by rw[c0];omega)
 | .le bg,h=>by
  rw[gj] at h
  exact(((LL h.2 201 [] I).map (fun w=>D.str ⟨w.toArray⟩) (Fh bg _ _)).of (fun s=>by rw[cZ]) fun b s=>by rw[cZ]).le (by rw[c0];omega)
 | .one k f,h=>by
  rw[gj] at h
  exact((XV k (AQ bU f h) (sQ _ f)).of (fun s=>by rw[cZ]) fun b s=>by rw[cZ]).le (by rw[c0];omega)
 | .two k ns fs,h=>by
  rw[gj] at h
  obtain⟨fG,cG,qa⟩:=h
  have vF:=(nI fG).1
  have aq:aZ (fs.length - 1)<=5:=hn (w:=5) (by omega)
  have bu:0<fs.length:=by
   unfold jZ at fG
   simp only[h7,jQ] at fG
   omega
  rcases vC k with rfl | rfl
  ·exact(((LX bU fs qa).map D.tup (AR _ fs)).of (fun s=>by rw[cZ,if_pos rfl]) fun b s=>by rw[cZ,if_pos rfl]).le (by rw[c0];omega)
  ·exact(((xv (fs.length - 1) (aZ (fs.length - 1)) 0 (UF _)).bd (Pa:=fun i=>i<fs.length) (B':=560*hM fs) (G0:=fun i s=>(gY N ah fs i s).bd fun d s => .ok (D.tup [.str (ns.getD i af.empty),d]) s) (G1:=fun i e s=>(gY (N+2) e fs i s).bd fun d s => .ok (D.tup [.str (ns.getD i af.empty),d]) s) (sN _ _ _) (fun e i s r aB=>by have:=xu (UF _) aB;omega) (fun i aB=>(LY bU fs i qa aB).map (fun d=>D.tup [.str (ns.getD i af.empty),d]) (Fu _ fs i)) fun i aB=>(Ft N fs i qa aB).bd fun d _ => .inr ⟨_,rfl⟩).of (fun s=>by rw[cZ,if_neg (by decide)]) fun b s=>by rw[cZ,if_neg (by decide)]).le (by rw[c0];omega)
theorem LX{N:Nat}(bU:1<=N):∀ fs:List bN,gX fs->c3 (560*hM fs) (hf N ah fs) (fun e=>hf (N+2) e fs)
 | [],_=>((c3.pure ([]:List D)).of (fun s=>by rw[hf]) fun b s=>by rw[hf]).le (by omega)
 | f::fs,h=>by
  rw[gX] at h
  exact(((AQ bU f h.1).bd (Pa:=fun _=>True) (B':=560*hM fs) (G0:=fun d s=>(hf N ah fs s).bd fun ds s => .ok (d::ds) s) (G1:=fun d e s=>(hf (N+2) e fs s).bd fun ds s => .ok (d::ds) s) (sQ _ f) (fun _ _ _ _ _=>trivial) (fun d _=>(LX bU fs h.2).map (fun ds=>d::ds) (AR _ fs)) fun d _=>(Fs N fs h.2).bd fun ds _ => .inr ⟨_,I⟩).of (fun s=>by rw[hf]) fun b s=>by rw[hf]).le (by rw[hM];omega)
theorem LY{N:Nat}(bU:1<=N):∀ (fs:List bN) (i:Nat),gX fs->i<fs.length->c3 (560*hM fs) (gY N ah fs i) (fun e=>gY (N+2) e fs i)
 | [],i,_,h=>absurd h (by simp)
 | f::fs,0,h,_=>by
  rw[gX] at h
  exact((AQ bU f h.1).of (fun s=>by rw[gY]) fun b s=>by rw[gY]).le (by rw[hM];omega)
 | f::fs,i+1,h,aB=>by
  rw[gX] at h
  exact((LY bU fs i h.2 (by simpa using aB)).of (fun s=>by rw[gY]) fun b s=>by rw[gY]).le (by rw[hM];omega)
end
theorem b4.draw{c:eu}{X:List ae}{H:au}(f:bN){o:ae}(h:b4 c X H f o):∃ al fs,H o=J (.ins (fE c (slot f)) al fs)/\fs.lookup (af.ofString "draw")=aw :=
 b4.ins (m:=af.ofString "draw") (by decide +kernel) (by decide +kernel) (by decide +kernel) (by decide +kernel) (by decide +kernel) (by decide +kernel) f h
theorem b3.alloc{p:ae}{H H':au}{o:cv}{X:gc}(m:b3 p H H')(e:H' p=J o)(h:∀ x,x∈X->∃ o,H x=J o):∀ x,x∈X->∃ o,H' x=J o:=fun x ay=>by
 by_cases z:x=p
 ·exact⟨o,by rw[z];exact e⟩
 ·obtain⟨u,dN⟩:=h x ay
  exact⟨u,m.k x u z dN⟩
theorem b4.kp{c:eu}{p:ae}{H H':au}(m:b3 p H H')(f:bN){o:ae}(h:b4 c [p] H f o):b4 c [p] H' f o:=b4.keep (fun b u n e=>m.k b u (fun z=>n (fy.mpr z)) e) f h
theorem b3.step{p C al:ae}{H:au}{l:List Bool}{j j':Nat}{t e t' e':Bool}(h:H p=J (gZ C al l j t e)):b3 p H (upd H p (gZ C al l j' t' e')):=b3.move h
theorem b3.H3{p lv:ae}{H H1:au}{vs ws:List V}(bu:H lv=aw)(m:b3 p H H1)(aj:H1 lv=J (.lst vs)):b3 p H (upd H1 lv (.lst ws)) :=
 ⟨fun b u n e=>by rw[bJ (fun z=>by rw[z,bu] at e;cases e)];exact m.k b u n e,fun cl=>Aq aj (m.c cl)⟩
abbrev hW(X:gc)(d:D)(H:au)(v:V):Prop:=dK X H d v
inductive OD(aN:Bool->ae)(N:Nat)(C:ae)(vs:List V)(H:au)(Q:bx)(E:bP):Prop where
 |mk (p al:ae) (l:List Bool) (i:Nat) (t e:Bool) (X:gc) (bu:vs=[.ref p]) (aj:H p=J (gZ C al l i t e)) (ar:l.length<=16000000) (bB:i<=l.length) (b0:N<=1000) (eB:(∀ x,x∈X->∃ o,H x=J o)) (kN:cK (hW X) aN C p al l t e H Q E ((nO N e (sees l t i)).bd fun st s => .ok (iW st) s)):OD aN N C vs H Q E
def H9(aN:Bool->ae)(N:Nat)(C:ae):b5:=fun vs H Q E=>OD aN N C vs H Q E
noncomputable def oA{α:Type}(b:Bool)(r:R α):R α:=if b=ag then r.cH else r
theorem S9{α:Type}(b:Bool)(r:R α):oA b r.cH=oA (!b) r:=by
 cases b
 ·rfl
 ·show r.cH.cH=r
  cases r with
  | ok a s=>show R.ok a _=_;rw[nn]
  | no w k=>rfl
  | st=>rfl
theorem cK.Mb{α β CN:Type}{g:CN->au->V->Prop}{g':α->au->V->Prop}{aN:Bool->ae}{C p al:ae}{l:List Bool}{t e:Bool}{H ax:au}{Q fX:bx}{E:bP}{F:R α}{G:α->List Bool->R β}{W:β->List Bool->R CN}(b:Bool)(h:cK g aN C p al l t e H Q E ((oA b (F.bd G)).bd W))(M:b3 p H ax)
  (k:∀ a s v bt j,F = .ok a s->b3 p ax bt->g' a bt v->j<=l.length->sees l (xor t b) j=s->bt p=J (gZ C al l j (xor t b) e)->cK g aN C p al l t e H Q E ((oA b (G a s)).bd W)->fX v bt):cK g' aN C p al l (xor t b) e ax fX (lr H E) F:=by
 cases F with
 | ok a s=>exact fun v bt j cw aK cy hs b7=>k a s v bt j I cw aK cy hs b7 h
 | no w n=>cases b<;>exact iP.up h M
 | st=>cases b<;>exact h
theorem AO(t b:Bool):(!(xor t b))=xor t (!b):=by cases t<;>cases b<;>rfl
theorem WB{s:List Int}{x:Int}:eH ((s++[x]).map V.int) (-1)=J (.int x):=by
 rw[EI (by simp)];simp
set_option maxHeartbeats 2000000 in
theorem TP{f C:ae}{aN:Bool->ae}{N:Nat}{fd:fu}(nb:dV mg)(e6:fe K C)(F:dF K mg "draw_fraction" Dl ["source"] f fd)(gI:jb P w K mg base 3 C "draw" ["self"] (og aN C))(k7:lS P w K mg base 1 C "turn" ["self"] (yT C))(zv:lS P w K mg base 1 C "wish" ["self","sign"] (Pt C))(k6:jb P w K mg base 3 C "refuse" ["self"] (wo aN C))(qw:gH P w K mg base 6 "draw_whole" ["source"] (Co aN C))(r7:gH P w K mg base 5 "draw_count" ["source"] (H6 aN C))
  (ur:bK P w K mg base 1 "are_steps" ["steps"] H5) (CV:bK P w K mg base 2 "fraction_of" ["steps"] OE):gH P w K mg base 7 "draw_fraction" ["source"] (H9 aN N C):=by
 refine F.iz JU (fun bb A outer s H vs Q E az h=>?_)
 obtain⟨p,al,l,i,t,e,X,rfl,bh,aC,aB,bU,du,q⟩:=h
 refine⟨_,(aP (bV 1 JU.br (fU (av (kH qw az gs.x (av (ai 0) aA)) aA)))
  (aP (qH i9.leaving (cm dd (lY gI e6 az gs.x (ai 0)) aD)
   (aP (h9 (sk k7 e6 az (ai 0)))
   (aP (h9 (EM zv e6 az (ai 0) (av aD aA)))
   (aP (h9 (jP PySem.F.plainAttrs_list PySem.F.slot_list_append PySem.F.type_list_append sl (ai 1) (av (aQ eh (kH r7 az gs.x (av (ai 0) aA)) aD) aA)))
   (aT (cR (cm dd (cN cP (ai 1) (lj k3 aD)) aD) (aT (h9 (EM zv e6 az (ai 0) (av aD aA)))) cQ))))))
  (aP (cR (iS (g8 (cq ur az (av (ai 1) aA)))) (aT (h9 (lY k6 e6 az gs.x (ai 0)))) cQ)
  (aP (cR (cm dd (aQ dM (cj d8 rfl nb.dZ d3 (av (ai 1) aA)) aD) aD) (aT (h9 (sk k7 e6 az (ai 0)))) cQ)
  (aT (bG (cq CV az (av (ai 1) aA)))))))),?_⟩
 try dsimp only[cS,cT,cU,cV]
 unfold nO at q
 rw[pK] at q
 refine⟨_,I,p,al,l,i,t,e,I,bh,aC,aB,cK.call q (b3.refl _ _) fun a s v H1 vW ba g5 bl G6 eR nW q=>⟨(by show 1<=bT;decide),fun r fq=>?_⟩⟩
 subst bl eR
 have abN:H r=aw:=g5.free nW fq
 have tr:p≠r:=fun z=>by rw[<- z,nW] at fq;cases fq
 obtain⟨W,oQ⟩:∃ W:List Int->List Bool->R D,W=fun st s=>(if hX st=ag then R.ok st s else .no ag s.length).bd fun st s => .ok (iW st) s:=⟨_,rfl⟩
 rw[pK,<- oQ] at q
 refine⟨fun m ab ax=>∃ (st:List Int) (aa:Nat) (b u:Bool),m+st.length=N+1/\st≠[]/\ab=[J (.ref p),J (.ref r)]/\b3 p H ax/\ax r=J (.lst (st.map V.int))/\ax p=J (o3 C al l aa (xor t b) e (bi u))/\aa<=l.length/\b=decide (st.length%2=0)/\(∀ x∈st,x.natAbs<2 ^ 1000)/\cK (hW X) aN C p al l t e H Q E ((oA b (eA e m u st (sees l (xor t b) aa))).bd W),⟨N,[a],vW,ah,ah,I,mE _ _,I,g5.ext (Ext.lst fq),aM,?_,G6,I,?_,?_⟩,?_⟩
 ·rw[bJ tr,nW];cases t<;>rfl
 ·intro x ay
  rw[fy.mp ay]
  exact Nat.lt_of_le_of_lt (S4 ba) (Nat.pow_lt_pow_right (by decide) (by decide))
 ·rw[show (xor t ah)=t by cases t<;>rfl];exact q
 rintro m ab ax ⟨st,aa,b,u,hm,n1,rfl,M,ts,b7,ef,aq,f7,q⟩
 cases m with
 | zero=>exact absurd q (by cases b<;>exact id)
 | succ m =>
 refine⟨_,I,p,al,_,I,b7,pJ,p,al,l,aa,_,e,u,I,b7,aC,ef,cK.Mb b q M fun YC s v bt dG _ cw bl f5 hH dJ q=>?_⟩
 have cG:=w6 f5 hH
 subst bl hH
 refine⟨I,_,I,?_⟩
 have ts:=cw.k _ _ (d2 tr) ts
 have cw:=M.trans cw
 cases YC with
 | true =>
  refine jl I ⟨fun bQ H'=>∃ b1,b1<m+1/\∃ (st:List Int) (aa:Nat) (b u:Bool),b1+st.length=N+1/\st≠[]/\bQ=[J (.ref p),J (.ref r)]/\b3 p H H'/\H' r=J (.lst (st.map V.int))/\H' p=J (o3 C al l aa (xor t b) e (bi u))/\aa<=l.length/\b=decide (st.length%2=0)/\(∀ x∈st,x.natAbs<2 ^ 1000)/\cK (hW X) aN C p al l t e H Q E ((oA b (eA e b1 u st (sees l (xor t b) aa))).bd W),fun _ _ h=>h,?_⟩
  have q:cK (hW X) aN C p al l t e H Q E ((oA b ((e7 e ag ((sees l (xor t b) dG).map (!·))).bd fun n s=>eA e m (n == 0) (st++[((n:Nat):Int)+1]) s).cH).bd W):=q
  rw[S9,<- vb,AO] at q
  refine⟨_,I,p,al,_,I,dJ,vi,p,al,l,_,_,_,_,I,dJ,?_⟩
  rw[AO]
  have fl:b3 p H (upd bt p (gZ C al l dG (xor t (!b)) e)):=cw.trans (b3.move dJ)
  refine⟨_,I,p,al,_,I,aM,LD,p,al,bw l,_,xor t (!b),e,0,1,I,aM,?_⟩
  rw[h8]
  have k5:b3 p H (upd bt p (o3 C al l dG (xor t (!b)) e 1)):=cw.trans (b3.move dJ)
  have Nt:upd bt p (o3 C al l dG (xor t (!b)) e 1) r=J (.lst (st.map V.int)):=by rw[bJ (d2 tr)];exact ts
  refine⟨_,I,.inl ⟨I,_,bX Nt⟩,_,I,p,al,l,dG,xor t (!b),e,ag,I,aM,aC,f5,cK.Mb (!b) q k5 fun n s v e3 Hq bc qF bl abc BL aaz q=>?_⟩
  subst bl BL
  have Nu:=qF.k _ _ (d2 tr) Nt
  have qF:=k5.trans qF
  refine .inl ⟨_,_,I,I,r,_,_,I,I,Nu,(by rw[mV];exact fi (show st.length<100001 by omega) (wk (by decide))),?_⟩
  have nQ:st.map V.int++[V.int (((n:Nat):Int)+1)]=(st++[((n:Nat):Int)+1]).map V.int:=by rw[fz];rfl
  dsimp only
  rw[nQ]
  have Jh:=b3.H3 (ws:=(st++[((n:Nat):Int)+1]).map V.int) abN qF Nu
  have Br:upd e3 r (.lst ((st++[((n:Nat):Int)+1]).map V.int)) p=J (gZ C al l Hq (xor t (!b)) e):=by rw[bJ tr];exact aaz
  have iZ:(!b)=decide ((st++[((n:Nat):Int)+1]).length%2=0):=by
   rw[aq,dI,iC]
   by_cases z:st.length%2=0
   ·rw[ek z,gM (by omega)];rfl
   ·rw[gM z,ek (by omega)];rfl
  have abX:∀ x∈st++[((n:Nat):Int)+1],x.natAbs<2 ^ 1000:=fun x ay=>by
   rcases List.mem_append.mp ay with z | z
   ·exact f7 x z
   ·rw[fy.mp z]
    have:=Fl bc
    exact Nat.lt_of_le_of_lt (m:=2 ^ 255) (by omega) (Nat.pow_lt_pow_right (by decide) (by decide))
  have MC:∀ (u:Bool) (mz:au),u=(n == 0)->b3 p H mz->mz r=J (.lst ((st++[((n:Nat):Int)+1]).map V.int))->mz p=J (o3 C al l Hq (xor t (!b)) e (bi u))->∃ b1,b1<m+1/\∃ (st:List Int) (aa:Nat) (b u:Bool),b1+st.length=N+1/\st≠[]/\[J (V.ref p),J (V.ref r)]=[J (.ref p),J (.ref r)]/\b3 p H mz/\mz r=J (.lst (st.map V.int))/\mz p=J (o3 C al l aa (xor t b) e (bi u))/\aa<=l.length/\b=decide (st.length%2=0)/\(∀ x∈st,x.natAbs<2 ^ 1000)/\cK (hW X) aN C p al l t e H Q E ((oA b (eA e b1 u st (sees l (xor t b) aa))).bd W):=fun u mz dN Q2 abM aaA =>
   ⟨m,by omega,st++[((n:Nat):Int)+1],Hq,!b,u,by rw[dI,iC];omega,by simp,rfl,Q2,abM,aaA,abc,iZ,abX,by rw[dN];exact q⟩
  refine⟨_,I,_,I,.inl (.inl ⟨_,_,_,_,I,I,bX aM,WB,I,_,I,?_⟩)⟩
  refine e0 (fun c=>?_) (fun c=>?_)
  ·have ma:n=0:=by have:=V.int.inj c;omega
   refine⟨_,I,p,al,_,I,Br,LD,p,al,bw l,_,xor t (!b),e,0,1,I,Br,?_⟩
   exact MC ag _ (by rw[ma];rfl) (Jh.trans (b3.move Br)) (by rw[bJ (d2 tr)];exact aM) aM
  ·have ma:n≠0:=fun z=>c (by rw[z];rfl)
   exact MC ah _ (by rw[beq_false_of_ne ma]) Jh aM Br
 | false =>
  refine gC (by decide) ?_
  have q:cK (hW X) aN C p al l t e H Q E ((oA b (.ok st (sees l (xor t b) dG))).bd W):=q
  have Y1:oA b (R.ok st (sees l (xor t b) dG)) = .ok st (sees l t dG):=by
   cases b with
   | false=>rw[show (xor t ah)=t by cases t<;>rfl];rfl
   | true =>
    show R.ok st ((sees l (xor t ag) dG).map (!·))=_
    rw[<- vb,AO,show (xor t (!ag))=t by cases t<;>rfl]
  rw[Y1,oQ] at q
  have q:cK (hW X) aN C p al l t e H Q E ((if hX st=ag then R.ok st (sees l t dG) else .no ag (sees l t dG).length).bd fun st s => .ok (iW st) s):=q
  have i2:(sees l t dG).length=(sees l (xor t b) dG).length:=by unfold sees;rw[nF,nF,cM,cM]
  refine⟨_,I,r,st,I,ts,by omega,_,rfl,?_⟩
  cases aK:hX st with
  | false =>
   rw[if_neg (by rw[aK];decide)] at q
   have q:iP E p H (aN ag) (kK l ag (sees l t dG).length):=q
   unfold kK at q
   rw[if_pos rfl,i2,cG.1] at q
   exact gD ⟨_,I,p,al,_,I,dJ,Aw,p,al,l,dG,_,e,I,dJ,by omega,q.up cw⟩
  | true =>
   rw[if_pos aK] at q
   refine eb ⟨_,I,_,_,I,.inl ⟨_,bX ts,I⟩,_,_,I,I,(by show (0:Int)<2;decide),I,_,I,?_⟩
   rw[mV]
   have Nf:=(u7 st).mp aK
   have cF:∀ {g0:au},b3 p H g0->g0 p=J (gZ C al l dG t e)->∀ el,g0 el=aw->∃ bY,Sub H bY (upd g0 el (.tup [.int (cC st).1,.int (cC st).2]))/\Q (.ref el) bY:=fun {g0} fl iX el Nr=>by
    have fQ:=Ext.tup (xs:=[.int (cC st).1,.int (cC st).2]) Nr
    have fresh:el∉X:=fun z=>by
     obtain⟨N0,eJ⟩:=b3.alloc fl iX du _ z
     rw[Nr] at eJ;cases eJ
    exact⟨_,(fl.ext fQ).sub (fQ.s _ _ iX),q _ _ dG (fl.ext fQ) ⟨el,[.int (cC st).1,.int (cC st).2],I,fresh,aM,⟨.int (cC st).1,[.int (cC st).2],I,I,⟨.int (cC st).2,[],I,I,I⟩⟩,by simp⟩ f5 rfl (fQ.s _ _ iX)⟩
   refine e0 (fun c=>?_) (fun c=>?_)
   ·have xW:st.length%2=0:=by have:=V.int.inj c;omega
    have aaK:b=ag:=by rw[aq];exact ek xW
    subst aaK
    refine⟨_,I,p,al,_,I,dJ,vi,p,al,l,_,_,_,_,I,dJ,?_⟩
    rw[AO,show (xor t (!ag))=t by cases t<;>rfl]
    exact⟨_,I,r,st,I,by rw[bJ (d2 tr)];exact ts,by omega,f7,Nf,cF (cw.trans (b3.move dJ)) aM⟩
   ·have abD:¬st.length%2=0:=fun z=>c (congrArg V.int (by omega))
    have p1:b=ah:=by rw[aq];exact gM abD
    subst p1
    have dJ:bt p=J (gZ C al l dG t e):=by rw[dJ];cases t<;>rfl
    exact⟨_,I,r,st,I,ts,by omega,f7,Nf,cF cw dJ⟩
inductive Ov(aN:Bool->ae)(N:Nat)(has:eW->Bool)(c:eu)(C:ae)(n:Nat)(i:eW)(vs:List V)(H:au)(Q:bx)(E:bP):Prop where
 |mk (o p al:ae) (f:bN) (l:List Bool) (j:Nat) (t e:Bool) (X:gc) (bu:vs=[.ref o,.ref p]) (aj:slot f=i) (ar:b4 c [p] H f o) (bB:mh has f) (b0:aW f<=n) (eB:H p=J (gZ C al l j t e)) (kN:l.length<=16000000) (vH:j<=l.length) (Bi:p∈X) (te:(∀ x,x∈X->∃ o,H x=J o)) (aai:cK (hW X) aN C p al l t e H Q E (cZ N e f (sees l t j))):Ov aN N has c C n i vs H Q E
def jG(aN:Bool->ae)(N:Nat)(has:eW->Bool)(c:eu)(C:ae)(n:Nat)(i:eW):b5:=fun vs H Q E=>Ov aN N has c C n i vs H Q E
theorem cK.ret{α:Type}{g:α->au->V->Prop}{aN:Bool->ae}{C p al:ae}{l:List Bool}{t e:Bool}{H:au}{Q:bx}{E:bP}{F:R α}(h:cK g aN C p al l t e H Q E F):cK g aN C p al l t e H (fun v H'=>∃ bY,dg.Sub H bY H'/\Q v bY) (lr H E) F:=by
 cases F with
 | ok a s=>exact fun v H' j M aK cy hs b7=>⟨_,M.sub b7,h v H' j M aK cy hs b7⟩
 | no w n=>exact iP.up h (b3.refl _ _)
 | st=>exact h
theorem cK.ahv{α:Type}{g g':α->au->V->Prop}{aN:Bool->ae}{C p al:ae}{l:List Bool}{t e:Bool}{H ax:au}{Q fX:bx}{E:bP}{F:R α}(h:cK g aN C p al l t e H Q E F.cH)(M:b3 p H ax)
  (k:∀ a v bt j,b3 p ax bt->g' a bt v->j<=l.length->bt p=J (gZ C al l j (!t) e)->(∀ v H',b3 p H H'->g a H' v->H' p=J (gZ C al l j t e)->Q v H')->fX v bt):cK g' aN C p al l (!t) e ax fX (lr H E) F:=by
 cases F with
 | ok a s=>exact fun v bt j cw aK cy hs b7=>k a v bt j cw aK cy b7 fun v H' uH aa4 lz=>h v H' j uH aa4 cy (by rw[<- hs,vb,nn]) lz
 | no w n=>exact iP.up h M
 | st=>exact h
theorem Ww{aN:Bool->ae}{N:Nat}(F:c2 K "draw" "Nothing.draw" zo f fd):cg P w K mg base (fv P w) 1 f fd ["self","source"] (jG aN N has c C n (.b 0)):=by
 refine F.iz TX (fun bb A outer s H vs Q E az h=>?_)
 obtain⟨o,p,al,dY,l,j,t,e,X,rfl,hs,b6,aR,cW,b7,aC,cy,eC,du,q⟩:=h
 have:=mH hs
 subst this
 rw[cZ] at q
 exact⟨_,(aT (bG oE)),H,.refl (dR _),q _ _ j (b3.refl _ _) I cy I b7⟩
theorem Rn{aN:Bool->ae}{N:Nat}(e6:fe K C)(F:c2 K "draw" "Truth.draw" z9 f fd)(gI:jb P w K mg base 3 C "draw" ["self"] (og aN C)):cg P w K mg base (fv P w) 4 f fd ["self","source"] (jG aN N has c C n (.b 1)):=by
 refine F.iz Uy (fun bb A outer s H vs Q E az h=>?_)
 obtain⟨o,p,al,dY,l,j,t,e,X,rfl,hs,b6,aR,cW,b7,aC,cy,eC,du,q⟩:=h
 have:=mH hs
 subst this
 rw[cZ] at q
 have q:cK (hW X) aN C p al l t e H Q E ((eQ e ah (sees l t j)).bd fun b s => .ok (.aH b) s):=q
 refine⟨_,(aT (bG (gV dd (lY gI e6 az gs.x (ai 1)) aD))),?_⟩
 try dsimp only[cS,cT,cU,cV]
 refine⟨_,I,p,al,_,I,b7,pJ,p,al,l,j,t,e,ah,I,b7,aC,cy,cK.call q (b3.refl _ _) fun b s v bt dG _ cw bl f5 hH dJ q=>?_⟩
 subst bl
 refine⟨I,_,cw.sub dJ,?_⟩
 have dE:decide (V.int ((b.toNat:Nat):Int)=V.int 1)=b:=by cases b<;>rfl
 rw[dE]
 exact q _ _ dG cw I f5 hH dJ
theorem Rm{aN:Bool->ae}{N:Nat}(F:c2 K "draw" "Whole.draw" z7 f fd)(qw:gH P w K mg base 6 "draw_whole" ["source"] (Co aN C)):cg P w K mg base (fv P w) 7 f fd ["self","source"] (jG aN N has c C n (.b 2)):=by
 refine F.iz Uw (fun bb A outer s H vs Q E az h=>?_)
 obtain⟨o,p,al,dY,l,j,t,e,X,rfl,hs,b6,aR,cW,b7,aC,cy,eC,du,q⟩:=h
 have:=mH hs
 subst this
 rw[cZ] at q
 have q:cK (hW X) aN C p al l t e H Q E ((l3 e (sees l t j)).bd fun n s => .ok (.int n) s):=q
 refine⟨_,(aT (bG (kH qw az gs.x (av (ai 1) aA)))),?_⟩
 try dsimp only[cS,cT,cU,cV]
 refine⟨_,I,p,al,l,j,t,e,I,b7,aC,cy,cK.call q (b3.refl _ _) fun b s v bt dG _ cw bl f5 hH dJ q=>?_⟩
 exact⟨_,cw.sub dJ,q _ _ dG cw bl f5 hH dJ⟩
theorem VU{aN:Bool->ae}{N:Nat}(bU:N<=1000)(F:c2 K "draw" "Fraction.draw" zj f fd)(wM:gH P w K mg base 7 "draw_fraction" ["source"] (H9 aN N C)):cg P w K mg base (fv P w) 8 f fd ["self","source"] (jG aN N has c C n (.b 3)):=by
 refine F.iz TK (fun bb A outer s H vs Q E az h=>?_)
 obtain⟨o,p,al,dY,l,j,t,e,X,rfl,hs,b6,aR,cW,b7,aC,cy,eC,du,q⟩:=h
 have:=mH hs
 subst this
 rw[cZ] at q
 refine⟨_,(aT (bG (kH wM az gs.x (av (ai 1) aA)))),?_⟩
 try dsimp only[cS,cT,cU,cV]
 exact⟨_,I,p,al,l,j,t,e,X,I,b7,aC,cy,bU,du,cK.ret q⟩
theorem Sp{aN:Bool->ae}{N:Nat}(T:uY K c.s)(F:c2 K "draw" "Span.draw" Ae f fd)(ni:gH P w K mg base 4 "draw_fixed" ["source","most"] (yM aN C)):cg P w K mg base (fv P w) 5 f fd ["self","source"] (jG aN N has c C n .s):=by
 refine F.iz U3 (fun bb A outer s H vs Q E az h=>?_)
 obtain⟨o,p,al,dY,l,j,t,e,X,rfl,hs,b6,aR,cW,b7,aC,cy,eC,du,q⟩:=h
 obtain⟨a,b,rfl⟩:=E5 hs
 obtain⟨_,jB,aJ⟩:=b6
 have M3:=aR.1
 rw[gj] at M3
 rw[cZ] at q
 have aL:((b - a).toNat:Int)=b - a:=Int.toNat_of_nonneg (by omega)
 have aq:aZ (b - a).toNat<=200:=hn (w:=200) (by omega)
 refine⟨_,(aT (bG (aQ eh (ee (ai 0) I) (kH ni az gs.x (av (ai 1) (av (aQ gb (ee (ai 0) I) (ee (ai 0) I)) aA)))))),?_⟩
 try dsimp only[cS,cT,cU,cV]
 refine⟨_,I,o,c.s,jB,_,_,I,aJ,T.cl,T.oY,hI ..,_,I,_,I,o,c.s,jB,_,_,I,aJ,T.cl,T.B1,oX _ _ _ _ G3,_,I,o,c.s,jB,_,_,I,aJ,T.cl,T.oY,hI ..,_,_,I,I,p,al,l,j,(b - a).toNat,t,e,by rw[aL],b7,aC,cy,by omega,cK.call q (b3.refl _ _) fun k s v bt dG _ cw bl f5 hH dJ q=>?_⟩
 subst bl
 exact .inl ⟨_,_,I,I,_,cw.sub dJ,q _ _ dG cw I f5 hH dJ⟩
theorem Xl{aN:Bool->ae}{N:Nat}(e6:fe K C)(T:ke K (c.o 2))(F:c2 K "draw" "Turned.draw" zB f fd)(k7:lS P w K mg base 1 C "turn" ["self"] (yT C))(lQ:qu P w K mg base (2*n+7) "draw" ["self","source"] (fE c) (jG aN N has c C n)):cg P w K mg base (fv P w) (2*n+7+1) f fd ["self","source"] (jG aN N has c C (n+1) (.o 2)):=by
 refine F.iz JY (fun bb A outer s H vs Q E az h=>?_)
 obtain⟨o,p,al,dY,l,j,t,e,X,rfl,hs,b6,aR,cW,b7,aC,cy,eC,du,q⟩:=h
 obtain⟨g,rfl⟩:=px hs
 obtain⟨n9,jB,i,aJ,ef⟩:=b6
 have ih:=aR.one
 have ig:aW g<=n:=by rw[aW] at cW;omega
 rw[cZ] at q
 have q:cK (hW X) aN C p al l t e H Q E (cZ N e g ((sees l t j).map (!·))).cH:=q
 rw[<- vb] at q
 have op:o≠p:=fun z=>n9 (fy.mpr z)
 have g5:=b3.step (j':=j) (t':=!t) (e':=e) b7
 have q8:=b4.kp g5 g ef
 obtain⟨fZ,f3,fb,li⟩:=b4.draw g q8
 refine⟨_,(aP (h9 (sk k7 e6 az (ai 1) (hk:=by omega)))
  (aP (bV 2 JY.br (uF lQ az gs.x (ee (ai 0) rfl) (av (ai 1) aA) (hk':=by omega)))
  (aP (h9 (sk k7 e6 az (ai 1) (hk:=by omega)))
  (aT (bG (ai 2)))))),?_⟩
 try dsimp only[cS,cT,cU,cV]
 refine⟨_,I,p,al,_,I,b7,vi,p,al,l,j,t,e,0,I,b7,?_⟩
 refine⟨_,I,o,c.o 2,jB,_,_,I,g5.k _ _ op aJ,T.cl,T.mZ,hI ..,i,slot g,fZ,f3,I,fb,li,?_⟩
 refine⟨_,I,i,p,al,g,l,j,!t,e,X,I,I,q8,ih,ig,aM,aC,cy,eC,b3.alloc g5 aM du,cK.ahv q g5 fun d v ax vX M2 kQ BC ji q=>?_⟩
 have cw:=b3.step (j':=vX) (t':=t) (e':=e) ji
 refine⟨_,I,p,al,_,I,ji,vi,p,al,l,_,!t,e,0,I,ji,?_⟩
 rw[Bool.not_not]
 have M:=(g5.trans M2).trans cw
 exact⟨_,I,_,M.sub aM,q _ _ M (dK.keep (fun b u n e=>cw.k b u (fun z=>n (by rw[z];exact eC)) e) d kQ) aM⟩
theorem Ro{aN:Bool->ae}{N:Nat}(e6:fe K C)(T:ke K (c.o 0))(F:c2 K "draw" "Maybe.draw" Ab f fd)(gI:jb P w K mg base 3 C "draw" ["self"] (og aN C))(lQ:qu P w K mg base (2*n+7) "draw" ["self","source"] (fE c) (jG aN N has c C n)):cg P w K mg base (fv P w) (2*n+7+1) f fd ["self","source"] (jG aN N has c C (n+1) (.o 0)):=by
 refine F.iz UC (fun bb A outer s H vs Q E az h=>?_)
 obtain⟨o,p,al,dY,l,j,t,e,X,rfl,hs,b6,aR,cW,b7,aC,cy,eC,du,q⟩:=h
 obtain⟨g,rfl⟩:=px hs
 obtain⟨n9,jB,i,aJ,ef⟩:=b6
 have ih:=aR.one
 have ig:aW g<=n:=by rw[aW] at cW;omega
 have op:o≠p:=fun z=>n9 (fy.mpr z)
 have fresh:∀ {ax:au} {yx:cv} {tt:ae},b3 p H ax->ax p=J yx->ax tt=aw->tt∉X:=fun M aL dE z=>by
  obtain⟨N0,eJ⟩:=b3.alloc M aL du _ z
  rw[dE] at eJ;cases eJ
 rw[cZ] at q
 have q:cK (hW X) aN C p al l t e H Q E ((eQ e ah (sees l t j)).bd fun b s=>if b=ag then (cZ N e g s).bd fun d s => .ok (.tup [d]) s else .ok (.tup []) s):=q
 refine⟨_,(aP (cR (cm dd (lY gI e6 az gs.x (ai 1) (hk':=by omega)) aD) (aT (bG (jS aA))) cQ)
  (aT (bG (jS (av (uF lQ az gs.x (ee (ai 0) rfl) (av (ai 1) aA) (hk':=by omega)) aA))))),?_⟩
 try dsimp only[cS,cT,cU,cV]
 refine⟨_,I,p,al,_,I,b7,pJ,p,al,l,j,t,e,ah,I,b7,aC,cy,cK.call q (b3.refl _ _) fun b s v bt dG _ cw bl f5 hH dJ q=>?_⟩
 subst bl hH
 refine⟨I,_,I,?_⟩
 cases b with
 | false =>
  refine jl I ⟨UF _,fun tt rl=>?_⟩
  have fQ:=Ext.tup (xs:=[]) rl
  have M:=cw.ext fQ
  exact⟨_,M.sub (fQ.s _ _ dJ),q _ _ dG M ⟨tt,[],I,fresh cw dJ rl,aM,I,by simp⟩ f5 rfl (fQ.s _ _ dJ)⟩
 | true =>
  have q8:=b4.kp cw g ef
  obtain⟨fZ,f3,fb,li⟩:=b4.draw g q8
  refine gC (by decide) ⟨_,I,o,c.o 0,jB,_,_,I,cw.k _ _ op aJ,T.cl,T.mZ,hI ..,i,slot g,fZ,f3,I,fb,li,_,I,i,p,al,g,l,dG,t,e,X,I,I,q8,ih,ig,dJ,aC,f5,eC,b3.alloc cw dJ du,cK.call q cw fun d s v g0 mf _ fl p6 l9 md iX q=>⟨qU,fun tt rl=>?_⟩⟩
  have fQ:=Ext.tup (xs:=[v]) rl
  have fl:=cw.trans fl
  have M:=fl.ext fQ
  exact⟨_,M.sub (fQ.s _ _ iX),q _ _ mf M ⟨tt,[v],I,fresh fl iX rl,aM,⟨v,[],I,dK.same fQ.s p6,I⟩,by simp⟩ l9 md (fQ.s _ _ iX)⟩
theorem Sq{aN:Bool->ae}{N:Nat}(nb:dV mg)(oO:ej mg "MOST_VALUES" (.int 60))(e6:fe K C)(T:ke K (c.o 1))(F:c2 K "draw" "Many.draw" Ag f fd)(gI:jb P w K mg base 3 C "draw" ["self"] (og aN C))(k6:jb P w K mg base 3 C "refuse" ["self"] (wo aN C))(lQ:qu P w K mg base (2*n+7) "draw" ["self","source"] (fE c) (jG aN N has c C n)):cg P w K mg base (fv P w) (2*n+7+1) f fd ["self","source"] (jG aN N has c C (n+1) (.o 1)):=by
 refine F.iz J8 (fun bb A outer s H vs Q E az h=>?_)
 obtain⟨o,p,al,dY,l,j,t,e,X,rfl,hs,b6,aR,cW,b7,aC,cy,eC,du,q⟩:=h
 obtain⟨g,rfl⟩:=px hs
 obtain⟨n9,jB,i,aJ,ef⟩:=b6
 have ih:=aR.one
 have ig:aW g<=n:=by rw[aW] at cW;omega
 have op:o≠p:=fun z=>n9 (fy.mpr z)
 rw[cZ] at q
 obtain⟨W,oQ⟩:∃ W:List D->List Bool->R D,W=fun ds s => .ok (.lst ds) s:=⟨_,rfl⟩
 have q:cK (hW X) aN C p al l t e H Q E ((je e (cZ N e g) 61 [] (sees l t j)).bd fun ds s => .ok (.lst ds) s):=q
 rw[<- oQ] at q
 refine⟨_,(aP (bV 2 J8.br (fU aA))
  (aP (qH i9.leaving (cm dd (lY gI e6 az gs.x (ai 1) (hk':=by omega)) aD)
   (aP (cR (cm dd (cj d8 rfl nb.dZ d3 (av (ai 2) aA)) (iv oO)) (aT (h9 (lY k6 e6 az gs.x (ai 1) (hk':=by omega)))) cQ)
   (aT (h9 (jP PySem.F.plainAttrs_list PySem.F.slot_list_append PySem.F.type_list_append sl (ai 2) (av (uF lQ az gs.x (ee (ai 0) rfl) (av (ai 1) aA) (hk':=by omega)) aA))))))
  (aT (bG (ai 2))))),?_⟩
 try dsimp only[cS,cT,cU,cV]
 refine⟨UF _,fun lv tq=>?_⟩
 have rq:p≠lv:=fun z=>by rw[<- z,b7] at tq;cases tq
 have ac6:lv∉X:=fun z=>by obtain⟨u,dN⟩:=du lv z;rw[tq] at dN;cases dN
 have w0:b3 p H (upd H lv (.lst [])):=⟨fun b u _ e=>cL tq b u e,fun cl=>sj cl tq trivial⟩
 refine⟨fun m ab ax=>∃ (ds:List D) (vs:List V) (j:Nat),ds.length+m=61/\ab=[J (.ref o),J (.ref p),J (.ref lv)]/\b3 p H ax/\ax lv=J (.lst vs)/\c5 (gc.qW lv X) ax ds vs/\j<=l.length/\ax p=J (gZ C al l j t e)/\cK (hW X) aN C p al l t e H Q E ((je e (cZ N e g) m ds (sees l t j)).bd W),⟨61,[],[],j,I,I,w0,aM,I,cy,cL tq _ _ b7,q⟩,?_⟩
 rintro m ab ax ⟨ds,vs,j,hm,rfl,M2,i1,kQ,cy,ji,q⟩
 cases m with
 | zero=>exact absurd q id
 | succ m =>
 rw[je,pK] at q
 refine⟨_,I,p,al,_,I,ji,pJ,p,al,l,j,t,e,ah,I,ji,aC,cy,cK.call q M2 fun b s v bt dG _ cw bl f5 hH dJ q=>?_⟩
 have cG:=w6 f5 hH
 subst bl hH
 have rh:=cw.k _ _ (d2 rq) i1
 have mR:c5 (gc.qW lv X) bt ds vs:=c5.keep (fun b u nb e=>cw.k b u (fun z=>nb (gc.dr (by rw[z];exact eC))) e) _ kQ
 have cw:=M2.trans cw
 have j2:=ff.len _ (c5.at _ mR)
 refine⟨I,_,I,?_⟩
 cases b with
 | true =>
  have q:cK (hW X) aN C p al l t e H Q E ((if ds.length=60 then .no ag (sees l t dG).length else (cZ N e g (sees l t dG)).bd fun d s=>je e (cZ N e g) m (ds++[d]) s).bd W):=q
  refine jl I ⟨_,fun _ _ h=>h,?_⟩
  refine⟨_,I,_,_,I,.inl ⟨_,bX rh,I⟩,I,_,I,e0 (fun s5=>?_) (fun s5=>?_)⟩
  ·have pX:ds.length=60:=by have:=V.int.inj s5;omega
   rw[if_pos pX] at q
   have q:iP E p H (aN ag) (kK l ag (sees l t dG).length):=q
   unfold kK at q
   rw[if_pos rfl,cG.1] at q
   exact⟨_,I,p,al,_,I,dJ,Aw,p,al,l,dG,t,e,I,dJ,by omega,q.up cw⟩
  ·have pX:ds.length≠60:=fun z=>s5 (by rw[j2,z];rfl)
   rw[if_neg pX,pK] at q
   have MT:=b4.kp cw g ef
   obtain⟨fZ,f3,fb,li⟩:=b4.draw g MT
   refine⟨_,I,.inl ⟨I,_,bX rh⟩,?_⟩
   refine⟨_,I,o,c.o 1,jB,_,_,I,cw.k _ _ op aJ,T.cl,T.mZ,hI ..,i,slot g,fZ,f3,I,fb,li,?_⟩
   refine⟨_,I,i,p,al,g,l,dG,t,e,gc.qW lv X,I,I,MT,ih,ig,dJ,aC,f5,gc.dr eC,?_,cK.call q cw fun d s v g0 mf _ fl p6 l9 md iX q=>?_⟩
   ·intro x ay
    rcases ay with rfl | ay
    ·exact⟨_,rh⟩
    ·exact b3.alloc cw dJ du x ay
   subst md
   have Nj:=fl.k _ _ (d2 rq) rh
   refine⟨lv,_,_,I,I,Nj,fi (show vs.length<100000 by omega) (by decide),?_⟩
   refine⟨m,by omega,ds++[d],vs++[v],mf,by rw[dI,iC];omega,rfl,b3.H3 tq (cw.trans fl) Nj,aM,?_,l9,by rw[bJ rq];exact iX,q⟩
   refine c5.keep (fun b u nb e=>by rw[bJ (fun z=>nb (by rw[z];exact gc.hd))];exact e) _ (c5.snoc p6 _ ?_)
   exact c5.keep (fun b u nb e=>fl.k b u (fun z=>nb (gc.dr (by rw[z];exact eC))) e) _ mR
 | false =>
  have q:cK (hW X) aN C p al l t e H Q E (W ds (sees l t dG)):=q
  rw[oQ] at q
  refine gC (by decide) ?_
  exact⟨_,I,_,cw.sub dJ,q _ _ dG cw ⟨lv,vs,I,ac6,rh,c5.weak (fun x ay=>gc.dr ay) _ mR,by omega⟩ f5 rfl dJ⟩
theorem Xm{aN:Bool->ae}{N:Nat}(nb:dV mg)(T:nC K (c.t 0))(F:c2 K "draw" "Record.draw" zG f fd)(lQ:qu P w K mg base (2*n+7) "draw" ["self","source"] (fE c) (jG aN N has c C n)):cg P w K mg base (fv P w) (2*n+7+1) f fd ["self","source"] (jG aN N has c C (n+1) (.t 0)):=by
 refine F.iz Ui (fun bb A outer s H vs Q E az h=>?_)
 obtain⟨o,p,al,dY,l,j,t,e,X,rfl,hs,b6,aR,cW,b7,aC,cy,eC,du,q⟩:=h
 obtain⟨ns,fs,rfl⟩:=va hs
 obtain⟨n9,jB,a1,a2,os,aJ,eT,dO,aj,ar,tf⟩:=b6
 obtain⟨fG,mb,ih⟩:=aR.two
 have ig:gA fs<=n:=by rw[aW] at cW;omega
 have rj:=ew.len fs tf
 have x7:=(nI fG).1
 rw[cZ,if_pos rfl] at q
 have Yi:a2≠p:=fun z=>dO (fy.mpr z)
 refine⟨_,(aT (bG (u6 J4 I nb.rO qJ (av (XR ["form"] [(1,"source")] I I (by decide +kernel) ⟨I,.inl I,trivial⟩ (j7 (ee (ai 0) I)) (fun _ _ _ _ _=>(eG (i:=0) (show (["form","source"]:List af).Nodup by decide +kernel) rfl (by first | exact Or.inl I | exact Or.inr I))) (fun _ _ _ _ _=>iE) (fun _ _ _ _ _=>(uF lQ az VC (ai 0) (av (ai 1) aA) (hk':=by omega)))) aA)))),?_⟩
 try dsimp only[cS,cT,cU,cV]
 refine .inl ⟨_,I,o,c.t 0,jB,_,_,I,aJ,T.cl,T.qj,oX _ _ _ _ tb,a2,I,⟨_,bX ar⟩,fun dT fo=>?_⟩
 have HP:p≠dT:=fun z=>by rw[<- z,b7] at fo;cases fo
 refine Et (K:=K) (a:=a2) (xs:=os.map V.ref) (fun i aY ax=>b3 p H ax/\∃ (ds:List D) (j:Nat),ds.length=i/\c5 (gc.qW dT X) ax ds aY/\j<=l.length/\ax p=J (gZ C al l j t e)/\cK (hW X) aN C p al l t e H Q E ((hf N e (fs.drop i) (sees l t j)).bd fun aV s => .ok (.tup (ds++aV)) s)) (fun ab=>∃ z,ab=[z,J (.ref p)]) (by rw[cM];omega) ⟨_,I⟩ ?_ ?_ ?_ ?_
 ·rintro i aY ax ⟨m,_⟩
  exact bX (m.k _ _ Yi ar)
 ·exact⟨⟨fun b u _ e=>cL fo b u e,fun cl=>sj cl fo trivial⟩,[],j,I,I,cy,by rw[bJ HP];exact b7,q⟩
 ·rintro i x ay aY b8 H1 ⟨z,rfl⟩ ⟨fJ,ds,j,lD,oS,cy,nW,q⟩ oP me pD cY
  rw[fT] at ay
  obtain⟨N2,abE,rfl⟩:=Uf.mp ay
  obtain⟨xO,Bz,aaq⟩:=ew.get fs tf abE
  obtain⟨n2,x3⟩:=ih.get Bz
  have aB:i<fs.length:=(kE.mp Bz).1
  have Zh:fs[i]=xO:=by rw[dm aB] at Bz;exact gN Bz
  rw[zP aB,Zh,hf,pK] at q
  have MS:=b4.kp fJ xO aaq
  obtain⟨fZ,f3,fb,li⟩:=b4.draw xO MS
  refine⟨_,I,N2,slot xO,fZ,f3,I,fb,li,?_⟩
  refine⟨_,I,N2,p,al,xO,l,j,t,e,gc.qW dT X,I,I,MS,n2,by omega,nW,aC,cy,gc.dr eC,?_,cK.call q fJ fun d s v g0 mf _ fl p6 l9 md iX q=>?_⟩
  ·intro x ay
   rcases ay with rfl | ay
   ·exact⟨_,oP⟩
   ·exact b3.alloc fJ nW du x ay
  subst md
  rw[pK] at q
  have xQ:=fl.k _ _ (d2 HP) oP
  refine cY _ _ _ ⟨_,I⟩ xQ ⟨b3.H3 fo (fJ.trans fl) xQ,ds++[d],mf,by rw[dI,lD];rfl,?_,l9,by rw[bJ HP];exact iX,?_⟩
  ·refine c5.keep (fun b u nb e=>by rw[bJ (fun z=>nb (by rw[z];exact gc.hd))];exact e) _ (c5.snoc p6 _ ?_)
   exact c5.keep (fun b u nb e=>fl.k b u (fun z=>nb (gc.dr (by rw[z];exact eC))) e) _ oS
  ·have FV:(fun aV (s:List Bool)=>(R.ok (D.tup ((ds++[d])++aV)) s:R D))=fun aV s=>(R.ok (d::aV) s).bd fun aV s=>R.ok (D.tup (ds++aV)) s:=by
    funext aV s
    show R.ok _ _=R.ok _ _
    rw[fA];rfl
   rw[FV];exact q
 ·rintro aY ax me oP ⟨lF,ds,j,lD,kQ,BC,ji,q⟩
  rw[cM] at me lD
  rw[cM,List.drop_of_length_le (by omega),hf] at q
  have q:cK (hW X) aN C p al l t e H Q E (.ok (.tup (ds++[])) (sees l t j)):=q
  rw[List.append_nil] at q
  refine⟨dT,aY,I,.inl ⟨bX oP,fun sy q9=>?_⟩⟩
  have Ra:sy∉X:=fun z=>by obtain⟨u,dN⟩:=b3.alloc lF ji du sy z;rw[q9] at dN;cases dN
  have fQ:=Ext.tup (xs:=aY) q9
  exact⟨_,(lF.ext fQ).sub (fQ.s _ _ ji),q _ _ j (lF.ext fQ) ⟨sy,aY,I,Ra,aM,c5.same fQ.s (c5.weak (fun x ay=>gc.dr ay) _ kQ),by omega⟩ BC rfl (fQ.s _ _ ji)⟩
theorem Xn{aN:Bool->ae}{N:Nat}(nb:dV mg)(T:nC K (c.t 1))(F:c2 K "draw" "Choice.draw" zI f fd)(ni:gH P w K mg base 4 "draw_fixed" ["source","most"] (yM aN C))(lQ:qu P w K mg base (2*n+7) "draw" ["self","source"] (fE c) (jG aN N has c C n)):cg P w K mg base (fv P w) (2*n+7+1) f fd ["self","source"] (jG aN N has c C (n+1) (.t 1)):=by
 refine F.iz JZ (fun bb A outer s H vs Q E az h=>?_)
 obtain⟨o,p,al,dY,l,j,t,e,X,rfl,hs,b6,aR,cW,b7,aC,cy,eC,du,q⟩:=h
 obtain⟨ns,fs,rfl⟩:=va hs
 obtain⟨n9,jB,hu,hv,os,aJ,ad0,ad1,g1,g2,ef⟩:=b6
 obtain⟨fG,mb,ih⟩:=aR.two
 have ig:gA fs<=n:=by rw[aW] at cW;omega
 have x7:=(nI fG).1
 have ne:∀ {b:ae},b∉[p]->b≠p:=fun h z=>h (fy.mpr z)
 have aaV:0<fs.length:=by
  have h:=fG
  unfold jZ at h
  simp only[h7,jQ] at h
  omega
 have aq:aZ (fs.length - 1)<=5:=hn (w:=5) (by omega)
 rw[cZ,if_neg (by decide)] at q
 have n0:(((ns.map V.str).length:Nat):Int) - 1=((fs.length - 1:Nat):Int):=by rw[cM];omega
 refine⟨_,(aP (bV 2 JZ.br (kH ni az gs.x (av (ai 1) (av (aQ gb (cj d8 I nb.dZ d3 (av (ee (ai 0) I) aA)) aD) aA)) (hk:=by omega)))
  (aT (bG (jS (av (cN cP (ee (ai 0) rfl) (ai 2)) (av (uF lQ az gs.x (cN cP (ee (ai 0) rfl) (ai 2)) (av (ai 1) aA) (hk':=by omega)) aA)))))),?_⟩
 try dsimp only[cS,cT,cU,cV]
 refine⟨_,I,_,I,o,c.t 1,jB,_,_,I,aJ,T.cl,T.rx,hI ..,_,_,I,.inl ⟨_,bX g1,I⟩,_,_,I,I,p,al,l,j,fs.length - 1,t,e,by rw[<- n0],b7,aC,cy,by omega,cK.call q (b3.refl _ _) fun i s v H1 vW aB g5 bl G6 eR nW q=>?_⟩
 subst bl eR
 have ajo:=xu (UF _) aB
 have vS:i<fs.length:=by omega
 have tp:ns[i]?=J (ns.getD i af.empty):=by rw[e9,dm (show i<ns.length by omega)];rfl
 generalize ns.getD i af.empty=m at tp q
 have hm:m∈ns:=jy tp
 have rd:=dm vS
 rw[Lx fs i _ vS,e9,rd] at q
 have q:cK (hW X) aN C p al l t e H Q E ((cZ N e fs[i] (sees l t vW)).bd fun d s => .ok (.tup [.str m,d]) s):=q
 obtain⟨ob,mc,tg⟩:=ew.ge fs ef rd
 have q8:=b4.kp g5 _ tg
 obtain⟨n2,x3⟩:=ih.get rd
 obtain⟨fZ,f3,fb,li⟩:=b4.draw _ q8
 have qc:m.length<=100000:=ey ((nI fG).2 m hm) (by decide)
 refine⟨_,I,o,c.t 1,jB,_,_,I,g5.k _ _ (ne n9) aJ,T.cl,T.rx,hI ..,_,I,BU (.inl (g5.k _ _ (ne ad0) g1)) (show (ns.map V.str)[i]?=J (V.str m) by rw[fT,tp];rfl) ⟨_,rfl,o,c.t 1,jB,_,_,rfl,g5.k _ _ (ne n9) aJ,T.cl,T.qj,oX _ _ _ _ tb,_,rfl,BU (.inl (g5.k _ _ (ne ad1) g2)) (show (os.map V.ref)[i]?=J (V.ref ob) by rw[fT,mc];rfl) ⟨ob,slot _,fZ,f3,rfl,fb,li,_,rfl,ob,p,al,_,l,vW,t,e,X,rfl,rfl,q8,n2,by omega,nW,aC,G6,eC,b3.alloc g5 nW du,cK.call q g5 fun d s v ax vX _ M2 kQ BC hF ji q=>⟨jA,fun tt rl=>?_⟩⟩⟩⟩
 have M:=g5.trans M2
 have fQ:=Ext.tup (xs:=[V.str m,v]) rl
 have aa3:tt∉X:=fun z=>by
  obtain⟨N0,eJ⟩:=b3.alloc M ji du _ z
  rw[rl] at eJ;cases eJ
 exact⟨_,(M.ext fQ).sub (fQ.s _ _ ji),q _ _ vX (M.ext fQ) ⟨tt,_,I,aa3,aM,⟨_,_,I,⟨I,qc⟩,v,[],I,dK.same fQ.s kQ,I⟩,by simp⟩ BC hF (fQ.s _ _ ji)⟩
theorem Wx{aN:Bool->ae}{N:Nat}(nb:dV mg)(oN:ej mg "LONGEST_TEXT" (.int 200))(e6:fe K C)(T:sq K c.l)(F:c2 K "draw" "Letters.draw" zr f fd)(gI:jb P w K mg base 3 C "draw" ["self"] (og aN C))(k6:jb P w K mg base 3 C "refuse" ["self"] (wo aN C))(ni:gH P w K mg base 4 "draw_fixed" ["source","most"] (yM aN C)):cg P w K mg base (fv P w) 5 f fd ["self","source"] (jG aN N has c C n .l):=by
 refine F.iz Dk (fun bb A outer s H vs Q E az h=>?_)
 obtain⟨o,p,al,dY,l,j,t,e,X,rfl,hs,b6,aR,cW,b7,aC,cy,eC,du,q⟩:=h
 obtain⟨bg,rfl⟩:=E6 hs
 obtain⟨n9,jB,aJ⟩:=b6
 have qe:ko bg=ag/\bg.length<=60:=by have:=aR.1;rw[gj] at this;exact this
 have n5:=Kc qe.1
 have op:o≠p:=fun z=>n9 (fy.mpr z)
 have aq:=E7 qe.2
 rw[cZ] at q
 obtain⟨W,oQ⟩:∃ W:List Nat->List Bool->R D,W=fun w s => .ok (.str ⟨w.toArray⟩) s:=⟨_,rfl⟩
 rw[<- oQ] at q
 refine⟨_,(aP (bV 2 Dk.br cJ)
  (aP (qH i9.leaving (cm dd (lY gI e6 az gs.x (ai 1)) aD)
   (aP (cR (cm dd (cj d8 rfl nb.dZ d3 (av (ai 2) aA)) (iv oN)) (aT (h9 (lY k6 e6 az gs.x (ai 1)))) cQ)
   (aT (bV 2 Dk.br (aQ eh (ai 2) (cN cP (ee (ai 0) rfl) (kH ni az gs.x (av (ai 1) (av (aQ gb (cj d8 rfl nb.dZ d3 (av (ee (ai 0) rfl) aA)) aD) aA)))))))))
  (aT (bG (ai 2))))),?_⟩
 try dsimp only[cS,cT,cU,cV]
 refine⟨fun m ab ax=>∃ (cs:List Nat) (j:Nat),cs.length+m=201/\ab=[J (.ref o),J (.ref p),J (.str ⟨cs.toArray⟩)]/\b3 p H ax/\j<=l.length/\ax p=J (gZ C al l j t e)/\cK (hW X) aN C p al l t e H Q E ((jX e bg m cs (sees l t j)).bd W),⟨201,[],j,I,I,b3.refl _ _,cy,b7,q⟩,?_⟩
 rintro m ab ax ⟨cs,j,hm,rfl,M2,cy,ji,q⟩
 cases m with
 | zero=>exact absurd q id
 | succ m =>
 rw[jX,pK] at q
 refine⟨_,I,p,al,_,I,ji,pJ,p,al,l,j,t,e,ah,I,ji,aC,cy,cK.call q M2 fun b s v bt dG _ cw bl f5 hH dJ q=>?_⟩
 have cG:=w6 f5 hH
 subst bl hH
 have cw:=M2.trans cw
 have yi:(⟨cs.toArray⟩:af).length=cs.length:=by show cs.toArray.size=_;rw[fY]
 refine⟨I,_,I,?_⟩
 cases b with
 | true =>
  have q:cK (hW X) aN C p al l t e H Q E ((if cs.length=200 then .no ag (sees l t dG).length else (gi e (bg.length - 1) (aZ (bg.length - 1)) 0 (sees l t dG)).bd fun i s=>jX e bg m (cs++[bg.cps.toList.getD i 0]) s).bd W):=q
  refine jl I ⟨_,fun _ _ h=>h,?_⟩
  refine⟨_,I,_,_,I,⟨eX (by omega),I⟩,I,_,I,e0 (fun s5=>?_) (fun s5=>?_)⟩
  ·have pX:cs.length=200:=by have:=V.int.inj s5;omega
   rw[if_pos pX] at q
   have q:iP E p H (aN ag) (kK l ag (sees l t dG).length):=q
   unfold kK at q
   rw[if_pos rfl,cG.1] at q
   exact⟨_,I,p,al,_,I,dJ,Aw,p,al,l,dG,t,e,I,dJ,by omega,q.up cw⟩
  ·have pX:cs.length≠200:=fun z=>s5 (by rw[yi,z];rfl)
   rw[if_neg pX,pK] at q
   have Nm:=cw.k _ _ op aJ
   have aL:(bg.length:Int) - 1=((bg.length - 1:Nat):Int):=by omega
   refine⟨_,I,_,I,o,c.l,jB,_,_,I,Nm,T.cl,T.m1,hI ..,?_⟩
   refine⟨_,I,_,I,o,c.l,jB,_,_,I,Nm,T.cl,T.m1,hI ..,_,_,I,⟨eX (by omega),I⟩,_,_,I,I,p,al,l,dG,bg.length - 1,t,e,by rw[<- aL],dJ,aC,f5,by omega,cK.call q cw fun i s v g0 mf aB fl bl l9 md iX q=>?_⟩
   subst bl md
   have BA:=xu (UF _) aB
   have rf:i<bg.cps.toList.length:=by rw[hT];show i<bg.length;omega
   have iY:eH bg.cps.toList ((i:Nat):Int)=J (bg.cps.toList.getD i 0):=dt (by rw[e9,dm rf];rfl)
   generalize bg.cps.toList.getD i 0=ch at iY q
   refine .inr ⟨_,_,ch,I,I,eX (by omega),iY,.inr ⟨_,_,I,I,eX (by rw[yi];exact ey (Nat.add_le_add (show cs.length<=300 by omega) (cx 1)) (by decide)),?_⟩⟩
   refine⟨m,by omega,cs++[ch],mf,by rw[dI,iC];omega,?_,cw.trans fl,l9,iX,q⟩
   have aV:(⟨cs.toArray⟩:af)++(⟨#[ch]⟩:af)=⟨(cs++[ch]).toArray⟩:=by
    apply xo
    rw[vm]
   rw[aV];rfl
 | false =>
  have q:cK (hW X) aN C p al l t e H Q E (W cs (sees l t dG)):=q
  rw[oQ] at q
  refine gC (by decide) ?_
  exact⟨_,I,_,cw.sub dJ,q _ _ dG cw ⟨I,by omega⟩ f5 rfl dJ⟩
noncomputable def wj{α:Type}(a0 a1 a2 a3 a4 a5 a6 a7 a8 a9 a10:α):eW->α
 | .b 0=>a0
 | .b 1=>a1
 | .b 2=>a2
 | .b _=>a3
 | .s=>a4
 | .l=>a5
 | .o 0=>a6
 | .o 1=>a7
 | .o _=>a8
 | .t 0=>a9
 | .t _=>a10
theorem sP{p:eW->Prop}(bu:p (.b 0))(aj:p (.b 1))(ar:p (.b 2))(bB:p (.b 3))(b0:p .s)(eB:p .l)(kN:p (.o 0))(vH:p (.o 1))(Bi:p (.o 2))(te:p (.t 0))(aai:p (.t 1)):∀ i,p i
 | .b k=>by rcases q3 k with rfl | rfl | rfl | rfl<;>assumption
 | .s=>b0
 | .l=>eB
 | .o k=>by rcases pR k with rfl | rfl | rfl<;>assumption
 | .t k=>by rcases vC k with rfl | rfl<;>assumption
def qG(K:bO)(c:eu)(m:af)(q:eW->af)(st:eW->bj)(ps:List af):Prop:=∀ i,MethAt K (fE c i) m (q i) (st i) ps
theorem g7{K:bO}{C:ae}{m q:af}{st:bj}{ps:List af}{k:Nat}{sp:b5}(M:MethAt K C m q st ps)(h:∀ f fd,c2 K m q st f fd->cg P w K mg base dk k f fd ps sp):lS P w K mg base k C m ps sp/\fe K C:=by
 obtain⟨f,fd,G,aq,hm⟩:=M.ex
 exact⟨⟨f,fd,h f fd G,aq,hm⟩,M.cl⟩
structure zN(K:bO)(c:eu):Prop where
 IA:uY K c.s
 Iy:sq K c.l
 qo:∀ k,ke K (c.o k)
 wy:∀ k,nC K (c.t k)
noncomputable def hasAll:eW->Bool:=fun _=>ag
noncomputable def Fv:eW->af:=wj "Nothing.fits" "Truth.fits" "Whole.fits" "Fraction.fits" "Span.fits" "Letters.fits" "Maybe.fits" "Many.fits" "Turned.fits" "Record.fits" "Choice.fits"
noncomputable def FE:eW->bj:=wj zm z8 zK z3 Ad zq Aa Af zA zF zH
noncomputable def EA:eW->af:=wj "Nothing.written" "Truth.written" "Whole.written" "Fraction.written" "Span.written" "Letters.written" "Maybe.written" "Many.written" "Turned.written" "Record.written" "Choice.written"
noncomputable def EH:eW->bj:=wj zS z0 zZ z5 zk zT z2 zp zU zV zX
theorem Xv(nb:dV mg)(L:zN K c)(S:qG K c "fits" Fv FE ["self","value"])(oO:ej mg "MOST_VALUES" (.int 60))(oN:ej mg "LONGEST_TEXT" (.int 200))(my:bK P w K mg base 1 "is_number" ["value"] yP)(r9:bK P w K mg base 2 "has_whole_row" ["n"] Ib)(nk:bK P w K mg base 1 "made_of" ["text","signs"] yQ)(wN:bK P w K mg base 3 "has_fraction_row" ["fraction"] Ia):∀ n,iN P w K mg base (2*n+4) "fits" ["self","value"] (fE c) (i3 hasAll iV c n):=by
 intro n
 induction n with
 | zero=>exact fun i=>⟨KL (S i) (fun vs H Q E z=>by obtain⟨o,f,_,_,_,_,_,_,h,_⟩:=z;have:=xy f;omega),(S i).cl⟩
 | succ n cA=>exact sP (g7 (S _) fun _ _ G=>(Ws G).mono (by omega)) (g7 (S _) fun _ _ G=>(X7 G).mono (by omega)) (g7 (S _) fun _ _ G=>(X6 G my r9).mono (by omega)) (g7 (S _) fun _ _ G=>(VP nb G my wN).mono (by omega)) (g7 (S _) fun _ _ G=>(Sd L.IA G my).mono (by omega)) (g7 (S _) fun _ _ G=>(Wt nb oN L.Iy G nk).mono (by omega)) (g7 (S _) fun _ _ G=>(X8 nb (L.qo 0) G cA).mono (by omega)) (g7 (S _) fun _ _ G=>(Se nb oO (L.qo 1) G cA).mono (by omega)) (g7 (S _) fun _ _ G=>(W5 (L.qo 2) G cA).mono (by omega)) (g7 (S _) fun _ _ G=>(W6 nb (L.wy 0) G cA).mono (by omega)) (g7 (S _) fun _ _ G=>(W7 nb (L.wy 1) G cA).mono (by omega))
theorem VY(nb:dV mg)(L:zN K c)(S:qG K c "written" EA EH ["self","value"])(w1:lS P w K mg base 1 c.l "places" ["self","text"] (Ii c.l))(qz:bK P w K mg base 3 "whole_row" ["n"] Ai)(nj:bK P w K mg base 2 "fixed_row" ["n","most"] yN)(nq:bK P w K mg base 1 "turned_row" ["row"] w5)(qy:bK P w K mg base 1 "steps_of" ["fraction"] Cm)(wO:bK P w K mg base 4 "row_of_steps" ["steps"] Ik):∀ n,iN P w K mg base (2*n+4) "written" ["self","value"] (fE c) (i4 hasAll iV ez c n):=by
 intro n
 induction n with
 | zero=>exact fun i=>⟨KL (S i) (fun vs H Q E z=>by obtain⟨o,f,_,_,_,_,_,_,h,_⟩:=z;have:=xy f;omega),(S i).cl⟩
 | succ n cA=>exact sP (g7 (S _) fun _ _ G=>(Tp G).mono (by omega)) (g7 (S _) fun _ _ G=>(TM G).mono (by omega)) (g7 (S _) fun _ _ G=>(Tw G qz).mono (by omega)) (g7 (S _) fun _ _ G=>(Tn G qy wO).mono (by omega)) (g7 (S _) fun _ _ G=>(TN L.IA G nj).mono (by omega)) (g7 (S _) fun _ _ G=>(Tq nb L.Iy G (S .l).cl w1 nj).mono (by omega)) (g7 (S _) fun _ _ G=>(TO nb (L.qo 0) G cA).mono (by omega)) (g7 (S _) fun _ _ G=>(T5 nb (L.qo 1) G cA).mono (by omega)) (g7 (S _) fun _ _ G=>(Tx (L.qo 2) G nq cA).mono (by omega)) (g7 (S _) fun _ _ G=>(Tz nb (L.wy 0) G cA).mono (by omega)) (g7 (S _) fun _ _ G=>(TB nb (L.wy 1) G nj cA).mono (by omega))
def Ij(has:eW->Bool)(bz:D->Bool)(fw:D->List Bool)(c:eu)(n:Nat):b5:=fun vs H Q E=>∃ i,i4 has bz fw c n i vs H Q E
theorem Vi(F:c2 K "row" "Form.row" km f fd)(jq:iN P w K mg base (2*n+4) "fits" ["self","value"] (fE c) (i3 has bz c n))(kB:iN P w K mg base (2*n+4) "written" ["self","value"] (fE c) (i4 has bz fw c n)):cg P w K mg base dk (2*n+4+1) f fd ["self","value"] (Ij has bz fw c n):=by
 refine F.hJ Vy (fun bb A outer s H vs Q E az h=>?_)
 obtain⟨c8,o,dY,v,d,rfl,hs,b6,aR,cW,hd,aE,aC,q⟩:=h
 obtain⟨fZ,f3,fb,li⟩:=b4.fits dY b6
 obtain⟨YY,ZJ,nR,adi⟩:=b4.written dY b6
 refine⟨_,(aP (cR (iS (g8 (kG jq az (ai 0) (av (ai 1) aA) (hk:=by omega)))) (aT nG) cQ)
  (aT (bG (kG kB az (ai 0) (av (ai 1) aA) (hk:=by omega))))),?_⟩
 try dsimp only[cS,cT,cU,cV]
 refine⟨_,I,o,slot dY,fZ,f3,I,fb,li,_,I,o,dY,v,d,I,I,b6,aR,cW,hd,aE,ag,I,?_⟩
 refine eb ⟨_,I,o,slot dY,YY,ZJ,I,nR,adi,_,I,o,dY,v,d,I,I,b6,aR,cW,hd,aE,aC,H,.refl (dR _),q⟩
theorem b4.row{c:eu}{X:List ae}{H:au}(f:bN){o:ae}(h:b4 c X H f o):∃ al fs,H o=J (.ins (fE c (slot f)) al fs)/\fs.lookup (af.ofString "row")=aw :=
 b4.ins (m:=af.ofString "row") (by decide +kernel) (by decide +kernel) (by decide +kernel) (by decide +kernel) (by decide +kernel) (by decide +kernel) f h
theorem Sw(S:qG K c "row" (fun _=>"Form.row") (fun _=>km) ["self","value"])(jq:iN P w K mg base (2*n+4) "fits" ["self","value"] (fE c) (i3 has bz c n))(kB:iN P w K mg base (2*n+4) "written" ["self","value"] (fE c) (i4 has bz fw c n)):iN P w K mg base (2*n+5) "row" ["self","value"] (fE c) (fun _=>Ij has bz fw c n):=fun i=>g7 (S i) fun _ _ G=>Vi G jq kB
theorem b3.new{p:ae}{H H1 ax:au}(x:Ext H H1)(bu:H p=aw)(m:b3 p H1 ax):Ext H ax:=⟨fun b u e=>m.k b u (fun z=>by rw[z,bu] at e;cases e) (x.s b u e),fun cl=>m.c (x.c cl)⟩
theorem Wp{K:bO}{C:ae}{m q:af}{st:bj}{ps:List af}{k:Nat}{sp:b5}(M:MethAt K C m q st ps)(h:∀ f fd,c2 K m q st f fd->cg P w K mg base (fv P w) k f fd ps sp):jb P w K mg base k C m ps sp/\fe K C:=by
 obtain⟨f,fd,G,aq,hm⟩:=M.ex
 exact⟨⟨f,fd,h f fd G,aq,hm⟩,M.cl⟩
noncomputable def Fw:eW->af:=wj "Nothing.draw" "Truth.draw" "Whole.draw" "Fraction.draw" "Span.draw" "Letters.draw" "Maybe.draw" "Many.draw" "Turned.draw" "Record.draw" "Choice.draw"
noncomputable def FF:eW->bj:=wj zo z9 z7 zj Ae zr Ab Ag zB zG zI
theorem Xw{c:eu}{C:ae}{aN:Bool->ae}{N:Nat}(bU:N<=1000)(nb:dV mg)(L:zN K c)(S:qG K c "draw" Fw FF ["self","source"])(e6:fe K C)(oO:ej mg "MOST_VALUES" (.int 60))(oN:ej mg "LONGEST_TEXT" (.int 200))(gI:jb P w K mg base 3 C "draw" ["self"] (og aN C))(k7:lS P w K mg base 1 C "turn" ["self"] (yT C))(k6:jb P w K mg base 3 C "refuse" ["self"] (wo aN C))(ni:gH P w K mg base 4 "draw_fixed" ["source","most"] (yM aN C))(qw:gH P w K mg base 6 "draw_whole" ["source"] (Co aN C))(wM:gH P w K mg base 7 "draw_fraction" ["source"] (H9 aN N C)):∀ n,qu P w K mg base (2*n+7) "draw" ["self","source"] (fE c) (jG aN N hasAll c C n):=by
 intro n
 induction n with
 | zero=>exact fun i=>⟨Wi (S i) (fun vs H Q E z=>by obtain⟨o,_,_,f,_,_,_,_,_,_,_,_,_,h,_⟩:=z;have:=xy f;omega),(S i).cl⟩
 | succ n cA=>exact sP (Wp (S _) fun _ _ G=>(Ww G).mono (by omega)) (Wp (S _) fun _ _ G=>(Rn e6 G gI).mono (by omega)) (Wp (S _) fun _ _ G=>(Rm G qw).mono (by omega)) (Wp (S _) fun _ _ G=>(VU bU G wM).mono (by omega)) (Wp (S _) fun _ _ G=>(Sp L.IA G ni).mono (by omega)) (Wp (S _) fun _ _ G=>(Wx nb oN e6 L.Iy G gI k6 ni).mono (by omega)) (Wp (S _) fun _ _ G=>(Ro e6 (L.qo 0) G gI cA).mono (by omega)) (Wp (S _) fun _ _ G=>(Sq nb oO e6 (L.qo 1) G gI k6 cA).mono (by omega)) (Wp (S _) fun _ _ G=>(Xl e6 (L.qo 2) G k7 cA).mono (by omega)) (Wp (S _) fun _ _ G=>(Xm nb (L.wy 0) G cA).mono (by omega)) (Wp (S _) fun _ _ G=>(Xn nb (L.wy 1) G ni cA).mono (by omega))
theorem XG(l:List Bool):sees l ah 0=l:=by
 unfold sees
 rw[List.drop_zero]
 have e:xor ah=(id:Bool->Bool):=by funext x;cases x<;>rfl
 rw[e,List.map_id]
noncomputable def k9(aN:Bool->ae)(dP:ae)(l:List Bool)(H:au)(Q:bx)(E:bP):R D->Prop
 | .ok d s=>if s=[] then ∀ v H',Ext H H'->fP H' d v->Q v H' else ∀ d,H d=aw->E (.ref dP) (J d) (upd H d (kY ((l.length - s.length:Nat):Int)))
 | .no w k=>∀ d,H d=aw->E (.ref (aN w)) (J d) (upd H d (kY (kK l w k)))
 | .st=>False
theorem k9.imp{aN:Bool->ae}{dP:ae}{l:List Bool}{H:au}{Q fX:bx}{E:bP}{r:R D}(h:k9 aN dP l H Q E r)(k:∀ v H',Q v H'->fX v H'):k9 aN dP l H fX E r:=by
 cases r with
 | ok d s =>
  show if s=[] then _ else _
  have h:(if s=[] then ∀ v H',Ext H H'->fP H' d v->Q v H' else _):=h
  by_cases z:s=[]
  ·rw[if_pos z] at h ⊢
   exact fun v H' x hd=>k _ _ (h v H' x hd)
  ·rw[if_neg z] at h ⊢
   exact h
 | no w k=>exact h
 | st=>exact h
noncomputable def Jl(aN:Bool->ae)(dP:ae)(l:List Bool)(p:ae)(H:au)(Q:bx)(E:bP):R D->Prop
 | .ok d s=>if s=[] then ∀ v H' o,b3 p H H'->fP H' d v->H' p=J o->Q v H' else iP E p H dP ((l.length - s.length:Nat):Int)
 | .no w k=>iP E p H (aN w) (kK l w k)
 | .st=>False
inductive Pq(aN:Bool->ae)(dP:ae)(N:Nat)(has:eW->Bool)(c:eu)(C:ae)(n:Nat)(vs:List V)(H:au)(Q:bx)(E:bP):Prop where
 |mk (o p al:ae) (f:bN) (l:List Bool) (e:Bool) (bu:vs=[.ref o,.ref p]) (aj:b4 c [p] H f o) (ar:mh has f) (bB:aW f<=n) (b0:H p=J (gZ C al l 0 ah e)) (eB:l.length<=16000000) (kN:Jl aN dP l p H Q E (cZ N e f l)):Pq aN dP N has c C n vs H Q E
def Ip(aN:Bool->ae)(dP:ae)(N:Nat)(has:eW->Bool)(c:eu)(C:ae)(n:Nat):b5:=fun vs H Q E=>Pq aN dP N has c C n vs H Q E
theorem VR{f q1 C eV:ae}{aN:Bool->ae}{N:Nat}{fd q2:fu}(nb:dV mg)(T:qL K C)(F:dF K mg "value_of" Ef ["form","source"] f fd)(lQ:qu P w K mg base (2*n+7) "draw" ["self","source"] (fE c) (jG aN N has c C n))(DE:sH K mg "Left" eV q1)(DB:cg P w K mg base dk 1 q1 q2 ["self","place"] (rJ eV))(Dy:Binds K q2 ["self","place"] []):gH P w K mg base (2*n+8) "value_of" ["form","source"] (Ip aN eV N has c C n):=by
 refine F.iz Ke (fun bb A outer s H vs Q E az h=>?_)
 obtain⟨o,p,al,g,l,e,rfl,b6,aR,cW,b7,aC,q⟩:=h
 obtain⟨fZ,f3,fb,li⟩:=b4.draw g b6
 refine⟨_,(aP (bV 2 Ke.br (uF lQ az gs.x (ai 0) (av (ai 1) aA) (hk':=by omega)))
  (aP (cR (cm oa (ee (ai 1) rfl) (cj d8 rfl nb.dZ d3 (av (ee (ai 1) rfl) aA))) (aT (EB Ex DE DB Dy az (av (ee (ai 1) rfl) aA) (hk:=by omega))) cQ)
  (aT (bG (ai 2))))),?_⟩
 try dsimp only[cS,cT,cU,cV]
 refine⟨_,I,o,slot g,fZ,f3,I,fb,li,?_⟩
 refine⟨_,I,o,p,al,g,l,0,ah,e,gc.qW p ⟨fun _=>False⟩,I,I,b6,aR,cW,b7,aC,UF _,gc.hd,?_,?_⟩
 ·rintro y (rfl | z)
  ·exact⟨_,b7⟩
  ·exact z.elim
 rw[XG]
 cases cY:cZ N e g l with
 | ok d s =>
  rw[cY] at q
  have q:(if s=[] then ∀ v H' o,b3 p H H'->fP H' d v->H' p=J o->Q v H' else iP E p H eV ((l.length - s.length:Nat):Int)):=q
  refine fun v H' j M hd cy hs lz=>?_
  have cG:=w6 cy hs
  refine⟨_,I,p,C,al,_,_,I,lz,T.cl,T.ry,uG ..,_,I,p,C,al,_,_,I,lz,T.cl,T.m1,Ao ..,_,_,I,⟨ku (by rw[dA];omega),I⟩,.inl ⟨_,_,I,I,_,I,?_⟩⟩
  by_cases z:s=[]
  ·rw[if_pos z] at q
   refine gC (by rw[dA];rw[z] at cG;have:=cG.1;rw[List.length_nil] at this;omega) ?_
   exact⟨_,I,_,M.sub lz,q _ _ _ M (dK.at d hd) lz⟩
  ·rw[if_neg z] at q
   have:0<s.length:=List.length_pos_iff.mpr z
   refine jl (by rw[dA];omega) ?_
   rw[cG.1] at q
   exact⟨_,I,p,C,al,_,_,I,lz,T.cl,T.ry,uG ..,_,I,ED (by omega),fun d hd=>q.up M _ d _ (b3.refl _ _) lz hd⟩
 | no w k =>
  rw[cY] at q
  exact iP.up q (b3.refl _ _)
 | st =>
  rw[cY] at q
  exact q
inductive Pd(aN:Bool->ae)(dP:ae)(N:Nat)(has:eW->Bool)(e:Bool)(c:eu)(n:Nat)(vs:List V)(H:au)(Q:bx)(E:bP):Prop where
 |mk (o:ae) (f:bN) (l:List Bool) (bu:vs=[.ref o,.str (bw l)]) (aj:b4 c [] H f o) (ar:mh has f) (bB:aW f<=n) (b0:l.length<=16000000) (eB:k9 aN dP l H Q E (cZ N e f l)):Pd aN dP N has e c n vs H Q E
def yS(aN:Bool->ae)(dP:ae)(N:Nat)(has:eW->Bool)(e:Bool)(c:eu)(n:Nat):b5:=fun vs H Q E=>Pd aN dP N has e c n vs H Q E
theorem k9.go{aN:Bool->ae}{dP p:ae}{l:List Bool}{H H1:au}{Q:bx}{E:bP}{r:R D}(kk:Ext H H1)(bu:H p=aw)(h:k9 aN dP l H Q E r):Jl aN dP l p H1 (fun v H'=>∃ bY,dg.Sub H bY H'/\Q v bY) (lr H E) r:=by
 have key:∀ (Z:ae) (i:Int),(∀ d,H d=aw->E (.ref Z) (J d) (upd H d (kY i)))->iP (lr H E) p H1 Z i:=fun Z i q o d H' M b7 hd=>by
  have hU:=b3.new kk bu M
  exact⟨_,.new (hU.s.free hd) (hU.s.trans (cL hd)) aM trivial,q d (hU.s.free hd)⟩
 cases r with
 | ok d s =>
  show if s=[] then _ else _
  have h:(if s=[] then ∀ v H',Ext H H'->fP H' d v->Q v H' else ∀ d,H d=aw->E (.ref dP) (J d) (upd H d (kY ((l.length - s.length:Nat):Int)))):=h
  by_cases z:s=[]
  ·rw[if_pos z] at h ⊢
   intro v H' o M hd _
   have hU:=b3.new kk bu M
   exact⟨_,hU.sub,h v H' hU hd⟩
  ·rw[if_neg z] at h ⊢
   exact key _ _ h
 | no w k=>exact key _ _ h
 | st=>exact h
theorem VS{f C dP:ae}{aN:Bool->ae}{N:Nat}{c:eu}{fd:fu}{n:Nat}{has:eW->Bool}(F:dF K mg "read_all" Ei ["form","signs"] f fd)(uR:ju P w K mg base 1 "Source" C ["self","signs","at"] (Io C))(uq:gH P w K mg base (2*n+8) "value_of" ["form","source"] (Ip aN dP N has c C n)):gH P w K mg base (2*n+9) "read_all" ["form","signs"] (yS aN dP N has ah c n):=by
 refine F.iz Vu (fun bb A outer s H vs Q E az h=>?_)
 obtain⟨o,g,l,rfl,b6,aR,cW,aC,q⟩:=h
 refine⟨_,(aT (bG (kH uq az gs.x (av (ai 0) (av (pz uR az (av (ai 1) (av aD aA)) (hk:=by omega)) aA)) (hk:=by omega)))),?_⟩
 try dsimp only[cS,cT,cU,cV]
 refine⟨_,I,_,I,fun x al nx HC HF=>?_⟩
 refine⟨x,al,_,_,I,aM,I,?_⟩
 rw[h8]
 have kk:=Ext.made (C:=C) (fs:=Bf (bw l) 0 ah ah) nx HC HF
 exact⟨o,x,al,g,l,ah,I,b4.keep (fun b u _ e=>kk.s b u e) g (b4.add nx g b6),aR,cW,aM,aC,q.go kk nx⟩
theorem VT{f C dP:ae}{aN:Bool->ae}{N:Nat}{c:eu}{fd:fu}{n:Nat}{has:eW->Bool}(e6:fe K C)(F:dF K mg "begun_by" Eo ["form","signs"] f fd)(uR:ju P w K mg base 1 "Source" C ["self","signs","at"] (Io C))(Df:lS P w K mg base 1 C "go_on" ["self"] (OH C))(uq:gH P w K mg base (2*n+8) "value_of" ["form","source"] (Ip aN dP N has c C n)):gH P w K mg base (2*n+9) "begun_by" ["form","signs"] (yS aN dP N has ag c n):=by
 refine F.iz Ki (fun bb A outer s H vs Q E az h=>?_)
 obtain⟨o,g,l,rfl,b6,aR,cW,aC,q⟩:=h
 refine⟨_,(aP (bV 2 Ki.br (pz uR az (av (ai 1) (av aD aA)) (hk:=by omega)))
  (aP (h9 (sk Df e6 az (ai 2) (hk:=by omega)))
  (aT (bG (kH uq az gs.x (av (ai 0) (av (ai 2) aA)) (hk:=by omega)))))),?_⟩
 try dsimp only[cS,cT,cU,cV]
 refine⟨_,I,fun x al nx HC HF=>?_⟩
 refine⟨x,al,_,_,I,aM,I,?_⟩
 rw[h8]
 refine⟨_,I,x,al,_,I,aM,xj _ _ _ _ (by decide +kernel) (by decide +kernel) (by decide +kernel),x,al,l,0,ah,ah,0,I,aM,?_⟩
 rw[h8]
 have oB:=Ext.made (C:=C) (fs:=Bf (bw l) 0 ah ag) nx HC HF
 exact⟨_,I,_,I,o,x,al,g,l,ag,I,b4.keep (fun b u _ e=>oB.s b u e) g (b4.add nx g b6),aR,cW,aM,aC,q.go oB nx⟩
theorem IF{p:eK->Prop}{D:Ends}{ab:St}{H:au}(T:eK)(h:p T)(g:∀ (G:Prop) (bQ:St),bQ=ab->(T D bQ H->G)->G):∃ T,p T/\T D ab H:=g _ ab rfl fun k=>⟨T,h,k⟩
theorem kt{Jg:bO}{i j:Nat}{R:eK}{D:Ends}{ab:St}{H:au}{T:ae}{w:V}{r:List V}(ay:ab[i]?=J (J (.ref T)))(e:H T=J (.tup (w::r)))(h:R D (ab.set j (J w)) H):wx (wu (o5 (fun x y H Q=>(HV Jg x y H Q\/HX Jg x y H Q)\/HW x y H Q) (wz i) (o4 (.int 0))) (vD j)) R D ab H:=⟨_,ay,.inl (.inr ⟨_,_,_,_,rfl,rfl,dc e,dt (j:=0) rfl,h⟩)⟩
theorem hV{i:Nat}{w x:af}{S R:eK}{D:Ends}{ab:St}{H:au}(ay:ab[i]?=J (J (.str x)))(bc:¬V.str x=V.str w)(h:R D ab H):wx (Iw (Cw (o5 Cd (wz i) (o4 (.str w)))) S Iz) R D ab H:=⟨_,ay,rfl,_,rfl,gC bc h⟩
theorem kI{i:Nat}{w:af}{S R:eK}{D:Ends}{ab:St}{H:au}(ay:ab[i]?=J (J (.str w)))(h:∀ N:St->au->Prop,S {D with nx:=N} ab H):wx (Iw (Cw (o5 Cd (wz i) (o4 (.str w)))) S Iz) R D ab H:=⟨_,ay,rfl,_,rfl,jl rfl (h _)⟩
theorem jF{S R:eK}{D:Ends}{ab:St}{H:au}(h:∀ N:St->au->Prop,(∀ ab H,R D ab H->N ab H)->S {D with nx:=N} ab H):wx S R D ab H:=h _ fun _ _ z=>z
inductive O5(vs:List V)(H:au)(Q:bx)(E:bP):Prop where
 |mk (c:Int) (bu:vs=[.int c]) (aj:∀ n:Nat,n+1<2 ^ 255->Q (.int n) H):O5  vs H Q E
def O4:b5:=fun vs H Q E=>O5  vs H Q E
theorem XB(c:Int)(bu:c%5≠0)(aj:c%5≠1):∃ M:Int,eH [V.int 5,V.int 40,V.int 1000] (c%5 - 2)=J (.int M)/\0<M/\M<=1000:=by
 have h:c%5 - 2=((0:Nat):Int)\/c%5 - 2=((1:Nat):Int)\/c%5 - 2=((2:Nat):Int):=by omega
 rcases h with h | h | h<;>rw[h]
 ·exact⟨_,dt I,by decide,by decide⟩
 ·exact⟨_,dt I,by decide,by decide⟩
 ·exact⟨_,dt I,by decide,by decide⟩
theorem SR{x:Int}(h:0<=x):∃ n:Nat,x=n:=⟨x.toNat,by omega⟩
theorem SH(r:Int)(h:0<=r):(2:Int)<=1*2 ^ (1+r).toNat:=by
 have e:(1+r).toNat=r.toNat+1:=by omega
 rw[e,Int.one_mul,Int.pow_succ]
 have:(0:Int)<2 ^ r.toNat:=Int.pow_pos (by decide)
 omega
theorem Mo:(1:Int)*2 ^ (255:Int).toNat=2 ^ 255:=by decide
theorem VJ(nb:dV mg)(F:dF K mg "_law_near" Em ["_law_cell"] f fd):bK P w K mg base 1 "_law_near" ["_law_cell"] O4:=by
 refine F.fK Kg (fun bb A outer s H vs Q E az h=>?_)
 obtain⟨c,rfl,q⟩:=h
 refine⟨_,(aP (bV 1 Kg.br (aQ hA (ai 0) aD))
  (aP (cR (cm dd (aQ dM (ai 0) aD) aD) (aT (bG (aQ dM (ai 1) (aQ gb (aQ Fz aD aD) aD)))) cQ)
  (aP (cR (cm dd (aQ dM (ai 0) aD) aD) (aT (bG (cj (EG rfl) rfl nb.Hx FH (av (aQ eh (aQ gb (aQ Fz aD (aQ eh aD (aQ dM (ai 1) aD))) aD) (aQ dM (aQ hA (ai 1) aD) aD)) (av (aQ gb (aQ Fz aD aD) aD) aA))))) cQ)
  (aT (bG (aQ dM (ai 1) (cN cP (fU (av aD (av aD (av aD aA)))) (aQ gb (aQ dM (ai 0) aD) aD)))))))),?_⟩
 try dsimp only[cS,cT,cU,cV]
 have cF:∀ (x:Int) (H':au),0<=x->x+1<2 ^ 255->er H H'->∃ bY,dg.Sub H bY H'/\Q (.int x) bY:=fun x H' bu aj hs=>by
  obtain⟨n,rfl⟩:=SR bu
  exact⟨H,.refl hs,q n (by omega)⟩
 refine⟨_,I,_,_,I,I,⟨by decide,by decide⟩,?_⟩
 refine⟨_,I,_,_,I,I,(by show (0:Int)<5;decide),I,_,I,?_⟩
 refine e0 (fun a=>?_) (fun a=>?_)
 ·refine⟨_,I,_,_,I,I,⟨by decide,by decide,by decide⟩,_,_,rfl,rfl,_,_,rfl,rfl,?_⟩
  rw[Mo]
  have p:(0:Int)<2 ^ 255 - 1:=by decide
  refine⟨p,cF _ _ (hl _ (by decide)) ?_ (dR _)⟩
  have:=hy (c/5) p
  omega
 ·refine⟨_,I,_,_,I,I,(by show (0:Int)<5;decide),I,_,I,?_⟩
  refine e0 (fun b=>?_) (fun b=>?_)
  ·refine⟨_,I,_,_,I,I,(by show (0:Int)<255;decide),.inl ⟨_,_,I,I,?_⟩⟩
   have ks:=hl (c/5) (show (255:Int)≠0 by decide)
   have cp:=hy (c/5) (show (0:Int)<255 by decide)
   refine⟨_,_,I,I,⟨by omega,by omega,by decide⟩,_,_,rfl,rfl,?_⟩
   refine⟨_,I,_,_,I,I,⟨by decide,by decide⟩,_,_,rfl,rfl,(by show (0:Int)<3;decide),.inl ⟨_,_,rfl,rfl,?_⟩⟩
   refine⟨_,_,I,I,⟨by decide,by decide,by decide⟩,_,_,rfl,rfl,_,_,rfl,?_⟩
   have g:=SH (c/5%255) ks
   have s0:=hl (c/5/255) (show (3:Int)≠0 by decide)
   dsimp only
   rw[Mo]
   have big:(2:Int)<=2 ^ 255:=by decide
   refine cF _ _ ?_ ?_ (dR _)
   ·split<;>omega
   ·split<;>omega
  ·obtain⟨M,mP,w0,g5⟩:=XB c (fun z=>a (congrArg V.int z)) (fun z=>b (congrArg V.int z))
   refine⟨_,I,(by show 3<=bT;decide),fun r vU=>⟨_,I,_,_,I,I,(by show (0:Int)<5;decide),_,_,I,I,.inl (.inl ⟨_,_,_,_,I,I,bX aM,mP,_,_,I,I,w0,?_⟩)⟩⟩
   have m0:=hl (c/5) (Int.ne_of_gt w0)
   have fJ:=hy (c/5) w0
   have big:(2:Int)+1000<=2 ^ 255:=by decide
   exact cF _ _ m0 (by omega) (cL vU)
inductive Pg(vs:List V)(H:au)(Q:bx)(E:bP):Prop where
 |mk (c:Int) (bu:vs=[.int c]) (aj:∀ n:Int,iu n->Q (.int n) H):Pg  vs H Q E
def Il:b5:=fun vs H Q E=>Pg  vs H Q E
theorem UH(F:dF K mg "_law_signed" DV ["_law_cell"] f fd)(ze:bK P w K mg base 1 "_law_near" ["_law_cell"] O4):bK P w K mg base 2 "_law_signed" ["_law_cell"] Il:=by
 refine F.fK Ut (fun bb A outer s H vs Q E az h=>?_)
 obtain⟨c,rfl,q⟩:=h
 refine⟨_,(aP (cR (cm dd (aQ dM (ai 0) aD) aD) (aT (bG (aQ gb (lj k3 aD) (cq ze az (av (aQ hA (ai 0) aD) aA))))) cQ)
  (aT (bG (cq ze az (av (aQ hA (ai 0) aD) aA))))),?_⟩
 try dsimp only[cS,cT,cU,cV]
 refine⟨_,I,_,_,I,I,(by show (0:Int)<2;decide),I,_,I,?_⟩
 refine e0 (fun a=>?_) (fun a=>?_)
 ·refine⟨_,I,_,I,_,_,I,I,⟨by decide,by decide⟩,_,rfl,fun n bc=>⟨_,_,rfl,rfl,H,.refl (dR _),q _ ⟨?_,?_⟩⟩⟩<;>omega
 ·refine⟨_,I,_,_,I,I,⟨by decide,by decide⟩,_,rfl,fun n bc=>⟨H,.refl (dR _),q _ ⟨?_,?_⟩⟩⟩<;>omega
theorem sM{α:Type}(f:α->V)(xs:List α)(c m:Int)(hm:m=xs.length)(h:0<xs.length):∃ n,n∈xs/\eH (xs.map f) (c%m)=J (f n):=by
 subst hm
 have aj:=hl c (b:=(xs.length:Int)) (by omega)
 have ar:=hy c (b:=(xs.length:Int)) (by omega)
 obtain⟨k,hk⟩:=Int.eq_ofNat_of_zero_le aj
 rw[hk]
 have p9:k<xs.length:=by omega
 exact⟨xs[k],List.getElem_mem p9,dt (by rw[fT,dm p9];rfl)⟩
theorem jT(c:Int)(n:Nat)(h:0<n):∃ k:Nat,k<n/\c%((n:Nat):Int)=((k:Nat):Int):=by
 have aj:=hl c (b:=(n:Int)) (by omega)
 have ar:=hy c (b:=(n:Int)) (by omega)
 obtain⟨k,hk⟩:=Int.eq_ofNat_of_zero_le aj
 exact⟨k,by omega,hk⟩
inductive Pc(K:bO)(vs:List V)(H:au)(Q:bx)(E:bP):Prop where
 |mk (a:ae) (ns:List Int) (bu:vs=[.ref a]) (aj:dQ K H a (ns.map V.int)) (ar:ns.length<=63) (bB:∀ (p:ae) (ms:List Int),H p=aw->ms.length<=90->Q (.ref p) (upd H p (.lst (ms.map V.int)))):Pc K vs H Q E
def Pb(K:bO):b5:=fun vs H Q E=>Pc K vs H Q E
theorem VI(nb:dV mg)(F:dF K mg "_law_pool" Ek ["_law_script"] f fd):bK P w K mg base 1 "_law_pool" ["_law_script"] (Pb K):=by
 refine F.fK sE (fun bb A outer s H vs Q E az h=>?_)
 obtain⟨a,ns,rfl,b7,aC,q⟩:=h
 refine⟨_,(aP (bV 1 sE.br (fU aA))
  (aP (oD i9.never rfl (pF rfl nb.oc (av (aQ kr aD (cj (EG rfl) rfl nb.Hx FH (av aD (av (cj d8 rfl nb.dZ d3 (av (ai 0) aA)) aA)))) aA)) (eG (i:=2) sE.br rfl (by exact Or.inl I))
   (aP (bV 3 sE.br (aQ eh (cN cP (ai 0) (aQ dM (ai 2) (cj (EG rfl) rfl nb.Hx FH (av aD (av (cj d8 rfl nb.dZ d3 (av (ai 0) aA)) aA))))) (aQ kr (aQ hA (ai 2) (cj d8 rfl nb.dZ d3 (av (ai 0) aA))) (aQ eh (aQ kr (aQ kr (ai 2) (ai 2)) aD) aD))))
   (aP (cR (cm dd (aQ dM (aQ hA (cN cP (ai 0) aD) aD) aD) aD) (aP (bV 3 sE.br (aQ dM (aQ eh (aQ eh (aQ kr (ai 3) aD) (aQ kr (ai 2) aD)) aD) aD))
    (aP (bV 3 sE.br (aQ dM (aQ kr (ai 3) (ai 3)) aD))
    (aT (bV 3 sE.br (aQ eh (aQ kr (ai 3) aD) (aQ dM (aQ kr (ai 3) (ai 3)) aD)))))) cQ)
   (aT (h9 (jP PySem.F.plainAttrs_list PySem.F.slot_list_append PySem.F.type_list_append sl (ai 1) (av (ai 3) aA)))))))
  (aT (bG (ai 1))))),?_⟩
 try dsimp only[cS,cT,cU,cV]
 refine⟨UF _,fun p bh=>?_⟩
 have s0:=cL (o:=cv.lst []) bh
 refine⟨_,I,_,_,I,.inl ⟨_,s0.seq b7,I⟩,_,_,I,.inl ⟨_,_,I,I,.inl ⟨by decide,by decide⟩,?_⟩⟩
 rw[cM]
 refine⟨_,I,?_,?_,?_⟩
 ·split<;>omega
 ·split<;>omega
 have gP:(90*(if ((ns.length:Nat):Int)<1 then ((ns.length:Nat):Int) else 1)).toNat=if ns.length=0 then 0 else 90:=by split<;>split<;>omega
 rw[gP]
 refine u9 (fun i ab ax=>∃ (ms:List Int) (di dj:Option V),ab=[J (.ref a),J (.ref p),di,dj]/\ms.length=i/\ax=upd H p (.lst (ms.map V.int))) ?_ ?_ ?_
 ·exact⟨[],aw,aw,I,I,I⟩
 ·rintro i ab ax aB ⟨ms,di,dj,rfl,hm,rfl⟩
  have ma:ns.length≠0:=fun z=>by rw[if_pos z] at aB;omega
  rw[if_neg ma] at aB
  have hs:=(cL (o:=cv.lst (ms.map V.int)) bh).seq b7
  obtain⟨k,hk,kJ⟩:=jT (0+((i:Nat):Int)) (min 63 ns.length) (by omega)
  have p9:k<ns.length:=by omega
  have iY:eH (ns.map V.int) ((k:Nat):Int)=J (.int ns[k]):=dt (by rw[fT,dm p9];rfl)
  have aaG:eH (ns.map V.int) 0=J (.int ns[0]):=dt (j:=0) (by rw[fT,dm (by omega)];rfl)
  have em:(if (((ns.map V.int).length:Nat):Int)<63 then (((ns.map V.int).length:Nat):Int) else 63)=((min 63 ns.length:Nat):Int):=by rw[cM];split<;>omega
  have eQ:=Int.ediv_nonneg (a:=0+((i:Nat):Int)) (b:=(((ns.map V.int).length:Nat):Int)) (by omega) (by omega)
  have hB:=Int.ediv_le_self (a:=0+((i:Nat):Int)) (((ns.map V.int).length:Nat):Int) (by omega)
  have lm:(((ns.map V.int).length:Nat):Int)=((ns.length:Nat):Int):=by rw[cM]
  refine⟨_,I,_,I,_,I,_,_,I,.inl ⟨_,hs,I⟩,_,_,I,_,_,I,I,(by rw[em];omega),.inl (.inl ⟨_,_,_,_,I,I,hs,(by rw[em,kJ];exact iY),?_⟩)⟩
  refine⟨_,I,_,I,_,_,I,.inl ⟨_,hs,I⟩,_,_,I,I,⟨by omega,by omega⟩,?_⟩
  refine⟨_,I,_,I,.inl ⟨_,_,I,I,.inl ⟨by omega,by omega⟩,.inl ⟨_,_,rfl,rfl,.inr ⟨by decide,by decide⟩,.inl ⟨_,_,rfl,rfl,.inl ⟨_,_,rfl,rfl,.inl ⟨by omega,by omega⟩,.inl ⟨_,_,rfl,rfl,?_⟩⟩⟩⟩⟩⟩
  have cF:∀ (n:Int) (di:Option V),∃ (yt:List Int) (di dj:Option V),[J (V.ref a),J (V.ref p),J (V.int (0+((i:Nat):Int))),J (V.int n)]=[J (.ref a),J (.ref p),di,dj]/\yt.length=i+1/\upd (upd H p (.lst (ms.map V.int))) p (.lst (ms.map V.int++[V.int n]))=upd H p (.lst (yt.map V.int)):=fun n di =>
   ⟨ms++[n],_,_,rfl,by rw[dI,hm];rfl,by rw[h8,fz];rfl⟩
  have cG:(ms.map V.int).length<bT:=by rw[cM];exact fi (show ms.length<100000 by omega) (by decide)
  refine⟨_,I,.inl (.inl ⟨_,_,_,_,I,I,hs,aaG,_,_,I,I,⟨by decide,by decide⟩,_,_,rfl,rfl,(by show (0:Int)<2;decide),rfl,_,rfl,e0 (fun e5=>?_) (fun e5=>?_)⟩)⟩
  ·refine⟨_,I,.inl ⟨_,_,I,I,.inr ⟨by decide,by decide⟩,_,rfl,.inl ⟨_,_,rfl,rfl,.inr ⟨by decide,by decide⟩,.inl ⟨_,_,rfl,rfl,.inl ⟨_,_,rfl,rfl,_,_,rfl,rfl,(by show (0:Int)<2147483629;decide),?_⟩⟩⟩⟩⟩
   dsimp only
   generalize du:((ns[k]+(0+((i:Nat):Int))/_*_)*48271+(0+((i:Nat):Int))*69621+11)=X
   have fJ:=hl X (show (2147483629:Int)≠0 by decide)
   have lF:=hy X (show (0:Int)<2147483629 by decide)
   generalize X%2147483629=m at fJ lF ⊢
   refine⟨_,I,_,I,.inl ⟨_,_,I,I,.inl ⟨by omega,by omega⟩,_,_,rfl,rfl,(by show (0:Int)<2147483587;decide),?_⟩⟩
   dsimp only
   have BZ:=hl (m*m) (show (2147483587:Int)≠0 by decide)
   have tE:=hy (m*m) (show (0:Int)<2147483587 by decide)
   generalize m*m%2147483587=v at BZ tE ⊢
   refine⟨_,I,.inl ⟨_,_,I,I,.inl ⟨by omega,by omega⟩,_,rfl,_,rfl,.inl ⟨_,_,rfl,rfl,.inl ⟨by omega,by omega⟩,_,_,rfl,rfl,(by show (0:Int)<2147483563;decide),.inl ⟨_,_,rfl,rfl,?_⟩⟩⟩⟩
   refine⟨_,I,.inl ⟨I,_,bX aM⟩,_,I,p,_,_,I,I,aM,cG,?_⟩
   exact cF _ aw
  ·refine⟨_,I,.inl ⟨I,_,bX aM⟩,_,I,p,_,_,I,I,aM,cG,?_⟩
   exact cF _ aw
 ·rintro ab ax ⟨ms,di,dj,rfl,hm,rfl⟩
  refine⟨_,I,_,.new bh (cL bh) aM trivial,q p ms bh ?_⟩
  split at hm<;>omega
theorem agx{n:Nat}(h:0<n):seqIndex? 0 n=J 0:=by
 obtain⟨j,aj,ar,_⟩:=AN (xs:=List.range n) (i:=0) (v:=0) (dt (j:=0) (by rw[List.getElem?_range h]))
 rw[lW] at aj
 rw[kE] at ar
 obtain⟨_,z⟩:=ar
 rw[List.getElem_range] at z
 rw[aj,z]
inductive O7(vs:List V)(H:au)(Q:bx)(E:bP):Prop where
 |mk (p) (bu:vs=[.ref p]) (aj:ny p H) (ar:∀ (c:Int) (ns:List Int),ns.length<=90->Q (.int c) (upd H p (.lst (ns.map V.int)))):O7  vs H Q E
def wm:b5:=fun vs H Q E=>O7  vs H Q E
noncomputable def pl(H:au)(p:ae):Nat:=match H p with | some (.lst vs)=>vs.length | _=>0
theorem vq{H:au}{p:ae}{vs:List V}(h:H p=J (.lst vs)):pl H p=vs.length:=by unfold pl;rw[h]
inductive O6(vs:List V)(H:au)(Q:bx)(E:bP):Prop where
 |mk (p) (bu:vs=[.ref p]) (aj:ny p H) (ar:∀ (c:Int) (ns:List Int),ns.length<=90->(pl H p=ns.length+1\/pl H p=0/\ns=[]/\c=0)->Q (.int c) (upd H p (.lst (ns.map V.int)))):O6  vs H Q E
def yR:b5:=fun vs H Q E=>O6  vs H Q E
theorem Vb(nb:dV mg)(F:dF K mg "_law_next" El ["_law_pool_here"] f fd):bK P w K mg base 1 "_law_next" ["_law_pool_here"] yR:=by
 refine F.fK Vw (fun bb A outer s H vs Q E az h=>?_)
 obtain⟨p,rfl,⟨ns,bh,aC⟩,q⟩:=h
 have hm:=vq bh
 rw[cM] at hm
 refine⟨_,(aP (cR (cm dd (cj d8 I nb.dZ d3 (av (ai 0) aA)) aD) (aT (bG aD)) cQ)
  (aT (bG (jP PySem.F.plainAttrs_list PySem.F.slot_list_pop PySem.F.type_list_pop XZ (ai 0) (av aD aA))))),?_⟩
 try dsimp only[cS,cT,cU,cV]
 refine⟨_,I,_,_,I,.inl ⟨_,bX bh,I⟩,I,_,I,?_⟩
 rw[cM]
 cases ns with
 | nil =>
  refine jl I ?_
  have bu:=q 0 [] aC (.inr ⟨hm,rfl,rfl⟩)
  rw[Kx bh] at bu
  exact⟨H,.refl (dR _),bu⟩
 | cons c r =>
  refine gC (fun z=>nomatch z) ?_
  refine⟨_,I,.inl ⟨I,_,bX bh⟩,p,_,0,0,.int c,I,I,bh,by decide,by decide,agx (by rw[cM];exact Nat.succ_pos _),rfl,?_⟩
  have G7:r.length<=90:=ey (Nat.le_succ _) aC
  exact⟨_,(d1.pop ⟨_,bh,aC⟩ G7).sub,q c r G7 (.inl hm)⟩
theorem bK.less{k:Nat}{x:af}{ps:List af}{sp rI:b5}(h:bK P w K mg base k x ps sp)(i:∀ vs H Q E,rI vs H Q E->sp vs H Q E):bK P w K mg base k x ps rI:=by
 obtain⟨f,fd,F,r⟩:=h
 exact⟨f,fd,⟨fun vs H Q E q=>F.1 vs H Q E (i _ _ _ _ q),fun A outer s H args us vs Q E a b c d q=>F.2 A outer s H args us vs Q E a b c d (i _ _ _ _ q)⟩,r⟩
theorem WW{vs:List V}{H:au}{Q:bx}{E:bP}(h:wm vs H Q E):yR vs H Q E:=by
 obtain⟨p,e,ck,q⟩:=h
 exact⟨p,e,ck,fun c ns bc _=>q c ns bc⟩
inductive Pj(vs:List V)(H:au)(Q:bx)(E:bP):Prop where
 |mk (c:Int) (bu:vs=[.int c]) (aj:∀ s:af,ko s=ag->s.length<=60->Q (.str s) H):Pj  vs H Q E
def Ph:b5:=fun vs H Q E=>Pj  vs H Q E
theorem Va(nb:dV mg)(F:dF K mg "_law_signs" D2 ["_law_cell"] f fd):bK P w K mg base 1 "_law_signs" ["_law_cell"] Ph:=by
 refine F.fK oC (fun bb A outer s H vs Q E az h=>?_)
 obtain⟨c,rfl,q⟩:=h
 refine⟨_,(aP (bV 1 oC.br cJ)
  (aP (bV 2 oC.br (aQ eh aD (aQ dM (ai 0) (cN cP (fU (av aD (av aD (av aD (av aD aA))))) (aQ dM (aQ hA (ai 0) aD) aD)))))
  (aP (bV 3 oC.br (aQ hA (ai 0) aD))
  (aP (bV 4 oC.br cJ)
  (aP (oD i9.never rfl (pF rfl nb.oc (av (ai 2) aA)) (eG (i:=5) oC.br rfl (by exact Or.inl I))
   (aP (bV 6 oC.br (aQ dM (ai 3) (cj d8 rfl nb.dZ d3 (av (ai 1) aA))))
   (aP (bV 3 oC.br (aQ hA (ai 3) (cj d8 rfl nb.dZ d3 (av (ai 1) aA))))
   (aP (bV 4 oC.br (aQ eh (ai 4) (cN cP (ai 1) (ai 6))))
   (aT (bV 1 oC.br (aQ eh (qI rH (ai 1) qP (qO (ai 6))) (qI rH (ai 1) (qO (aQ eh (ai 6) aD)) qP))))))))
  (aT (bG (ai 4)))))))),?_⟩
 try dsimp only[cS,cT,cU,cV]
 refine⟨_,I,(by show 4<=bT;decide),fun g aK=>?_⟩
 obtain⟨x,ay,j3⟩:=sM V.int [2,3,7,60] (c/60) 4 rfl (by show 0<4;decide)
 have vV:0<x/\x<=60:=by
  have:∀ y∈([2,3,7,60]:List Int),0<y/\y<=60:=by decide
  exact this x ay
 refine⟨_,I,_,_,I,I,⟨by decide,by decide⟩,_,_,rfl,rfl,(by show (0:Int)<4;decide),.inl (.inl ⟨_,_,_,_,rfl,rfl,bX aM,j3,_,_,rfl,rfl,vV.1,.inl ⟨_,_,rfl,rfl,?_⟩⟩)⟩
 have v0:=hl c (show x≠0 by omega)
 have v1:=hy c vV.1
 generalize c%x=m at v0 v1 ⊢
 obtain⟨n,rfl⟩:=Int.eq_ofNat_of_zero_le v0
 refine⟨_,I,_,_,I,I,⟨by decide,by decide⟩,?_⟩
 refine⟨_,I,_,I,by omega,by omega,?_⟩
 have gP:(1+((n:Nat):Int)).toNat=n+1:=by omega
 rw[gP]
 refine u9 (fun i ab ax=>er H ax/\∃ (rest found:af) (num:Int) (di dj hh:Option V),ab=[J (.int c),J (.str rest),hh,J (.int num),J (.str found),di,dj]/\rest.length=62 - i/\found.length=i/\(found.cps.toList++rest.cps.toList).Perm pC.cps.toList) ?_ ?_ ?_
 ·refine⟨cL aK,pC,af.ofString "",c/240,aw,aw,_,I,Sx,by decide +kernel,?_⟩
  rw[show (af.ofString "").cps.toList=[] by decide +kernel]
  exact List.Perm.refl _
 ·rintro i ab ax aB ⟨hs,rest,found,num,di,dj,hh,rfl,aC,aE,bh⟩
  have tC:rest.length<=bT:=eX (by omega)
  obtain⟨k,hk,kJ⟩:=jT num rest.length (by omega)
  obtain⟨bg,iY,Zf⟩:=WH hk
  have gp:=J6 rest k (by omega)
  have fC:=JX rest (k+1) (by omega)
  refine⟨_,I,_,I,_,_,I,⟨tC,I⟩,_,_,I,I,(by omega),?_⟩
  dsimp only
  rw[kJ]
  refine⟨_,I,_,I,_,_,I,⟨tC,I⟩,_,_,I,I,⟨by omega,by omega⟩,?_⟩
  refine⟨_,I,_,I,_,I,.inr ⟨_,_,_,I,I,tC,iY,.inr ⟨_,_,I,I,eX (by show _+1<=_;omega),?_⟩⟩⟩
  have aG:((k:Nat):Int)+1=((k+1:Nat):Int):=by omega
  refine⟨_,I,_,I,_,I,.inr ⟨_,I,tC,_,I,_,I,.inl ⟨_,_,I,I,_,I,.inr ⟨_,I,tC,.inr ⟨_,_,I,I,?_,?_⟩⟩⟩⟩⟩
  ·rw[gp,aG,fC];exact eX (by omega)
  ·rw[aG]
   refine⟨hs,_,_,_,_,_,_,I,?_,?_,?_⟩
   ·rw[oz,gp,fC];omega
   ·rw[oz,aE];rfl
   ·rw[vm,vm]
    exact(WN Zf).trans bh
 ·rintro ab ax ⟨hs,rest,found,num,di,dj,hh,rfl,aC,aE,bh⟩
  exact⟨_,I,H,.refl hs,q _ (Wo bh (by omega) (by omega)) (by omega)⟩
inductive O3(vs:List V)(H:au)(Q:bx)(E:bP):Prop where
 |mk (c:Int) (m:Nat) (bu:vs=[.int c,.int ((m:Nat):Int)]) (aj:0<m) (ar:m<=20) (bB:∀ (D:ae) (ns:List af),H D=aw->ns.length=m->jZ ns=ag->Q (.ref D) (upd H D (.lst (ns.map V.str)))):O3  vs H Q E
def Ig:b5:=fun vs H Q E=>O3  vs H Q E
theorem Vc(nb:dV mg)(F:dF K mg "_law_names" D3 ["_law_cell","_law_many"] f fd):bK P w K mg base 1 "_law_names" ["_law_cell","_law_many"] Ig:=by
 refine F.fK nJ (fun bb A outer s H vs Q E az h=>?_)
 obtain⟨c,m,rfl,G9,hm,q⟩:=h
 refine⟨_,(aP (bV 2 nJ.br cJ)
  (aP (bV 3 nJ.br (aQ dM (ai 0) aD))
  (aP (bV 4 nJ.br (aQ dM (aQ hA (ai 0) aD) (aQ eh (ai 3) aD)))
  (aP (bV 5 nJ.br (cN cP (fU (av aD (av aD (av aD (av aD (av aD (av aD aA))))))) (aQ dM (aQ hA (aQ hA (ai 0) aD) (aQ eh (ai 3) aD)) aD)))
  (aP (bV 6 nJ.br (aQ hA (aQ hA (ai 0) aD) (aQ eh (ai 3) aD)))
  (aP (bV 7 nJ.br (aQ dM (ai 6) aD))
  (aP (bV 8 nJ.br cJ)
  (aP (oD i9.never rfl (pF rfl nb.oc (av (ai 3) aA)) (eG (i:=9) nJ.br rfl (by first | exact Or.inl I | exact Or.inr I))
   (aP (bV 6 nJ.br (aQ hA (ai 6) aD))
   (aT (bV 8 nJ.br (aQ eh (ai 8) (cN cP (ai 2) (aQ dM (ai 6) aD)))))))
  (aT (bG (iQ ["_law_k"] [(8,"_law_stem"),(4,"_law_at"),(2,"_law_some"),(7,"_law_first"),(5,"_law_step")] rfl (by decide +kernel) ⟨rfl,.inl rfl,rfl,.inl rfl,rfl,.inl rfl,rfl,.inl rfl,rfl,.inl rfl,trivial⟩ (pF rfl nb.oc (av (ai 1) aA)) (fun _ _ _ _ _=>(eG (i:=0) (show (["_law_k","_law_stem","_law_at","_law_some","_law_first","_law_step"]:List af).Nodup by decide +kernel) rfl (by first | exact Or.inl I | exact Or.inr I))) (fun _ _ _ _ _=>iE) (fun _ _ _ _ _=>(aQ eh (aQ eh (qI rH (ai 1) qP (qO (ai 2))) (cN cP (ai 3) (aQ dM (aQ eh (ai 4) (aQ kr (ai 0) (ai 5))) aD))) (qI rH (ai 1) (qO (ai 2)) qP)))))))))))))),?_⟩
 try dsimp only[cS,cT,cU,cV]
 obtain⟨c0,f7,Zv⟩:=jT c 12 (by decide)
 have Zu:c%12=((c0:Nat):Int):=Zv
 obtain⟨a,ba,Y2⟩:=jT (c/12) (c0+1) (by omega)
 have c7:c/12%(((c0:Nat):Int)+1)=((a:Nat):Int):=Y2
 refine⟨_,I,_,_,I,I,(by show (0:Int)<12;decide),?_⟩
 dsimp only
 rw[Zu]
 refine⟨_,I,_,_,I,I,⟨by decide,by decide⟩,_,rfl,.inl ⟨_,_,rfl,rfl,_,_,rfl,rfl,(by omega),?_⟩⟩
 dsimp only
 rw[c7]
 refine⟨(by show 6<=bT;decide),fun g aK=>?_⟩
 obtain⟨x,ay,j3⟩:=sM V.int [1,3,5,7,9,11] (c/12/(((c0:Nat):Int)+1)) 6 rfl (by show 0<6;decide)
 have vV:0<x/\x<=11:=by
  have:∀ y∈([1,3,5,7,9,11]:List Int),0<y/\y<=11:=by decide
  exact this x ay
 refine⟨_,I,_,_,I,I,⟨by decide,by decide⟩,_,rfl,.inl ⟨_,_,rfl,rfl,_,_,rfl,rfl,⟨by omega,by omega⟩,_,_,rfl,rfl,(by show (0:Int)<6;decide),.inl (.inl ⟨_,_,_,_,rfl,rfl,bX aM,j3,?_⟩)⟩⟩
 refine⟨_,I,_,_,I,I,⟨by decide,by decide⟩,_,rfl,.inl ⟨_,_,rfl,rfl,_,_,rfl,rfl,⟨by omega,by omega⟩,?_⟩⟩
 refine⟨_,I,_,_,I,I,(by show (0:Int)<26;decide),?_⟩
 refine⟨_,I,_,I,by omega,by omega,?_⟩
 have gP:(((c0:Nat):Int)).toNat=c0:=by omega
 rw[gP]
 have NL:jM.length<=bT:=by rw[Fp];exact eX (by decide)
 refine u9 (fun i ab ax=>er H ax/\∃ (oh:af) (num fst:Int) (di dj:Option V),ab=[J (.int c),J (.int ((m:Nat):Int)),J (.str jM),dj,J (.int ((a:Nat):Int)),J (.int x),J (.int num),J (.int fst),J (.str oh),di]/\oh.length=i/\lV i jM.cps.toList oh) ?_ ?_ ?_
 ·refine⟨cL aK,af.ofString "",_,_,aw,_,I,by decide +kernel,by decide +kernel,fun c h=>?_⟩
  rw[show (af.ofString "").cps.toList=[] by decide +kernel] at h
  cases h
 ·rintro i ab ax aB ⟨hs,oh,num,fst,di,dj,rfl,aC,aW⟩
  obtain⟨k,hk,Zj⟩:=jT (num/26) 26 (by decide)
  have kJ:num/26%26=((k:Nat):Int):=Zj
  obtain⟨bg,qe,iY⟩:=Sv (x:=jM) (k:=k) (by rw[Fp];exact hk)
  refine⟨_,I,_,_,I,I,⟨by decide,by decide⟩,?_⟩
  refine⟨_,I,_,I,_,I,_,_,I,I,(by show (0:Int)<26;decide),.inr ⟨_,_,_,I,I,NL,(by rw[kJ];exact iY),.inr ⟨_,_,I,I,eX (by show _+1<=_;omega),?_⟩⟩⟩
  exact⟨hs,_,_,_,_,_,I,by rw[oz,aC];rfl,aW.app (lV.one qe)⟩
 ·rintro ab ax ⟨hs,oh,num,fst,di,dj,rfl,aC,aW⟩
  have ls:oh.length<=bT:=eX (by omega)
  refine⟨_,I,_,I,by omega,by omega,fun D dB=>?_⟩
  have em:(((m:Nat):Int)).toNat=m:=by omega
  rw[em]
  have ajK:jM.cps.toList.length=26:=by rw[hT];exact Fp
  have gp:=J6 oh a (by omega)
  have fC:=JX oh a (by omega)
  let ro:Nat->Nat:=fun i=>((fst+(0+((i:Nat):Int))*x)%26).toNat
  have oT:∀ i,ro i<26/\(fst+(0+((i:Nat):Int))*x)%26=((ro i:Nat):Int):=fun i=>by
   have aj:=hl (fst+(0+((i:Nat):Int))*x) (show (26:Int)≠0 by decide)
   have ar:=hy (fst+(0+((i:Nat):Int))*x) (show (0:Int)<26 by decide)
   constructor
   ·show Int.toNat _<26
    omega
   ·show _=((Int.toNat _:Nat):Int)
    omega
  let B4:Nat->af:=fun i=>(Txt.slice oh aw (J ((a:Nat):Int))++⟨#[jM.cps.toList.getD (ro i) 0]⟩)++Txt.slice oh (J ((a:Nat):Int)) aw
  refine E1 m (fun i => .int (0+((i:Nat):Int))) (fun i=>V.str (B4 i)) (fun ab=>∃ z,ab=[z,J (.str oh),J (.int ((a:Nat):Int)),J (.str jM),J (.int fst),J (.int x)]) (eX (by omega)) ⟨_,I⟩ ?_ ?_ ?_ ?_ ?_
  ·intro i H1 aB;exact aB
  ·intro H1;exact cx _
  ·rintro i H1 y bt aB ⟨rfl,rfl⟩;exact⟨I,I⟩
  ·rintro i b8 H1 aB ⟨z,rfl⟩ R cY
   obtain⟨hk,kJ⟩:=oT i
   have iY:eH jM.cps.toList ((ro i:Nat):Int)=J (jM.cps.toList.getD (ro i) 0):=dt (by rw[e9,dm (by omega)];rfl)
   have aG:(⟨#[jM.cps.toList.getD (ro i) 0]⟩:af).length=1:=rfl
   refine⟨_,I,_,I,_,I,.inr ⟨_,I,ls,?_⟩⟩
   refine⟨_,I,_,I,_,I,_,I,.inl ⟨_,_,I,I,.inr ⟨by omega,by omega⟩,.inl ⟨_,_,rfl,rfl,_,_,rfl,rfl,(by show (0:Int)<26;decide),.inr ⟨_,_,_,rfl,rfl,NL,(by rw[kJ];exact iY),.inr ⟨_,_,rfl,rfl,eX (by omega),?_⟩⟩⟩⟩⟩
   refine⟨_,I,_,I,_,I,.inr ⟨_,I,ls,.inr ⟨_,_,I,I,eX (by rw[oz];omega),?_⟩⟩⟩
   exact cY _ ⟨_,I⟩
  ·have e:(List.range m).map (fun i=>V.str (B4 i))=((List.range m).map B4).map V.str:=by rw[ir];rfl
   rw[e]
   have Bm:=hs.free dB
   refine⟨_,.new Bm (hs.trans (cL dB)) aM trivial,q D ((List.range m).map B4) Bm (by rw[cM,lW]) ?_⟩
   refine Vn (by rw[cM,lW];omega) (by rw[cM,lW];omega) ?_ ?_
   ·unfold List.Nodup
    rw[List.pairwise_iff_getElem]
    intro i j aB cy G4
    rw[cM,lW] at aB cy
    rw[jR,jR,List.getElem_range,List.getElem_range]
    intro dj
    have hh:=R4 dj
    obtain⟨BD,Zk⟩:=oT i
    obtain⟨p9,Zl⟩:=oT j
    rw[e9,e9,dm (by omega),dm (by omega)] at hh
    have IV:=(List.getElem_inj Xy).mp hh
    have:=XD (f:=fst) ay (show i<26 by omega) (show j<26 by omega) (by rw[Zk,Zl,IV])
    omega
   ·intro n bc
    obtain⟨i,_,rfl⟩:=List.mem_map.mp bc
    obtain⟨hk,kJ⟩:=oT i
    refine WY ⟨?_,?_⟩ ?_
    ·show (_++_:af).length<=12
     rw[oz,oz,gp,fC]
     show a+1+_<=12
     omega
    ·refine(((aW.slice aw (J ((a:Nat):Int))).app (lV.one ?_)).app (aW.slice (J ((a:Nat):Int)) aw)).s
     rw[e9,dm (by omega)]
     exact List.getElem_mem _
    ·show 0<(_++_:af).length
     rw[oz,oz]
     show 0<_+1+_
     omega
noncomputable def rS:af:=af.ofString "nothing"
noncomputable def ub:af:=af.ofString "truth"
noncomputable def uc:af:=af.ofString "whole"
noncomputable def rT:af:=af.ofString "span"
noncomputable def t9:af:=af.ofString "fraction"
noncomputable def ua:af:=af.ofString "letters"
noncomputable def CE:af:=af.ofString "maybe"
noncomputable def IH:af:=af.ofString "many"
noncomputable def II:af:=af.ofString "record"
noncomputable def PT:af:=af.ofString "choice"
noncomputable def IJ:af:=af.ofString "turned"
def Simp(H:au)(v:V):Prop:=∃ T,v = .ref T/\((∃ w,w∈[rS,ub,uc,t9]/\H T=J (.tup [.str w]))\/(∃ a b:Int,H T=J (.tup [.str rT,.int a,.int b])/\a<=b/\b - a<2 ^ 190/\a.natAbs<10 ^ 58/\b.natAbs<10 ^ 58)\/(∃ s:af,H T=J (.tup [.str ua,.str s])/\ko s=ag/\s.length<=60))
def mA(X:List ae)(H:au):Prop:=∀ x,x∈X->∃ l,H x=J (.lst l)
theorem mA.grow{X:List ae}{p:ae}{H H':au}(h:mA X H)(g:d1 p H H'):mA X H':=fun x ay=>by
 by_cases z:x=p
 ·subst z
  obtain⟨ns,e,_⟩:=g.l
  exact⟨_,e⟩
 ·obtain⟨l,e⟩:=h x ay
  exact⟨l,g.k _ _ z e⟩
inductive Pk(vs:List V)(H:au)(Q:bx)(E:bP):Prop where
 |mk (p:ae) (way:Nat) (bu:vs=[.ref p,.int ((way:Nat):Int)]) (aj:way<6) (ar:ny p H) (bB:∀ v H',d1 p H H'->Simp H' v->Q v H'):Pk  vs H Q E
def Ck:b5:=fun vs H Q E=>Pk  vs H Q E
theorem UG(F:dF K mg "_law_simple" DU ["_law_pool_here","_law_way"] f fd)(hS:bK P w K mg base 1 "_law_next" ["_law_pool_here"] wm)(C2:bK P w K mg base 1 "_law_signs" ["_law_cell"] Ph):bK P w K mg base 2 "_law_simple" ["_law_pool_here","_law_way"] Ck:=by
 refine F.fK DM (fun bb A outer s H vs Q E az h=>?_)
 obtain⟨p,way,rfl,hw,ck,q⟩:=h
 refine⟨_,(aP (cR (cm dd (ai 1) aD) (aP (bV 2 DM.br (aQ gb (aQ dM (cq hS az (av (ai 0) aA)) (aQ xx aD aD)) (aQ xx aD aD)))
   (aP (bV 3 DM.br (cq hS az (av (ai 0) aA)))
   (aT (bG (jS (av cJ (av (ai 2) (av (aQ eh (ai 2) (aQ dM (aQ hA (ai 3) aD) (cN cP (fU (av aD (av aD (av aD (av (aQ xx aD aD) aA))))) (aQ dM (ai 3) aD)))) aA)))))))) cQ)
  (aP (cR (cm dd (ai 1) aD) (aT (bG (jS (av cJ (av (cq C2 az (av (cq hS az (av (ai 0) aA)) aA)) aA))))) cQ)
  (aT (bG (jS (av (cN cP (fU (av cJ (av cJ (av cJ (av cJ (av cJ aA)))))) (ai 1)) aA)))))),?_⟩
 try dsimp only[cS,cT,cU,cV]
 refine⟨_,I,I,_,I,e0 (fun fD=>?_) (fun fD=>?_)⟩
 ·refine⟨_,I,p,I,ck,fun nM eT qb=>?_⟩
  have G1:=d1.pop ck qb
  have wg:∀ n:Int,n=57\/n=56->za 10 n:=fun n bc=>by rcases bc with rfl | rfl<;>(refine⟨?_,?_,?_⟩<;>decide)
  have N5:(0:Int)<10 ^ Int.toNat 57:=by decide +kernel
  refine⟨_,_,I,I,wg _ (.inl I),_,_,I,I,N5,_,_,I,I,wg _ (.inr I),_,_,I,I,?_⟩
  dsimp only
  have ade:∃ low:Int,low=nM%10 ^ Int.toNat 57 - 10 ^ Int.toNat 56/\-(10 ^ 57)<=low/\low<=10 ^ 57:=by
   refine⟨_,I,?_⟩
   have a1:=hl nM (show (10:Int) ^ Int.toNat 57≠0 by decide +kernel)
   have a2:=hy nM N5
   rw[show Int.toNat 57=57 from rfl] at a1 a2 ⊢
   rw[show Int.toNat 56=56 from rfl]
   omega
  obtain⟨low,iF,ajL,ajM⟩:=ade
  rw[<- iF]
  clear iF
  refine⟨_,I,p,I,G1.l,fun c dO kR=>?_⟩
  have ep:=G1.trans (d1.pop G1.l kR)
  generalize upd (upd H p (.lst (eT.map V.int))) p (.lst (dO.map V.int))=ax at ep ⊢
  refine⟨_,I,_,I,_,I,_,_,I,I,⟨by decide,by decide⟩,_,_,rfl,rfl,wg _ (.inl rfl),(by show 4<=bT;decide),fun g aK=>?_⟩
  obtain⟨x,ay,j3⟩:=sM V.int [1,5,300,10 ^ Int.toNat 57] c 4 rfl (by show 0<4;decide)
  obtain⟨vV,ajE,ajF⟩:0<x/\x<2 ^ 190/\x<=10 ^ 57:=by
   have:∀ y∈([1,5,300,10 ^ Int.toNat 57]:List Int),0<y/\y<2 ^ 190/\y<=10 ^ 57:=by decide +kernel
   exact this x ay
  refine⟨_,I,_,_,I,I,(by show (0:Int)<4;decide),.inl (.inl ⟨_,_,_,_,I,I,bX aM,j3,_,_,I,I,vV,.inl ⟨_,_,I,I,(by show 3<=bT;decide),fun T b9=>?_⟩⟩)⟩
  have gp:=hl (c/4) (show x≠0 by omega)
  have fC:=hy (c/4) vV
  have fR:=(ep.ext (Ext.lst aK)).ext (Ext.tup (xs:=[V.str rT,.int low,.int (low+c/4%x)]) b9)
  exact⟨_,fR.sub,q _ _ fR ⟨T,I,.inr (.inl ⟨low,_,aM,by omega,by omega,by omega,by omega⟩)⟩⟩
 ·refine⟨_,I,I,_,I,e0 (fun A5=>?_) (fun A5=>?_)⟩
  ·refine⟨_,I,p,I,ck,fun nM eT qb=>?_⟩
   have G1:=d1.pop ck qb
   refine⟨nM,I,fun bg aK aC=>⟨jA,fun T b9=>?_⟩⟩
   have fR:=G1.ext (Ext.tup (xs:=[V.str ua,.str bg]) b9)
   exact⟨_,fR.sub,q _ _ fR ⟨T,I,.inr (.inr ⟨bg,aM,aK,aC⟩)⟩⟩
  ·have ab9:way≠3/\way≠5:=⟨fun z=>fD (by rw[z];rfl),fun z=>A5 (by rw[z];rfl)⟩
   obtain⟨hN,aca,yk⟩:∃ hN,hN∈[rS,ub,uc,t9]/\eH ([rS,ub,uc,rT,t9].map V.str) ((way:Nat):Int)=J (.str hN):=by
    have:way=0\/way=1\/way=2\/way=4:=by omega
    rcases this with rfl | rfl | rfl | rfl
    ·exact⟨rS,by simp,dt (j:=0) rfl⟩
    ·exact⟨ub,by simp,dt (j:=1) rfl⟩
    ·exact⟨uc,by simp,dt (j:=2) rfl⟩
    ·exact⟨t9,by simp,dt (j:=4) rfl⟩
   refine⟨(by show 5<=bT;decide),fun g aK=>⟨_,I,.inl (.inl ⟨_,_,_,_,I,I,bX aM,yk,(by show 1<=bT;decide),fun T b9=>?_⟩)⟩⟩
   have fR:=((d1.refl ck).ext (Ext.lst aK)).ext (Ext.tup (xs:=[V.str hN]) b9)
   exact⟨_,fR.sub,q _ _ fR ⟨T,I,.inl ⟨hN,aca,aM⟩⟩⟩
noncomputable def IK(k:Fin 4):af:=[rS,ub,uc,t9].getD k.val rS
noncomputable def o9(k:Fin 3):af:=[CE,IH,IJ].getD k.val CE
noncomputable def ud(k:Fin 2):af:=[II,PT].getD k.val II
mutual
noncomputable def gz:bN->D
 | .bare k => .tup [.str (IK k)]
 | .sp a b => .tup [.str rT,.int a,.int b]
 | .le s => .tup [.str ua,.str s]
 | .one k f => .tup [.str (o9 k),gz f]
 | .two k ns fs => .tup [.str (ud k),.lst (hC fs ns)]
noncomputable def hC:List bN->List af->List D
 | [],_=>[]
 | f::fs,ns => .tup [.str (ns.headD af.empty),gz f]::hC fs ns.tail
end
mutual
noncomputable def ht:bN->Prop
 | .bare _=>True
 | .sp a b=>a<=b/\b - a<2 ^ 190/\a.natAbs<10 ^ 58/\b.natAbs<10 ^ 58
 | .le s=>ko s=ag/\s.length<=60
 | .one _ f=>ht f
 | .two _ ns fs=>jZ ns=ag/\ns.length=fs.length/\j6 fs
noncomputable def j6:List bN->Prop
 | []=>True
 | f::fs=>ht f/\j6 fs
end
theorem xn:∀ (fs:List bN) (ns:List af),(hC fs ns).length=fs.length
 | [],ns=>by rw[hC];rfl
 | f::fs,ns=>by rw[hC,ed,xn fs ns.tail,ed]
theorem KZ(n:af)(f:bN):∀ (fs:List bN) (ns:List af),ns.length=fs.length->hC (fs++[f]) (ns++[n])=hC fs ns++[.tup [.str n,gz f]]
 | [],ns,h=>by
  obtain rfl:=List.eq_nil_of_length_eq_zero (by simpa using h)
  show hC [f] [n]=hC [] []++_
  rw[hC,hC,hC];rfl
 | g::fs,[],h=>by cases h
 | g::fs,m::ns,h=>by
  show hC (g::(fs++[f])) (m::(ns++[n]))=hC (g::fs) (m::ns)++_
  rw[hC,hC]
  show _::hC (fs++[f]) (ns++[n])=_::hC fs ns++_
  rw[KZ n f fs ns (by simpa using h)];rfl
theorem KI{f:bN}(h:ht f):∀ {fs:List bN},j6 fs->j6 (fs++[f])
 | [],_=>by show j6 [f];rw[j6,j6];exact⟨h,trivial⟩
 | g::fs,hs=>by
  rw[j6] at hs
  show j6 (g::(fs++[f]))
  rw[j6]
  exact⟨hs.1,KI h hs.2⟩
theorem Li{f:bN}{n:Nat}(h:aW f<=n):∀ {fs:List bN},gA fs<=n->gA (fs++[f])<=n
 | [],_=>by show gA [f]<=n;rw[gA,gA];omega
 | g::fs,hs=>by
  rw[gA] at hs
  show gA (g::(fs++[f]))<=n
  rw[gA]
  have:=Li h (fs:=fs) (by omega)
  omega
theorem EJ(f:bN):∀ fs:List bN,hM (fs++[f])=hM fs+c0 f
 | []=>by show hM [f]=hM []+_;simp only[hM];omega
 | g::fs=>by
  show hM (g::(fs++[f]))=hM (g::fs)+_
  rw[hM,hM,EJ f fs];omega
theorem mA.no{X:List ae}{H:au}(du:mA X H){T:ae}{xs:List V}(e:H T=J (.tup xs)):T∉X:=fun z=>by obtain⟨l,h⟩:=du T z;rw[h] at e;cases e
theorem RD:∀ k:Fin 4,(IK k).length<=100000:=by decide +kernel
theorem RC:∀ k:Fin 3,(o9 k).length<=100000:=by decide +kernel
theorem RB:∀ k:Fin 2,(ud k).length<=100000:=by decide +kernel
theorem Sz:∀ w,w∈[rS,ub,uc,t9]->∃ k,w=IK k:=fun w h=>by
 rcases(show w=rS\/w=ub\/w=uc\/w=t9 by simpa using h) with rfl | rfl | rfl | rfl
 ·exact⟨0,I⟩
 ·exact⟨1,I⟩
 ·exact⟨2,I⟩
 ·exact⟨3,I⟩
theorem Simp.al{X:List ae}{H:au}{v:V}(du:mA X H)(h:Simp H v):∃ f,dK X H (gz f) v/\ht f/\aW f=1/\c0 f=1:=by
 obtain⟨T,rfl,⟨w,hw,e⟩ | ⟨a,b,e,h⟩ | ⟨s,e,aj,ar⟩⟩:=h
 ·obtain⟨k,rfl⟩:=Sz w hw
  exact⟨.bare k,by rw[gz];exact⟨T,_,I,du.no e,e,⟨_,_,I,⟨I,RD k⟩,I⟩,by simp⟩,by rw[ht];trivial,by rw[aW],by rw[c0]⟩
 ·exact⟨.sp a b,by rw[gz];exact⟨T,_,I,du.no e,e,⟨_,_,I,⟨I,by decide +kernel⟩,_,_,rfl,rfl,_,_,rfl,rfl,rfl⟩,by simp⟩,by rw[ht];exact h,by rw[aW],by rw[c0]⟩
 ·exact⟨.le s,by rw[gz];exact⟨T,_,I,du.no e,e,⟨_,_,I,⟨I,by decide +kernel⟩,_,_,rfl,⟨rfl,by omega⟩,rfl⟩,by simp⟩,by rw[ht];exact⟨aj,ar⟩,by rw[aW],by rw[c0]⟩
theorem dK.grow{X:List ae}{p:ae}{H H':au}(bh:p∈X)(g:d1 p H H'){d:D}{v:V}(h:dK X H d v):dK X H' d v :=
 dK.keep (fun b u nb e=>g.k b u (fun z=>nb (by rw[z];exact bh)) e) d h
structure Du(X:List ae)(H:au)(f:bN)(v:V)(n m:Nat):Prop where
 d:dK X H (gz f) v
 o:ht f
 h:aW f<=n
 s:c0 f<=m
inductive OC(d:Nat)(vs:List V)(H:au)(Q:bx)(E:bP):Prop where
 |mk (p:ae) (deep:Nat) (X:List ae) (bu:vs=[.ref p,.int ((deep:Nat):Int)]) (aj:deep<d) (ar:ny p H) (bB:p∈X) (b0:mA X H) (eB:∀ v H' f,d1 p H H'->Du X H' f v (deep+1) (20*deep+1)->Q v H'):OC d vs H Q E
def Cg(d:Nat):b5:=fun vs H Q E=>OC d vs H Q E
structure zh(X:List ae)(l:ae)(d m:Nat)(H:au)(ns:List af)(i:Nat)(fs:List bN)(vs:List V):Prop where
 ls:H l=J (.lst vs)
 ds:c5 (l::X) H (hC fs (ns.take i)) vs
 ln:fs.length=i
 ok:j6 fs
 aW:gA fs<=d
 c0:hM fs<=m
theorem zh.step{X:List ae}{p l T:ae}{d m e k i:Nat}{ax H':au}{ns:List af}{n:af}{f:bN}{v:V}{fs:List bN}{vs:List V}(aa:zh X l d m ax ns i fs vs)(du:mA (l::X) ax)(bh:p∈X)(BE:l≠p)(g:d1 p ax H')(bl:Du (l::X) H' f v e k)(he:e<=d)(b9:H' T=aw)(bc:ns[i]?=J n)(kR:n.length<=100) :
  zh X l d (m+k) (upd (upd H' T (.tup [.str n,v])) l (.lst (vs++[V.ref T]))) ns (i+1) (fs++[f]) (vs++[V.ref T])/\mA (l::X) (upd (upd H' T (.tup [.str n,v])) l (.lst (vs++[V.ref T])))/\
  (∀ b u,b∉l::X->H' b=J u->upd (upd H' T (.tup [.str n,v])) l (.lst (vs++[V.ref T])) b=J u):=by
 have vN:=du.grow g
 have e1:∀ b u,b∉l::X->H' b=J u->upd (upd H' T (.tup [.str n,v])) l (.lst (vs++[V.ref T])) b=J u:=fun b u nb e=>by
  rw[bJ (fun z=>nb (by rw[z];exact hz ..)),bJ (eO e b9)];exact e
 have NV:T∉l::X:=fun z=>by
  obtain⟨y,bM⟩:=vN T z
  rw[b9] at bM;cases bM
 have adB:T≠l:=fun z=>NV (by rw[z];exact hz ..)
 have aB:i<ns.length:=by
  rcases jx i ns.length with z | z
  ·exact z
  ·rw[zQ z] at bc;cases bc
 refine⟨⟨aM,?_,by rw[dI,aa.ln];rfl,KI bl.o aa.ok,Li (by have:=bl.h;omega) aa.aW,?_⟩,?_,e1⟩
 ·rw[nE,bc]
  show c5 _ _ (hC (fs++[f]) (ns.take i++[n])) _
  rw[KZ n f fs _ (by rw[kg,aa.ln];omega)]
  have gO:upd (upd H' T (.tup [.str n,v])) l (.lst (vs++[V.ref T])) T=J (.tup [.str n,v]):=by rw[bJ adB,aM]
  have hd:dK (l::X) (upd (upd H' T (.tup [.str n,v])) l (.lst (vs++[V.ref T]))) (.tup [.str n,gz f]) (.ref T):=⟨T,_,rfl,NV,gO,⟨_,_,rfl,⟨rfl,by omega⟩,_,_,rfl,dK.keep e1 _ bl.d,rfl⟩,by simp⟩
  exact c5.snoc hd _ (c5.keep e1 _ (c5.keep (fun b u nb e=>g.k b u (fun z=>nb (by rw[z];exact fk _ bh)) e) _ aa.ds))
 ·rw[EJ];have:=bl.s;have:=aa.c0;omega
 ·intro x ay
  by_cases z:x=l
  ·subst z;exact⟨_,aM⟩
  ·obtain⟨y,bM⟩:=vN x ay
   exact⟨y,by rw[bJ z,bJ (eO bM b9)];exact bM⟩
set_option maxHeartbeats 4000000 in
theorem TS{d:Nat}(nb:dV mg)(F:dF K mg "_law_form" Al ["_law_pool_here","_law_deep"] f fd)(hS:bK P w K mg base 1 "_law_next" ["_law_pool_here"] wm)(ux:bK P w K mg base 1 "_law_names" ["_law_cell","_law_many"] Ig)(uy:bK P w K mg base 2 "_law_simple" ["_law_pool_here","_law_way"] Ck)
  (uv:bK P w K mg base (d+3) "_law_form" ["_law_pool_here","_law_deep"] (Cg d)):bK P w K mg base (d+3+1) "_law_form" ["_law_pool_here","_law_deep"] (Cg (d+1)):=by
 refine F.fK pG (fun bb A outer s H vs Q E az h=>?_)
 obtain⟨p,deep,X,rfl,hd,ck,eC,du,q⟩:=h
 refine⟨_,(aP (bV 2 pG.br (cq hS az (av (ai 0) aA) (hk:=by omega)))
  (aP (bV 3 pG.br (aQ dM (ai 2) aD))
  (aP (cR (cm dd (ai 1) aD) (aT (bV 3 pG.br (aQ dM (ai 2) aD))) cQ)
  (aP (cR (cm oa (ai 3) aD) (aT (bG (cq uy az (av (ai 0) (av (ai 3) aA)) (hk:=by omega)))) cQ)
  (aP (cR (gJ.pt (kf (cm dd (ai 3) aD) (k4 (cm dd (ai 3) aD)))) (aP (bV 4 pG.br (aQ eh aD (aQ dM (aQ hA (ai 2) aD) aD)))
   (AI (cR (gJ.pt (vn (cm dd (ai 1) aD) (vg (cm dd (aQ dM (aQ hA (ai 2) aD) aD) aD)))) (aT (bV 4 pG.br (aQ eh aD (aQ dM (aQ hA (ai 2) aD) aD)))) cQ)
   (aP (bV 5 pG.br (cq ux az (av (cq hS az (av (ai 0) aA) (hk:=by omega)) (av (ai 4) aA)) (hk:=by omega)))
   (aP (bV 6 pG.br (fU aA))
   (aP (oD i9.never rfl (pF rfl nb.oc (av (ai 4) aA)) (eG (i:=7) pG.br rfl (by exact Or.inl I))
    (aT (h9 (jP PySem.F.plainAttrs_list PySem.F.slot_list_append PySem.F.type_list_append sl (ai 6) (av (jS (av (cN cP (ai 5) (ai 7)) (av (cq uv az (av (ai 0) (av (aQ kr (aQ gb (ai 1) aD) (u6 Ay rfl nb.tA sS (av (gV dd (ai 7) (aQ dM (aQ hA (ai 2) aD) (ai 4))) aA))) aA)) (hk:=by omega)) aA))) aA)))))
   (aT (bG (jS (av (cN cP (fU (av cJ (av cJ aA))) (aQ gb (ai 3) aD)) (av (ai 6) aA)))))))))) cQ)
  (aT (bG (jS (av (cN cP (fU (av cJ (av cJ (av cJ (av cJ (av cJ aA)))))) (aQ gb (ai 3) aD)) (av (cq uv az (av (ai 0) (av (aQ gb (ai 1) aD) aA)) (hk:=by omega)) aA)))))))))),?_⟩
 try dsimp only[cS,cT,cU,cV]
 refine⟨_,I,p,I,ck,fun c eT qb=>?_⟩
 have G1:=d1.pop ck qb
 generalize upd H p (.lst (eT.map V.int))=H1 at G1 ⊢
 have Og:∀ way:Nat,way<6->Ck [.ref p,.int ((way:Nat):Int)] H1 (fun v H'=>∃ bY,dg.Sub H bY H'/\Q v bY) il:=fun way hw=>⟨p,way,rfl,hw,G1.l,fun v H' g hs=>by
  obtain⟨f,aj,ar,bB,b0⟩:=Simp.al (du.grow (G1.trans g)) hs
  exact⟨_,(G1.trans g).sub,q v H' f (G1.trans g) ⟨aj,ar,by omega,by omega⟩⟩⟩
 obtain⟨jn,ajD,Zz⟩:=jT c 11 (by decide)
 have Zy:c%11=((jn:Nat):Int):=Zz
 refine⟨_,I,_,_,I,I,(by show (0:Int)<11;decide),?_⟩
 dsimp only
 rw[Zy]
 refine⟨_,I,I,_,I,e0 (fun nM=>?_) (fun nM=>?_)⟩
 ·obtain⟨PS,acd,ZB⟩:=jT c 6 (by decide)
  have ZA:c%6=((PS:Nat):Int):=ZB
  refine⟨_,I,_,_,I,I,(by show (0:Int)<6;decide),?_⟩
  dsimp only
  rw[ZA]
  exact⟨_,I,.inl ⟨_,_,I,I,_,I,jl (by omega) ⟨_,I,_,I,Og PS acd⟩⟩⟩
 have ajj:deep≠0:=fun z=>nM (by rw[z];rfl)
 refine⟨_,I,.inl ⟨_,_,I,I,_,I,e0 (fun YF=>?_) (fun YF=>?_)⟩⟩
 ·exact⟨_,I,_,I,Og jn (by omega)⟩
 refine⟨_,I,I,_,I,(fun(kO:(jn=8\/jn=9)->_)=>e0 (fun FP=>kO (.inl (by have:=V.int.inj FP;omega))) (fun FP=>⟨_,I,I,_,I,e0 (fun FQ=>kO (.inr (by have:=V.int.inj FQ;omega))) (fun FQ=>?_)⟩)) (fun ace=>?_)⟩
 ·obtain⟨tE,aju,Zq⟩:=jT (c/11) 4 (by decide)
  have Zp:c/11%4=((tE:Nat):Int):=Zq
  have aG:(1:Int)+((tE:Nat):Int)=((tE+1:Nat):Int):=by omega
  refine⟨_,I,_,_,I,I,⟨by decide,by decide⟩,_,_,rfl,rfl,(by show (0:Int)<4;decide),.inl ⟨_,_,rfl,rfl,?_⟩⟩
  dsimp only
  rw[Zp,aG]
  refine⟨fun bQ H'=>H1=H'/\∃ h2:Nat,0<h2/\h2<=20/\bQ=[J (.ref p),J (.int ((deep:Nat):Int)),J (.int c),J (.int ((jn:Nat):Int)),J (.int ((h2:Nat):Int)),aw,aw,aw],?_,?_⟩
  ·refine⟨_,I,I,_,I,e0 (fun gE=>?_) (fun gE=>⟨I,tE+1,by omega,by omega,rfl⟩)⟩
   refine⟨_,I,_,_,I,I,⟨by decide,by decide⟩,_,_,rfl,rfl,(by show (0:Int)<6;decide),rfl,_,rfl,e0 (fun e1=>?_) (fun e1=>⟨rfl,tE+1,by omega,by omega,rfl⟩)⟩
   obtain⟨BY,vF,Zo⟩:=jT (c/264) 20 (by decide)
   have Zn:c/264%20=((BY:Nat):Int):=Zo
   refine⟨_,I,_,_,I,I,⟨by decide,by decide⟩,_,_,rfl,rfl,(by show (0:Int)<20;decide),.inl ⟨_,_,rfl,rfl,rfl,BY+1,by omega,by omega,?_⟩⟩
   dsimp only
   rw[Zn,show (1:Int)+((BY:Nat):Int)=((BY+1:Nat):Int) by omega]
   rfl
  rintro b8 aiz ⟨rfl,h2,G9,abn,rfl⟩
  refine⟨_,I,p,I,G1.l,fun gh dO kR=>⟨_,I,gh,h2,I,G9,abn,fun D ns dB mb fG=>?_⟩⟩
  have ep:=G1.trans (d1.pop G1.l kR)
  have fR:=ep.ext (Ext.lst (xs:=ns.map V.str) dB)
  refine⟨UF _,fun l aC=>?_⟩
  have I7:=Ext.lst (xs:=[]) aC
  have sf:=fR.ext I7
  have Ni:H l=aw:=fR.free aC
  have Bm:H D=aw:=ep.free dB
  have BE:l≠p:=fR.ne aC
  have aao:D≠l:=fun z=>by rw[<- z,aM] at aC;cases aC
  have vT:l∉X:=fun z=>by obtain⟨y,bM⟩:=du l z;rw[Ni] at bM;cases bM
  have Gr:D∉l::X:=fun z=>by
   rcases dn.mp z with z | z
   ·exact aao z
   ·obtain⟨y,bM⟩:=du D z;rw[Bm] at bM;cases bM
  have l6:upd (upd (upd H1 p (.lst (dO.map V.int))) D (.lst (ns.map V.str))) l (.lst []) D=J (.lst (ns.map V.str)):=I7.s _ _ aM
  have Gx:=aM (H:=upd (upd H1 p (.lst (dO.map V.int))) D (.lst (ns.map V.str))) (a:=l) (o:=cv.lst [])
  generalize upd (upd (upd H1 p (.lst (dO.map V.int))) D (.lst (ns.map V.str))) l (.lst [])=g0 at sf l6 Gx ⊢
  obtain⟨ft,abf,Zm⟩:=jT (c/264) h2 G9
  refine⟨_,I,_,I,by omega,by omega,?_⟩
  have gP:(((h2:Nat):Int)).toNat=h2:=by omega
  rw[gP]
  refine u9 (fun i ab ax=>d1 p H ax/\mA (l::X) ax/\ax D=J (.lst (ns.map V.str))/\∃ fs vs z,ab=[J (.ref p),J (.int ((deep:Nat):Int)),J (.int c),J (.int ((jn:Nat):Int)),J (.int ((h2:Nat):Int)),J (.ref D),J (.ref l),z]/\zh X l deep (i+if ft<i then 20*(deep - 1) else 0) ax ns i fs vs) ?_ ?_ ?_
  ·refine⟨sf,?_,l6,[],[],aw,I,⟨Gx,by rw[List.take_zero,hC];rfl,rfl,by rw[j6];trivial,by rw[gA];omega,by rw[hM];omega⟩⟩
   intro x ay
   rcases dn.mp ay with z | z
   ·subst z;exact⟨_,Gx⟩
   ·exact(du.grow sf) x z
  ·rintro i ab ax aB ⟨g2,nY,q7,fs,vs,z,rfl,aa⟩
   have iJ:i<ns.length:=by omega
   have x8:ns[i]?=J ns[i]:=dm iJ
   have iY:eH (ns.map V.str) (0+((i:Nat):Int))=J (.str ns[i]):=by rw[Int.zero_add];exact dt (by rw[fT,x8];rfl)
   refine⟨_,I,.inl ⟨I,_,bX aa.ls⟩,_,I,_,I,.inl (.inl ⟨_,_,_,_,I,I,bX q7,iY,?_⟩)⟩
   refine⟨_,I,_,I,_,_,I,I,_,I,_,I,_,_,I,I,⟨by decide,by decide⟩,_,rfl,_,_,rfl,rfl,(by omega),rfl,.inl (.inr ⟨_,rfl,?_⟩)⟩
   have Y3:decide (V.int (0+((i:Nat):Int))=V.int (c/264%((h2:Nat):Int)))=decide (i=ft):=by
    rw[Zm];exact decide_eq_decide.mpr ⟨fun h=>by have:=V.int.inj h;omega,fun h=>by rw[h,Int.zero_add]⟩
   rw[Y3]
   obtain⟨nP,aaQ,aaR,ev,aaS⟩:∃ nP:Nat,nP<d/\nP+1<=deep/\(((deep:Nat):Int) - 1)*(if decide (i=ft)=ag then 1 else 0)=((nP:Nat):Int)/\(nP=if i=ft then deep - 1 else 0):=⟨if i=ft then deep - 1 else 0,by split<;>omega,by split<;>omega,by by_cases z:i=ft<;>simp only[z,decide_true,decide_false,if_true,if_false]<;>simp<;>omega,rfl⟩
   refine .inl ⟨_,_,I,I,.inr (by split<;>exact⟨by decide,by decide⟩),p,nP,l::X,(by rw[<- ev];rfl),aaQ,g2.l,fk _ eC,nY,fun part bt Z9 g3 abJ=>⟨jA,fun T b9=>?_⟩⟩
   have rh:bt l=J (.lst vs):=g3.k _ _ BE aa.ls
   have uA:=Ext.tup (xs:=[V.str ns[i],part]) b9
   have cG:vs.length=i:=by
    rw[ff.len _ (c5.at _ aa.ds),xn,aa.ln]
   refine⟨l,_,_,I,I,uA.s _ _ rh,(by rw[cG];exact fi (show i<100000 by omega) (by decide)),?_⟩
   obtain⟨gS,zu,eD⟩:=aa.step nY eC BE g3 abJ aaR b9 x8 (by have:=(nI fG).2 _ (List.getElem_mem iJ);omega)
   refine⟨((g2.trans g3).ext uA).set Ni (uA.s _ _ rh) BE,zu,eD _ _ Gr (g3.k _ _ (fun z=>Gr (by rw[z];exact fk _ eC)) q7),_,_,_,I,⟨gS.ls,gS.ds,gS.ln,gS.ok,gS.aW,?_⟩⟩
   refine ey gS.c0 ?_
   rw[aaS]
   by_cases z:i=ft
   ·rw[if_pos z,if_neg (by omega),if_pos (by omega)];omega
   ·rw[if_neg z]
    by_cases dj:ft<i
    ·rw[if_pos dj,if_pos (by omega)];omega
    ·rw[if_neg dj];omega
  ·rintro ab ax ⟨g2,nY,q7,fs,vs,z,rfl,aa⟩
   obtain⟨ww,yk⟩:∃ ww:Fin 2,eH ([II,PT].map V.str) (((jn:Nat):Int) - 8)=J (.str (ud ww)):=by
    rcases ace with rfl | rfl
    ·exact⟨0,dt (j:=0) I⟩
    ·exact⟨1,dt (j:=1) I⟩
   refine⟨jA,fun g aK=>⟨_,I,_,_,I,I,.inl (.inl ⟨_,_,_,_,I,I,bX aM,yk,_,I,jA,fun T b9=>?_⟩)⟩⟩
   have C3:=(Ext.lst aK).trans (Ext.tup (xs:=[V.str (ud ww),V.ref l]) b9)
   have td:=g2.ext C3
   have ad2:ns.take h2=ns:=UV (by omega)
   have gq:=aa.ds
   rw[ad2] at gq
   have j2:vs.length=h2:=by rw[ff.len _ (c5.at _ aa.ds),xn,aa.ln]
   have iH:T∉X:=(du.grow td).no aM
   refine⟨_,td.sub,q _ _ (.two ww ns fs) td ⟨?_,?_,?_,?_⟩⟩
   ·rw[gz]
    exact⟨T,_,I,iH,aM,⟨_,_,I,⟨I,RB ww⟩,_,_,I,⟨l,vs,I,vT,C3.s _ _ aa.ls,c5.weak (fun y bM=>fk _ bM) _ (c5.same C3.s gq),by omega⟩,rfl⟩,by simp⟩
   ·rw[ht];exact⟨fG,by rw[aa.ln,mb],aa.ok⟩
   ·rw[aW];have:=aa.aW;omega
   ·rw[c0]
    have:=aa.c0
    rw[if_pos abf] at this
    omega
 have hw:jn=6\/jn=7\/jn=10:=by
  have Bi:jn≠8:=fun z=>FP (by rw[z];rfl)
  have te:jn≠9:=fun z=>FQ (by rw[z];rfl)
  omega
 obtain⟨ww,yk⟩:∃ ww:Fin 3,eH ([CE,IH,af.ofString "",af.ofString "",IJ].map V.str) (((jn:Nat):Int) - 6)=J (.str (o9 ww)):=by
  rcases hw with rfl | rfl | rfl
  ·exact⟨0,dt (j:=0) I⟩
  ·exact⟨1,dt (j:=1) I⟩
  ·exact⟨2,dt (j:=4) I⟩
 refine⟨(by show 5<=bT;decide),fun g aK=>⟨_,I,_,_,I,I,.inl (.inl ⟨_,_,_,_,I,I,bX aM,yk,?_⟩)⟩⟩
 have C5:=G1.ext (Ext.lst (xs:=[CE,IH,af.ofString "",af.ofString "",IJ].map V.str) aK)
 have ev:((deep:Nat):Int) - 1=((deep - 1:Nat):Int):=by omega
 refine⟨_,I,_,I,_,_,I,I,p,deep - 1,X,(by rw[<- ev];rfl),by omega,C5.l,eC,du.grow C5,fun v H' f g' bl=>⟨jA,fun T b9=>?_⟩⟩
 have uA:=Ext.tup (xs:=[V.str (o9 ww),v]) b9
 have td:=(C5.trans g').ext uA
 have iH:T∉X:=(du.grow td).no aM
 refine⟨_,td.sub,q _ _ (.one ww f) td ⟨?_,?_,?_,?_⟩⟩
 ·rw[gz];exact⟨T,_,I,iH,aM,⟨_,_,I,⟨I,RC ww⟩,_,_,I,bl.d.same uA.s,I⟩,by simp⟩
 ·rw[ht];exact bl.o
 ·rw[aW];have:=bl.h;omega
 ·rw[c0];have:=bl.s;omega
theorem J2(nb:dV mg)(F:dF K mg "_law_form" Al ["_law_pool_here","_law_deep"] f fd)(hS:bK P w K mg base 1 "_law_next" ["_law_pool_here"] wm)(ux:bK P w K mg base 1 "_law_names" ["_law_cell","_law_many"] Ig)(uy:bK P w K mg base 2 "_law_simple" ["_law_pool_here","_law_way"] Ck):∀ d:Nat,bK P w K mg base (d+3) "_law_form" ["_law_pool_here","_law_deep"] (Cg d)
 | 0=>bK.none F fun vs H Q E h=>by obtain⟨_,_,_,_,h,_⟩:=h;omega
 | d+1=>TS nb F hS ux uy (J2 nb F hS ux uy d)
theorem AE{X:List ae}{H:au}:∀ (fs:List bN) (ns:List af) {vs:List V} {i:Nat} {y:V},ns.length=fs.length->c5 X H (hC fs ns) vs->vs[i]?=J y->∃ f n T v,fs[i]?=J f/\ns[i]?=J n/\y = .ref T/\T∉X/\H T=J (.tup [.str n,v])/\dK X H (gz f) v
 | [],ns,vs,i,y,bu,h,e=>by
  rw[hC] at h
  obtain rfl:vs=[]:=h
  cases e
 | f::fs,[],vs,i,y,bu,h,e=>by cases bu
 | f::fs,n::ns,vs,0,y,bu,h,e=>by
  rw[hC] at h
  obtain⟨v,r,rfl,⟨T,ws,rfl,b9,gO,⟨_,_,rfl,⟨rfl,_⟩,jm,_,rfl,bl,rfl⟩,_⟩,cE⟩:=h
  cases e
  exact⟨f,n,T,jm,I,I,I,b9,gO,bl⟩
 | f::fs,n::ns,vs,i+1,y,bu,h,e=>by
  rw[hC] at h
  obtain⟨v,r,rfl,q,cE⟩:=h
  exact AE fs ns (by simpa using bu) cE e
theorem AA:∀ {fs:List bN} {i:Nat} {f:bN},j6 fs->fs[i]?=J f->ht f/\aW f<=gA fs
 | g::fs,0,f,h,e=>by
  cases e
  rw[j6] at h
  rw[gA]
  exact⟨h.1,by omega⟩
 | g::fs,i+1,f,h,e=>by
  rw[j6] at h
  obtain⟨a,b⟩:=AA h.2 (show fs[i]?=J f from e)
  rw[gA]
  exact⟨a,by omega⟩
theorem LU(f:bN):1<=c0 f:=by cases f<;>simp only[c0]<;>omega
def jL(X:List ae)(H:au):Prop:=∀ x,x∈X->∃ o,H x=J o
theorem jL.no{X:List ae}{H:au}(h:jL X H){t:ae}(e:H t=aw):t∉X:=fun z=>by
 obtain⟨o,q⟩:=h t z
 rw[e] at q;cases q
theorem jL.ext{X:List ae}{H H':au}(h:jL X H)(m:er H H'):jL X H':=fun x ay=>by
 obtain⟨u,q⟩:=h x ay
 exact⟨u,m _ _ q⟩
theorem jL.add{X:List ae}{D:ae}{o:cv}{H:au}(h:jL X H)(e:H D=J o):jL (D::X) H:=fun x ay=>by
 rcases dn.mp ay with rfl | z
 ·exact⟨o,e⟩
 ·exact h x z
theorem ew.snoc{c:eu}{X:List ae}{H:au}{f:bN}{o:ae}(aE:b4 c X H f o):∀ (fs:List bN) {os:List ae},ew c X H fs os->ew c X H (fs++[f]) (os++[o])
 | [],os,h=>by
  obtain rfl:os=[]:=h
  exact⟨o,[],I,aE,I⟩
 | g::fs,os,h=>by
  obtain⟨a,r,rfl,q,cE⟩:=h
  exact⟨a,r++[o],I,q,ew.snoc aE fs cE⟩
inductive O1(c:eu)(d:Nat)(vs:List V)(H:au)(Q:bx)(E:bP):Prop where
 |mk (t8:V) (f:bN) (X:List ae) (bu:vs=[t8]) (aj:jL X H) (ar:dK X H (gz f) t8) (bB:ht f) (b0:aW f<=d) (eB:∀ o H',Ext H H'->b4 c X H' f o->Q (.ref o) H'):O1 c d vs H Q E
def Ci(c:eu)(d:Nat):b5:=fun vs H Q E=>O1 c d vs H Q E
set_option maxHeartbeats 4000000 in
theorem TR{f:ae}{fd:fu}{d:Nat}{c:eu}(nb:dV mg)(F:dF K mg "_law_made" Ak ["_law_form_here"] f fd)
  (uJ:k8 K (c.b 0)) (v8:mg "Nothing"=J (.ref (c.b 0))) (uK:k8 K (c.b 1)) (v9:mg "Truth"=J (.ref (c.b 1))) (uL:k8 K (c.b 2)) (wa:mg "Whole"=J (.ref (c.b 2))) (uI:k8 K (c.b 3)) (v7:mg "Fraction"=J (.ref (c.b 3)))
  (uS:ju P w K mg base 1 "Span" c.s ["self","low","high"] (Im c.s)) (uN:ju P w K mg base 2 "Letters" c.l ["self","signs"] (Ic c.l)) (uQ:ju P w K mg base 4 "Record" (c.t 0) ["self","parts"] (wq (c.t 0))) (uM:ju P w K mg base 4 "Choice" (c.t 1) ["self","cases"] (wq (c.t 1)))
  (uP:ju P w K mg base 1 "Maybe" (c.o 0) ["self","inner"] (qn (c.o 0))) (uO:ju P w K mg base 1 "Many" (c.o 1) ["self","inner"] (qn (c.o 1))) (uT:ju P w K mg base 1 "Turned" (c.o 2) ["self","inner"] (qn (c.o 2)))
  (pj:bK P w K mg base (d+7) "_law_made" ["_law_form_here"] (Ci c d)):bK P w K mg base (d+7+1) "_law_made" ["_law_form_here"] (Ci c (d+1)):=by
 refine F.fK Kh (fun bb A outer s H vs Q E az h=>?_)
 obtain⟨t8,g,X,rfl,du,bl,aR,cW,q⟩:=h
 refine IF _ (aP (bV 1 Kh.br (cN cP (ai 0) aD))
  (aP (cR (cm dd (ai 1) cJ) (aT (bG (Au uJ rfl v8))) cQ)
  (aP (cR (cm dd (ai 1) cJ) (aT (bG (Au uK rfl v9))) cQ)
  (aP (cR (cm dd (ai 1) cJ) (aT (bG (Au uL rfl wa))) cQ)
  (aP (cR (cm dd (ai 1) cJ) (aT (bG (Au uI rfl v7))) cQ)
  (aP (cR (cm dd (ai 1) cJ) (aT (bG (pz uS az (av (cN cP (ai 0) aD) (av (cN cP (ai 0) aD) aA)) (hk:=by omega)))) cQ)
  (aP (cR (cm dd (ai 1) cJ) (aT (bG (pz uN az (av (cN cP (ai 0) aD) aA) (hk:=by omega)))) cQ)
  (aP (cR (cm dd (ai 1) cJ) (aT (bG (pz uQ az (av (iQ ["_law_name","_law_inner"] [] rfl (by decide +kernel) trivial (j7 (cN cP (ai 0) aD)) (fun _ _ _ _ _=>(pL rfl (jz (eG (i:=0) (show (["_law_name","_law_inner"]:List af).Nodup by decide +kernel) rfl (by first | exact Or.inl I | exact Or.inr I)) (jz (eG (i:=1) (show (["_law_name","_law_inner"]:List af).Nodup by decide +kernel) rfl (by first | exact Or.inl I | exact Or.inr I)) pI)))) (fun _ _ _ _ _=>iE) (fun _ _ _ _ _=>(jS (av (ai 0) (av (cq pj az (av (ai 1) aA) (hk:=by omega)) aA))))) aA) (hk:=by omega)))) cQ)
  (aP (cR (cm dd (ai 1) cJ) (aT (bG (pz uM az (av (iQ ["_law_name","_law_inner"] [] rfl (by decide +kernel) trivial (j7 (cN cP (ai 0) aD)) (fun _ _ _ _ _=>(pL rfl (jz (eG (i:=0) (show (["_law_name","_law_inner"]:List af).Nodup by decide +kernel) rfl (by first | exact Or.inl I | exact Or.inr I)) (jz (eG (i:=1) (show (["_law_name","_law_inner"]:List af).Nodup by decide +kernel) rfl (by first | exact Or.inl I | exact Or.inr I)) pI)))) (fun _ _ _ _ _=>iE) (fun _ _ _ _ _=>(jS (av (ai 0) (av (cq pj az (av (ai 1) aA) (hk:=by omega)) aA))))) aA) (hk:=by omega)))) cQ)
  (aP (cR (cm dd (ai 1) cJ) (aT (bG (pz uP az (av (cq pj az (av (cN cP (ai 0) aD) aA) (hk:=by omega)) aA) (hk:=by omega)))) cQ)
  (aP (cR (cm dd (ai 1) cJ) (aT (bG (pz uO az (av (cq pj az (av (cN cP (ai 0) aD) aA) (hk:=by omega)) aA) (hk:=by omega)))) cQ)
  (aT (bG (pz uT az (av (cq pj az (av (cN cP (ai 0) aD) aA) (hk:=by omega)) aA) (hk:=by omega))))))))))))))) fun G fO hq go=>?_
 try dsimp only[cS,cT,cU,cV] at go
 have a0:∀ (x:V) (r:List V),eH (x::r) 0=J x:=fun x r=>dt (j:=0) rfl
 have a1:∀ (x y:V) (r:List V),eH (x::y::r) 1=J y:=fun x y r=>dt (j:=1) rfl
 cases g with
 | bare k =>
  rw[gz] at bl
  obtain⟨T,_,rfl,iH,e,⟨_,_,rfl,⟨rfl,_⟩,rfl⟩,_⟩:=bl
  obtain⟨kZ,q6⟩:∃ kZ,kZ=c.b k:=⟨_,rfl⟩
  rcases q3 k with rfl | rfl | rfl | rfl
  all_goals
   subst hq
   refine go (kt I e ?_)
   iterate 3 (try refine hV I (by decide +kernel) ?_)
   refine kI I fun N=>?_
   rw[<- q6]
   intro x al aj ar nU
   have E:=Ext.made (C:=kZ) (fs:=[]) aj ar nU
   exact⟨_,E.sub,q _ _ E ⟨du.no aj,al,by rw[<- q6];exact aM⟩⟩
 | sp lo aB =>
  rw[gz] at bl
  rw[ht] at aR
  obtain⟨T,_,rfl,iH,e,⟨_,_,rfl,⟨rfl,_⟩,_,_,rfl,rfl,_,_,rfl,rfl,rfl⟩,_⟩:=bl
  subst hq
  refine go (kt I e ?_)
  iterate 4 refine hV I (by decide +kernel) ?_
  have a2:eH [V.str rT,V.int lo,V.int aB] 2=J (.int aB):=dt (j:=2) rfl
  refine kI I fun N=>⟨_,I,.inl (.inr ⟨_,_,_,_,I,I,dc e,a1 _ _ _,_,I,.inl (.inr ⟨_,_,_,_,I,I,dc e,a2,?_⟩)⟩)⟩
  intro x al aj ar nU
  refine⟨x,al,lo,aB,I,aM,aR.1,I,?_⟩
  rw[h8]
  have E:=Ext.made (C:=c.s) (fs:=Py lo aB) aj ar nU
  exact⟨_,E.sub,q _ _ E ⟨du.no aj,al,aM⟩⟩
 | le bg =>
  rw[gz] at bl
  rw[ht] at aR
  obtain⟨T,_,rfl,iH,e,⟨_,_,rfl,⟨rfl,_⟩,_,_,rfl,⟨rfl,_⟩,rfl⟩,_⟩:=bl
  subst hq
  refine go (kt I e ?_)
  iterate 5 refine hV I (by decide +kernel) ?_
  refine kI I fun N=>⟨_,I,.inl (.inr ⟨_,_,_,_,I,I,dc e,a1 _ _ _,?_⟩)⟩
  intro x al aj ar nU
  refine⟨x,al,bg,I,aM,by omega,aR.1,rfl,?_⟩
  rw[h8]
  have E:=Ext.made (C:=c.l) (fs:=NM bg) aj ar nU
  exact⟨_,E.sub,q _ _ E ⟨du.no aj,al,aM⟩⟩
 | one k g =>
  rw[gz] at bl
  rw[ht] at aR
  rw[aW] at cW
  obtain⟨T,_,rfl,iH,e,⟨_,_,rfl,⟨rfl,_⟩,jm,_,rfl,hd,rfl⟩,_⟩:=bl
  have a1:=a1 (.str (o9 k)) jm []
  obtain⟨kZ,q6⟩:∃ kZ,kZ=c.o k:=⟨_,rfl⟩
  rcases pR k with rfl | rfl | rfl
  all_goals
   subst hq
   refine go (kt I e ?_)
   iterate 10 (try refine hV I (by decide +kernel) ?_)
   try refine kI I fun N=>?_
   rw[<- q6]
   refine⟨_,I,.inl (.inr ⟨_,_,_,_,I,I,dc e,a1,jm,g,X,I,du,hd,aR,by omega,fun o H' g5 aap=>?_⟩)⟩
   intro x al aj ar nU
   refine⟨x,al,o,I,aM,I,?_⟩
   rw[h8]
   have E:=Ext.made (C:=kZ) (fs:=[("inner",V.ref o)]) aj ar nU
   have M:=g5.trans E
   exact⟨_,M.sub,q _ _ M ⟨(du.ext g5.s).no aj,al,o,by rw[<- q6];exact aM,b4.keep (fun b u _ e=>E.s b u e) g aap⟩⟩
 | two k ns fs =>
  rw[gz] at bl
  rw[ht] at aR
  rw[aW] at cW
  obtain⟨fG,cG,BJ⟩:=aR
  obtain⟨T,_,rfl,iH,e,⟨_,_,rfl,⟨rfl,_⟩,_,_,rfl,⟨l,tD,rfl,vT,iF,gq,abg⟩,rfl⟩,_⟩:=bl
  have j2:tD.length=fs.length:=by rw[ff.len _ (c5.at _ gq),xn]
  have a1:=a1 (.str (ud k)) (.ref l) []
  obtain⟨kZ,q6⟩:∃ kZ,kZ=c.t k:=⟨_,rfl⟩
  rcases vC k with rfl | rfl
  all_goals
   subst hq
   refine go (kt I e ?_)
   iterate 7 (try refine hV I (by decide +kernel) ?_)
   refine kI I fun N=>?_
   rw[<- q6]
   have aa8:=nI fG
   refine .inl ⟨_,I,.inl (.inr ⟨_,_,_,_,I,I,dc e,a1,l,I,⟨_,bX iF⟩,fun D dB=>?_⟩)⟩
   have Gr:D∉X:=du.no dB
   refine Et (K:=K) (a:=l) (xs:=tD) (fun i aY ax=>Ext H ax/\∃ ps:List (ae×af×ae),aY=ps.map (fun x=>V.ref x.1)/\gR ps=ns.take i/\(∀ x,x∈ps->x.1∉D::X/\ax x.1=J (.tup [.str x.2.1,.ref x.2.2]))/\ew c (D::X) ax (fs.take i) (ic ps)) (fun ab=>∃ di dj,ab=[di,dj]) (by omega) ⟨_,_,I⟩ ?_ ?_ ?_ ?_
   ·rintro i aY ax ⟨M2,_⟩
    exact bX (M2.s _ _ iF)
   ·exact⟨Ext.lst dB,[],I,I,(fun x ay=>nomatch ay),I⟩
   ·rintro i x ay aY b8 H1 ⟨di,dj,rfl⟩ ⟨g5,ps,rfl,qc,Hh,tf⟩ fo me R cY
    obtain⟨g,nm,dw,jm,aK,mS,rfl,vM,xJ,hd⟩:=AE fs ns cG gq ay
    obtain⟨yA,vR⟩:=AA BJ aK
    have nX:jL (D::X) H1:=(du.ext g5.s).add fo
    have Zw:fs.take (i+1)=fs.take i++[g]:=by rw[nE,aK];rfl
    refine⟨_,_,I,dc (g5.s _ _ xJ),I,_,_,I,_,_,I,I,?_⟩
    refine⟨_,I,_,I,jm,g,D::X,I,nX,dK.same g5.s (dK.add dB _ hd),yA,by omega,fun o bt cw Bo=>⟨jA,fun sz Bs=>?_⟩⟩
    have lR:=Ext.tup (xs:=[V.str nm,.ref o]) Bs
    have Bt:=nX.ext cw.s
    have M1:sz∉D::X:=Bt.no Bs
    have pY:bt D=J (.lst (ps.map fun x=>V.ref x.1)):=cw.s _ _ fo
    have xQ:=lR.s _ _ pY
    have aaC:sz≠D:=fun z=>M1 (by rw[z];exact hz ..)
    have ft:∀ b u,b∉D::X->bt b=J u->upd (upd bt sz (.tup [.str nm,.ref o])) D (.lst ((ps.map fun x=>V.ref x.1)++[V.ref sz])) b=J u:=fun b u nb e=>by
     rw[bJ (fun z=>nb (by rw[z];exact hz ..))];exact lR.s _ _ e
    refine cY _ _ _ ⟨_,_,I⟩ xQ ⟨⟨fun b u e=>?_,fun cl=>Aq xQ (lR.c (cw.c (g5.c cl)))⟩,ps++[(sz,nm,o)],by rw[fz];rfl,?_,fun y bM=>?_,?_⟩
    ·rw[bJ (eO e dB)]
     exact lR.s _ _ (cw.s b u (g5.s b u e))
    ·unfold gR at qc ⊢
     rw[fz,qc,nE,mS];rfl
    ·rcases List.mem_append.mp bM with z | z
     ·obtain⟨gp,fC⟩:=Hh y z
      exact⟨gp,ft _ _ gp (cw.s _ _ fC)⟩
     ·rw[fy.mp z]
      exact⟨M1,by show upd _ D _ sz=_;rw[bJ aaC,aM]⟩
    ·rw[Zw,show ic (ps++[(sz,nm,o)])=ic ps++[o] by unfold ic;rw[fz];rfl]
     exact ew.snoc (b4.keep ft _ Bo) _ (ew.keep ft _ (ew.keep (fun b u _ e=>cw.s b u e) _ tf))
   ·rintro aY H' me nV ⟨uH,ps,rfl,qc,Hh,tf⟩
    rw[j2,UV (by omega)] at qc
    rw[j2,UV (cx _)] at tf
    rw[cM] at me
    have ck:Parts H' D ps:=⟨nV,fun x ay=>(Hh x ay).2,by omega,fun x ay=>ey (aa8.2 _ (by rw[<- qc];exact List.mem_map.mpr ⟨x,ay,I⟩)) (by decide)⟩
    intro y al bM Bx n1
    have Qe:=Ext.made (C:=kZ) (fs:=[]) bM Bx n1
    refine⟨y,al,D,ps,I,aM,ck.same Qe.s,by rw[qc];exact fG,fun ei et aj ar nU=>⟨I,?_⟩⟩
    have eT:ei≠y:=fun z=>by rw[z,aM] at aj;cases aj
    have dO:et≠y:=fun z=>by rw[z,aM] at ar;cases ar
    rw[Az dO,Az eT,h8]
    have d6:=Ext.made (C:=kZ) (fs:=Cz ei et) bM Bx n1
    have g1:upd (upd H' al (.own y)) y (.ins kZ al (Cz ei et)) ei=aw:=by rw[bJ eT] at aj ⊢;exact aj
    have pv:=Ext.lst (xs:=(gR ps).map V.str) g1
    have g2:upd (upd (upd H' al (.own y)) y (.ins kZ al (Cz ei et))) ei (.lst ((gR ps).map V.str)) et=aw:=by rw[bJ (d2 nU)];rw[bJ dO] at ar ⊢;exact ar
    have C4:=Ext.lst (xs:=(ic ps).map V.ref) g2
    have E:=(d6.trans pv).trans C4
    have M:=uH.trans E
    have vN:=du.ext uH.s
    refine⟨_,M.sub,q _ _ M ⟨vN.no bM,al,ei,et,ic ps,by rw[<- q6];exact(pv.trans C4).s _ _ aM,vN.no (d6.s.free g1),vN.no ((d6.trans pv).s.free g2),by rw[<- qc];exact C4.s _ _ aM,aM,ew.keep (fun b u _ e=>E.s b u e) _ (ew.weak (fun x ay=>fk _ ay) _ tf)⟩⟩
theorem J1{f:ae}{fd:fu}{c:eu}(nb:dV mg)(F:dF K mg "_law_made" Ak ["_law_form_here"] f fd)
  (uJ:k8 K (c.b 0)) (v8:mg "Nothing"=J (.ref (c.b 0))) (uK:k8 K (c.b 1)) (v9:mg "Truth"=J (.ref (c.b 1))) (uL:k8 K (c.b 2)) (wa:mg "Whole"=J (.ref (c.b 2))) (uI:k8 K (c.b 3)) (v7:mg "Fraction"=J (.ref (c.b 3)))
  (uS:ju P w K mg base 1 "Span" c.s ["self","low","high"] (Im c.s)) (uN:ju P w K mg base 2 "Letters" c.l ["self","signs"] (Ic c.l)) (uQ:ju P w K mg base 4 "Record" (c.t 0) ["self","parts"] (wq (c.t 0))) (uM:ju P w K mg base 4 "Choice" (c.t 1) ["self","cases"] (wq (c.t 1)))
  (uP:ju P w K mg base 1 "Maybe" (c.o 0) ["self","inner"] (qn (c.o 0))) (uO:ju P w K mg base 1 "Many" (c.o 1) ["self","inner"] (qn (c.o 1))) (uT:ju P w K mg base 1 "Turned" (c.o 2) ["self","inner"] (qn (c.o 2))):∀ d,bK P w K mg base (d+7) "_law_made" ["_law_form_here"] (Ci c d)
 | 0=>bK.none F fun vs H Q E z=>by obtain⟨_,g,_,_,_,_,_,h,_⟩:=z;have:=xy g;omega
 | d+1=>TR nb F uJ v8 uK v9 uL wa uI v7 uS uN uQ uM uP uO uT (J1 nb F uJ v8 uK v9 uL wa uI v7 uS uN uQ uM uP uO uT d)
inductive OG(vs:List V)(H:au)(Q:bx)(E:bP):Prop where
 |mk (a b:Int) (bu:vs=[.int a,.int b]) (aj:∀ (p q:Int) (t:ae) (H':au),Ext H H'->H t=aw->H' t=J (.tup [.int p,.int q])->pT (.tup [.int p,.int q])=ag->(a=0/\b=0->p=0/\q=1)->Q (.ref t) H'):OG  vs H Q E
def H8:b5:=fun vs H Q E=>OG  vs H Q E
theorem K8:3<=bT:=by decide
theorem T4(nb:dV mg)(F:dF K mg "_law_fraction" DK ["_law_one","_law_other"] f fd):bK P w K mg base 1 "_law_fraction" ["_law_one","_law_other"] H8:=by
 refine F.fK qM (fun bb A outer s H vs Q E az h=>?_)
 obtain⟨a,b,rfl,q⟩:=h
 refine⟨_,(aP (bV 2 qM.br (aQ kr (aQ dM (aQ vc (ai 0) aD) (cN cP (fU (av aD (av aD (av (aQ xx aD aD) aA)))) (aQ dM (ai 0) aD))) (cN cP (fU (av aD (av (lj k3 aD) aA))) (aQ dM (ai 1) aD))))
  (aP (bV 3 qM.br (aQ eh aD (aQ dM (aQ vc (ai 1) aD) (cN cP (fU (av aD (av aD (av (aQ xx aD aD) aA)))) (aQ dM (aQ vc (ai 1) aD) aD)))))
  (aP (bV 4 qM.br (cj Rr rfl nb.Yw S7 (av (ai 2) aA)))
  (aP (bV 5 qM.br (ai 3))
  (aP (qH i9.never (cm kS (ai 4) aD)
   (aP (bV 6 qM.br (aQ dM (ai 5) (ai 4)))
   (aP (bV 5 qM.br (ai 4))
   (aT (bV 4 qM.br (ai 6))))))
  (aT (bG (jS (av (aQ vc (ai 2) (ai 5)) (av (aQ vc (ai 3) (ai 5)) aA)))))))))),?_⟩
 try dsimp only[cS,cT,cU,cV]
 have wg:za 10 38:=by refine⟨?_,?_,?_⟩<;>decide
 obtain⟨M,mP,aas⟩:=sM V.int [10,1000,10 ^ Int.toNat 38] a 3 rfl (by show 0<3;decide)
 have MV:0<M/\M<=10 ^ 38:=by
  have:∀ y∈([10,1000,10 ^ Int.toNat 38]:List Int),0<y/\y<=10 ^ 38:=by decide +kernel
  exact this M mP
 obtain⟨S,b7,nW⟩:=sM V.int [1,-1] b 2 rfl (by show 0<2;decide)
 have MY:S=1\/S = -1:=by simpa using b7
 obtain⟨N,bU,aat⟩:=sM V.int [6,1000,10 ^ Int.toNat 38] (b/2) 3 rfl (by show 0<3;decide)
 have MW:0<N/\N<=10 ^ 38:=by
  have:∀ y∈([6,1000,10 ^ Int.toNat 38]:List Int),0<y/\y<=10 ^ 38:=by decide +kernel
  exact this N bU
 have gW:y9 (a/3%M) S:=by rcases MY with rfl | rfl<;>exact .inr ⟨by decide,by decide⟩
 have m0:=hl (a/3) (show M≠0 by omega)
 have fJ:=hy (a/3) MV.1
 have NS:=hl (b/6) (show N≠0 by omega)
 have eT:=hy (b/6) MW.1
 refine⟨_,I,_,_,I,I,⟨by decide,.inl (by decide)⟩,_,_,rfl,rfl,wg,K8,fun g1 x1=>⟨_,rfl,_,_,rfl,rfl,(by show (0:Int)<3;decide),.inl (.inl ⟨_,_,_,_,rfl,rfl,bX aM,aas,_,_,rfl,rfl,MV.1,_,rfl,jA,fun g2 vR=>⟨_,rfl,_,_,rfl,rfl,(by show (0:Int)<2;decide),.inl (.inl ⟨_,_,_,_,rfl,rfl,bX aM,nW,.inl ⟨_,_,rfl,rfl,gW,?_⟩⟩)⟩⟩)⟩⟩
 have hU:=(Ext.lst (xs:=[V.int 10,.int 1000,.int (10 ^ Int.toNat 38)]) x1).trans (Ext.lst (xs:=[V.int 1,.int (-1)]) vR)
 have b9:(a/3%M*S).natAbs<=10 ^ 38:=by rcases MY with rfl | rfl<;>omega
 have M0:a=0->a/3%M*S=0:=by rintro rfl;rw[Int.zero_ediv,Int.zero_emod,Int.zero_mul]
 dsimp only
 generalize a/3%M*S=T at b9 M0 ⊢
 refine⟨_,I,_,_,I,I,⟨by decide,.inl (by decide)⟩,_,_,rfl,rfl,wg,K8,fun g3 aa5=>⟨_,rfl,_,_,rfl,rfl,⟨by decide,.inl (by decide)⟩,_,_,rfl,rfl,(by show (0:Int)<3;decide),.inl (.inl ⟨_,_,_,_,rfl,rfl,bX aM,aat,_,_,rfl,rfl,MW.1,.inl ⟨_,_,rfl,rfl,?_⟩⟩)⟩⟩
 have oB:=hU.trans (Ext.lst (xs:=[V.int 6,.int 1000,.int (10 ^ Int.toNat 38)]) aa5)
 have xP:0<1+b/6%N/\1+b/6%N<=10 ^ 38:=by omega
 have MK:b=0->1+b/6%N=1:=by rintro rfl;rw[Int.zero_ediv,Int.zero_emod];rfl
 dsimp only
 generalize 1+b/6%N=B at xP MK ⊢
 generalize upd (upd (upd H g1 _) g2 _) g3 _=bt at oB ⊢
 refine⟨_,I,_,I,_,I,?_⟩
 obtain⟨B,rfl⟩:∃ n:Nat,B=n:=⟨B.toNat,by omega⟩
 refine⟨fun m ab ax=>bt=ax/\∃ (y:Nat) (CH:Option V),ab=[J (.int a),J (.int b),J (.int T),J (.int (B:Int)),J (.int (m:Nat)),J (.int (y:Nat)),CH]/\Nat.gcd y m=Nat.gcd B T.natAbs/\0<y,⟨T.natAbs,I,B,aw,?_,I,by omega⟩,?_⟩
 ·rw[show (if T<0 then -T else T)=((T.natAbs:Nat):Int) by split<;>omega];rfl
 rintro m ab ax ⟨rfl,y,CH,rfl,aK,bM⟩
 refine⟨_,I,_,_,I,I,_,I,?_⟩
 refine e0 (fun c=>?_) (fun c=>?_)
 ·have hm:0<m:=by omega
  refine⟨fun bQ H'=>∃ b1,b1<m/\(bt=H'/\∃ (y:Nat) (CH:Option V),bQ=[J (.int a),J (.int b),J (.int T),J (.int (B:Int)),J (.int (b1:Nat)),J (.int (y:Nat)),CH]/\Nat.gcd y b1=Nat.gcd B T.natAbs/\0<y),fun _ _ h=>h,?_⟩
  refine⟨_,I,_,I,_,_,I,I,(by omega),_,I,_,I,y%m,Nat.mod_lt _ hm,I,m,J (.int ((y%m:Nat):Int)),?_,?_,hm⟩
  ·dsimp only
   rw[<- Int.natCast_emod];rfl
  ·rw[Nat.gcd_comm,<- Nat.gcd_rec,Nat.gcd_comm];exact aK
 ·have hm:m=0:=by omega
  subst hm
  rw[Nat.gcd_zero_right] at aK
  have ajG:y<=B:=by rw[aK];exact Nat.gcd_le_left _ (by omega)
  have ai3:(y:Int)∣T:=by rw[aK];exact Int.ofNat_dvd_left.mpr (Nat.gcd_dvd_right _ _)
  have YW:(y:Int)∣(B:Int):=by rw[aK];exact Int.natCast_dvd_natCast.mpr (Nat.gcd_dvd_left _ _)
  have p2:c1.Int.intBits (y:Int)<=9000:=by
   rw[vl]
   have ajd:(10:Nat) ^ 38<2 ^ 200:=by decide +kernel
   exact ey (hn (show y<2 ^ 200 by omega)) (by decide)
  refine⟨_,I,_,I,_,_,I,I,⟨by omega,.inl p2⟩,_,rfl,_,rfl,_,_,rfl,rfl,⟨by omega,.inl p2⟩,jA,fun t aW=>?_⟩
  have u2:=oB.trans (Ext.tup (xs:=[V.int (T/(y:Int)),.int ((B:Int)/(y:Int))]) aW)
  refine⟨_,u2.sub,q _ _ t _ u2 (oB.s.free aW) aM (X9 ?_ ?_ ?_ ?_) (fun z=>?_)⟩
  ·exact Int.ediv_pos_of_pos_of_dvd (by omega) (by omega) YW
  ·have:Int.gcd T (B:Int)=y:=by rw[aK,Nat.gcd_comm];rfl
   rw[<- this]
   exact Int.gcd_ediv_gcd_ediv_gcd (by rw[this];exact bM)
  ·have:=Int.natAbs_ediv_le_natAbs T (y:Int)
   omega
  ·have:=Int.ediv_le_self (a:=(B:Int)) (y:Int) (by omega)
   omega
  ·have aj:=M0 z.1
   have ar:=MK z.2
   have bB:y=1:=by omega
   rw[aj,ar,bB];exact⟨I,I⟩
theorem acx{b:Bool}{A B:Prop}(aj:b=ag->A)(ar:b=ah->B):if b=ag then A else B:=by
 cases b
 ·exact eb (ar I)
 ·exact gD (aj I)
theorem SZ{w a b:af}(aj:w≠a)(ar:w≠b):BS (.str w) [.str a,.str b]=ah:=by
 have aG:mK (.str a) (.str w)=ah:=by simp[mK,d2 aj]
 have aL:mK (.str b) (.str w)=ah:=by simp[mK,d2 ar]
 unfold BS
 rw[List.any_cons,List.any_cons,aG,aL];rfl
theorem AY:(∀ k:Fin 3,o9 k≠af.ofString "truth"/\o9 k≠af.ofString "nothing")/\(∀ k:Fin 2,ud k≠af.ofString "truth"/\ud k≠af.ofString "nothing")/\(rT≠af.ofString "truth"/\rT≠af.ofString "nothing")/\ua≠af.ofString "truth"/\ua≠af.ofString "nothing":=by decide +kernel
theorem Sk:∀ f:bN,∃ w r,gz f = .tup (.str w::r)/\(r=[]/\c0 f=1\/r≠[]/\w≠af.ofString "truth"/\w≠af.ofString "nothing")
 | .bare k=>⟨_,_,by rw[gz],.inl ⟨rfl,by rw[c0]⟩⟩
 | .sp a b=>⟨_,_,by rw[gz],.inr ⟨mE _ _,AY.2.2.1⟩⟩
 | .le s=>⟨_,_,by rw[gz],.inr ⟨mE _ _,AY.2.2.2⟩⟩
 | .one k f=>⟨_,_,by rw[gz],.inr ⟨mE _ _,AY.1 k⟩⟩
 | .two k ns fs=>⟨_,_,by rw[gz],.inr ⟨mE _ _,AY.2.1 k⟩⟩
theorem E3{n:Int}(h:iu n):(iB n).length<=270:=by
 obtain⟨aj,ar⟩:=h
 have key:∀ m:Nat,m+1<2 ^ 255->(cnt m).length<=269:=fun m hm=>by
  have:=Ap hm
  have:=hn hm
  omega
 unfold iB
 split
 ·rw[ed,cM]
  have:=key (-1 - n).toNat (by omega)
  omega
 ·rw[ed]
  have:=key n.toNat (by omega)
  omega
theorem Lc:∀ (s:List Int),(∀ x∈s,hR (x - 1))->(more s).length<=271*s.length+1
 | [],_=>by rw[more];exact cx _
 | b::r,h=>by
  obtain⟨aj,ar⟩:=h b (hz ..)
  have hm:(b - 1).toNat+1<2 ^ 255:=by omega
  have a1:=Ap hm
  have a2:=hn hm
  have:=Lc r fun x ay=>h x (fk _ ay)
  rw[more,ed,cM,dI,ed]
  omega
theorem Xa{d:D}(h:pT d=ag):(ez d).length<=100000:=by
 obtain⟨p,q,rfl,aj,ar,b0,eB,kN⟩:=EF h
 show (lx (d9 p q)).length<=_
 rw[lg aj] at b0 eB kN ⊢
 rw[lx,dI]
 have a1:=E3 (eB _ (hz ..))
 have a2:=Lc _ kN
 have a3:((p/q::d9 q (p%q)).drop 1).length=(d9 q (p%q)).length:=rfl
 rw[ed] at b0
 rw[a3] at a2
 have a4:(more ((p/q::d9 q (p%q)).drop 1)).length=(more (d9 q (p%q))).length:=rfl
 omega
theorem W9:(ez (.tup [.int 0,.int 1])).length<=300:=by
 show (lx (d9 0 1)).length<=_
 rw[lg (by decide)]
 show (lx (0::d9 1 0)).length<=_
 rw[pA];decide +kernel
theorem R5{s t:af}(h:s.length<=60):(NN s (.str t)).length<=7*t.length+1:=by
 have aq:aZ (s.length - 1)<=6:=hn (w:=6) (by omega)
 have key:∀ l:List Nat,((l.map fun c=>ag::d4 (s.cps.toList.idxOf c) (aZ (s.length - 1))).flatten).length<=7*l.length:=by
  intro l
  induction l with
  | nil=>exact cx _
  | cons c l cA =>
   rw[jw,mF,dI,ed,kF,ed]
   omega
 show (_++[ah]).length<=_
 rw[dI]
 have:=key t.cps.toList
 rw[hT] at this
 exact Nat.succ_le_succ this
theorem KA{fw:D->List Bool}{f:bN}{d:D}:∀ (fs:List bN) (ds:List D),ds.length=fs.length->fW fw (fs++[f]) (ds++[d])=fW fw fs ds++cB fw f d
 | [],[],_=>by
  show fW fw (f::[]) (d::[])=fW fw [] []++_
  rw[fW,fW,fW]
  show cB fw f d++[]=[]++_
  rw[List.append_nil,List.nil_append]
 | [],_::_,h=>by cases h
 | _::_,[],h=>by cases h
 | g::fs,e::ds,h=>by
  have:=KA fs ds (by simpa using h) (fw:=fw) (f:=f) (d:=d)
  show fW fw (g::(fs++[f])) (e::(ds++[d]))=fW fw (g::fs) (e::ds)++_
  rw[fW,fW]
  show cB fw g e++fW fw (fs++[f]) (ds++[d])=cB fw g e++fW fw fs ds++_
  rw[this,fA]
def lT(m b1 L s:Nat):Prop:=b1<=m/\(L<=150000*(m - b1)\/m=0/\L<=300*s)
def w2(m fJ:Nat)(c:Int):Prop:=m=fJ+1\/m=0/\fJ=0/\c=0
theorem lT.leaf{m fJ L s:Nat}{c:Int}(hc:w2 m fJ c)(hs:1<=s)(ie:L<=150000)(bI:c=0->L<=300):lT m fJ L s:=by
 rcases hc with z | ⟨di,dj,hh⟩
 ·exact⟨by omega,.inl (by omega)⟩
 ·have:=bI hh
  exact⟨by omega,.inr ⟨di,by omega⟩⟩
theorem lT.wrap{m fJ b1 L zu s aF:Nat}{c:Int}(hc:w2 m fJ c)(h:lT fJ b1 L s)(hs:s+1<=aF)(tu:aF<=150)(ie:zu<=L+300):lT m b1 zu aF:=by
 obtain⟨aj,ar⟩:=h
 rcases hc with z | ⟨di,dj,hh⟩
 ·exact⟨by omega,.inl (by omega)⟩
 ·exact⟨by omega,.inr ⟨di,by omega⟩⟩
theorem qT{p:ae}{H H':au}(X:Ext H H')(h:ny p H):pl H' p=pl H p:=by
 obtain⟨ns,e,_⟩:=h
 rw[vq e,vq (X.s _ _ e)]
theorem A0{p D:ae}{o:cv}{H:au}(h:D≠p):pl (upd H D o) p=pl H p:=by
 unfold pl
 rw[bJ (d2 h)]
theorem o1{i j:Nat}{R:eK}{D:Ends}{ab:St}{H:au}{p:ae}(ay:ab[i]?=J (J (.ref p)))(ck:ny p H)(h:∀ c H1,d1 p H H1->w2 (pl H p) (pl H1 p) c->R D (ab.set j (J (.int c))) H1):wx (wu (Iv yR [] il (PG (wz i) Cv)) (vD j)) R D ab H:=⟨_,ay,p,rfl,ck,fun c ns qb hc=>h c _ (d1.pop ck qb) (by
 rw[vq aM,cM]
 rcases hc with z | ⟨di,dj,hh⟩
 ·exact .inl z
 ·exact .inr ⟨di,by rw[dj];rfl,hh⟩)⟩
theorem Rp{dD:kd}{g:gK}{cn:TE}{Q:bx}{H:au}{D:ae}{fO:St}(n:Nat)(xs:Nat->V)(Inv:Nat->List V->au->Prop)(S:St->Prop)(bI:n<=100000)(bu:S fO)
  (x2:∀ i H,i<n->dD.go i H) (Hj:∀ H,dD.stop n H) (bM:∀ i H x H',i<n->dD.pa i H x H'->H'=H/\x=xs i) (aj:Inv 0 [] (upd H D (.lst [])))
  (aW:∀ i,i<n->∀ aY b8 H1,S b8->Inv i aY H1->H1 D=J (.lst aY)->aY.length=i->∀ R:St->V->au->Prop,(∀ bR y bt,S bR->bt D=J (.lst aY)->Inv (i+1) (aY++[y]) (upd bt D (.lst (aY++[y])))->R bR y bt)->g (xs i) b8 H1 fun bR ax=>cn bR ax fun y bt=>R bR y bt)
  (aU:∀ (aY:List V) (H':au),aY.length=n->H' D=J (.lst aY)->Inv n aY H'->Q (.ref D) H') :
  ot dD g rN cn Q fO H D:=by
 refine⟨fun i m b8 ax=>i<=n/\m=n - i/\S b8/\∃ aY:List V,aY.length=i/\ax D=J (.lst aY)/\Inv i aY ax,⟨n,UF _,I,bu,[],I,aM,aj⟩,?_⟩
 rintro i m b8 ax ⟨aB,rfl,ar,aY,me,l6,ck⟩
 rcases jx i n with z | z
 ·refine .inr ⟨x2 i _ z,fun x bt y=>?_⟩
  obtain⟨rfl,rfl⟩:=bM i _ x bt z y
  refine aW i z aY b8 _ ar ck l6 me (fun bR y e3=>∃ zs b1,e3 D=J (.lst zs)/\zs.length<bT/\b1<n - i/\(i+1<=n/\b1=n - (i+1)/\S bR/\∃ ws:List V,ws.length=i+1/\upd e3 D (.lst (zs++[y])) D=J (.lst ws)/\Inv (i+1) ws (upd e3 D (.lst (zs++[y]))))) fun bR y e3 fL Gq Gw=>?_
  exact⟨aY,n - (i+1),Gq,fi (show aY.length<100000 by omega) (by decide),by omega,by omega,rfl,fL,aY++[y],by rw[dI,me];rfl,aM,Gw⟩
 ·have e:i=n:=by omega
  subst e
  exact .inl ⟨Hj _,aU aY ax me l6 ck⟩
theorem jL.grow{X:List ae}{p:ae}{H H':au}(h:jL X H)(g:d1 p H H'):jL X H':=fun x ay=>by
 by_cases z:x=p
 ·subst z
  obtain⟨ns,e,_⟩:=g.l
  exact⟨_,e⟩
 ·obtain⟨l,e⟩:=h x ay
  exact⟨l,g.k _ _ z e⟩
theorem KY{bz:D->Bool}{f:bN}{d:D}(h:cO bz f d=ag):∀ (fs:List bN) (ds:List D),eZ bz fs ds=ag->eZ bz (fs++[f]) (ds++[d])=ag
 | [],[],_=>by show eZ bz [f] [d]=ag;rw[eZ,eZ];simp[h]
 | [],e::ds,h=>by rw[eZ] at h;cases h
 | g::fs,[],h=>by rw[eZ] at h;cases h
 | g::fs,e::ds,hs=>by
  rw[eZ] at hs
  show eZ bz (g::(fs++[f])) (e::(ds++[d]))=ag
  rw[eZ]
  have hs:(cO bz g e&&eZ bz fs ds)=ag:=hs
  show (cO bz g e&&eZ bz (fs++[f]) (ds++[d]))=ag
  rw[h7] at hs ⊢
  exact⟨hs.1,KY h fs ds hs.2⟩
theorem K0{d:D}{n:Nat}(h:eY d<=n):∀ {ds:List D},fI ds<=n->fI (ds++[d])<=n
 | [],_=>by show fI [d]<=n;rw[fI,fI];omega
 | g::fs,hs=>by
  rw[fI] at hs
  show fI (g::(fs++[d]))<=n
  rw[fI]
  have:=K0 h (ds:=fs) (by omega)
  omega
theorem E4:∀ {fs:List bN} {i:Nat} {g:bN},fs[i]?=J g->c0 g<=hM fs
 | [],i,g,h=>by cases h
 | f::fs,0,g,h=>by cases h;rw[hM];omega
 | f::fs,i+1,g,h=>by have:=E4 (fs:=fs) (i:=i) h;rw[hM];omega
inductive Pr(d:Nat)(vs:List V)(H:au)(Q:bx)(E:bP):Prop where
 |mk (p:ae) (t8:V) (f:bN) (X:List ae) (bu:vs=[.ref p,t8]) (aj:p∈X) (ar:ny p H) (bB:jL X H) (b0:dK X H (gz f) t8) (eB:ht f) (kN:aW f<=d) (vH:c0 f<=150) (Bi:∀ v ix H',d1 p H H'->dK X H' ix v->cO pT f ix=ag->eY ix<=aW f+1->lT (pl H p) (pl H' p) (cB ez f ix).length (c0 f)->Q v H'):Pr d vs H Q E
def Cn(d:Nat):b5:=fun vs H Q E=>Pr d vs H Q E
theorem EY{n:Nat}:∀ (ds:List D),(∀ d,d∈ds->eY d<=n)->fI ds<=n
 | [],_=>by rw[fI];omega
 | d::ds,h=>by
  rw[fI]
  have:=h d (hz ..)
  have:=EY ds fun e he=>h e (fk _ he)
  omega
theorem Rx(t:af)(c:Nat):(t++(⟨#[c]⟩:af)).cps.toList=t.cps.toList++[c]:=by rw[vm]
set_option maxHeartbeats 4000000 in
theorem TC{d:Nat}(nb:dV mg)(F:dF K mg "_law_value" Ac ["_law_pool_here","_law_form_here"] f fd)(hS:bK P w K mg base 1 "_law_next" ["_law_pool_here"] yR)(sb:bK P w K mg base 2 "_law_signed" ["_law_cell"] Il)(uw:bK P w K mg base 1 "_law_fraction" ["_law_one","_law_other"] H8)
  (pk:bK P w K mg base (d+3) "_law_value" ["_law_pool_here","_law_form_here"] (Cn d)):bK P w K mg base (d+3+1) "_law_value" ["_law_pool_here","_law_form_here"] (Cn (d+1)):=by
 refine F.fK mG (fun bb A outer s H vs Q E az h=>?_)
 obtain⟨p,t8,g,X,rfl,eC,ck,du,bl,aR,cW,f7,q⟩:=h
 refine IF _ (aP (bV 2 mG.br (cN cP (ai 1) aD))
  (aP (cR (cm dd (ai 2) cJ) (aT (bG oE)) cQ)
  (aP (bV 3 mG.br (cq hS az (av (ai 0) aA) (hk:=by omega)))
  (aP (cR (cm dd (ai 2) cJ) (aT (bG (gV dd (aQ dM (ai 3) aD) aD))) cQ)
  (aP (cR (gJ.pt (vn (cm dd (ai 2) cJ) (vg (cm kS (cj d8 rfl nb.dZ d3 (av (ai 0) aA)) aD)))) (aT (bG (cq sb az (av (ai 3) aA) (hk:=by omega)))) cQ)
  (aP (cR (cm dd (ai 2) cJ) (aT (bG (cq sb az (av (aQ dM (ai 3) aD) aA) (hk:=by omega)))) cQ)
  (aP (cR (cm dd (ai 2) cJ) (aT (bG (aQ eh (cN cP (ai 1) aD) (aQ dM (ai 3) (aQ eh (aQ gb (cN cP (ai 1) aD) (cN cP (ai 1) aD)) aD))))) cQ)
  (aP (cR (cm dd (ai 2) cJ) (aT (bG (cq uw az (av (ai 3) (av (cq hS az (av (ai 0) aA) (hk:=by omega)) aA)) (hk:=by omega)))) cQ)
  (aP (cR (cm dd (ai 2) cJ) (AI (bV 4 mG.br (cN cP (fU (av (aQ dM (ai 3) aD) (av aD aA))) (u6 Ay rfl nb.tA sS (av (iU (gV dd (aQ dM (ai 3) aD) aD) (iU (gV oa (cj d8 rfl nb.dZ d3 (av (cN cP (ai 1) aD) aA)) aD) (kj (gV kS (cj d8 rfl nb.dZ d3 (av (ai 0) aA)) aD)))) aA))))
   (aP (bV 5 mG.br cJ)
   (aP (oD i9.never rfl (pF rfl nb.oc (av (ai 4) aA)) (eG (i:=6) mG.br rfl (by first | exact Or.inl I | exact Or.inr I))
    (aP (bV 5 mG.br (aQ eh (ai 5) (cN cP (cN cP (ai 1) aD) (aQ dM (aQ hA (ai 3) aD) (cj d8 rfl nb.dZ d3 (av (cN cP (ai 1) aD) aA))))))
    (aT (bV 3 mG.br (aQ hA (ai 3) (cj d8 rfl nb.dZ d3 (av (cN cP (ai 1) aD) aA)))))))
   (aT (bG (ai 5)))))) cQ)
  (aP (cR (gJ.pt (vn (cm dd (ai 2) cJ) (vg (cm dd (aQ dM (ai 3) aD) aD)))) (aT (bG (jS aA))) cQ)
  (aP (cR (cm dd (ai 2) cJ) (aT (bG (jS (av (cq pk az (av (ai 0) (av (cN cP (ai 1) aD) aA)) (hk:=by omega)) aA)))) cQ)
  (aP (cR (cm dd (ai 2) cJ) (AI (bV 4 mG.br (aQ dM (ai 3) (cN cP (fU (av aD (av aD aA))) (u6 Ay rfl nb.tA sS (av (gV kS (cj d8 rfl nb.dZ d3 (av (ai 0) aA)) aD) aA)))))
   (AI (cR (E9 WT (cN cP (cN cP (ai 1) aD) aD) (fU (av cJ (av cJ aA))) (by with_unfolding_all rfl)) (aT (bV 4 mG.br (aQ dM (aQ hA (ai 3) aD) aD))) cQ)
   (aT (bG (iQ ["_law_k"] [(0,"_law_pool_here"),(1,"_law_form_here")] rfl (by decide +kernel) ⟨rfl,.inl rfl,rfl,.inl rfl,trivial⟩ (pF rfl nb.oc (av (ai 4) aA)) (fun _ _ _ _ _=>(eG (i:=0) (show (["_law_k","_law_pool_here","_law_form_here"]:List af).Nodup by decide +kernel) rfl (by first | exact Or.inl I | exact Or.inr I))) (fun _ _ _ _ _=>iE) (fun _ _ _ _ _=>(cq pk az (av (ai 1) (av (cN cP (ai 2) aD) aA)) (hk:=by omega)))))))) cQ)
  (aP (cR (cm dd (ai 2) cJ) (aT (bG (u6 J4 rfl nb.rO qJ (av (iQ ["_law_name","_law_inner"] [(0,"_law_pool_here")] rfl (by decide +kernel) ⟨rfl,.inl rfl,trivial⟩ (j7 (cN cP (ai 1) aD)) (fun _ _ _ _ _=>(pL rfl (jz (eG (i:=0) (show (["_law_name","_law_inner","_law_pool_here"]:List af).Nodup by decide +kernel) rfl (by first | exact Or.inl I | exact Or.inr I)) (jz (eG (i:=1) (show (["_law_name","_law_inner","_law_pool_here"]:List af).Nodup by decide +kernel) rfl (by first | exact Or.inl I | exact Or.inr I)) pI)))) (fun _ _ _ _ _=>iE) (fun _ _ _ _ _=>(cq pk az (av (ai 2) (av (ai 1) aA)) (hk:=by omega)))) aA)))) cQ)
  (aP (cR (cm dd (ai 2) cJ) (aP (Fx (cN cP (cN cP (ai 1) aD) (aQ dM (ai 3) (cj d8 rfl nb.dZ d3 (av (cN cP (ai 1) aD) aA)))) (pL rfl (jz (eG (i:=7) mG.br rfl (by first | exact Or.inl I | exact Or.inr I)) (jz (eG (i:=8) mG.br rfl (by first | exact Or.inl I | exact Or.inr I)) pI))))
   (aT (bG (jS (av (ai 7) (av (cq pk az (av (ai 0) (av (ai 8) aA)) (hk:=by omega)) aA)))))) cQ)
  (aT (bG (cq pk az (av (ai 0) (av (cN cP (ai 1) aD) aA)) (hk:=by omega)))))))))))))))))) fun G fO hq go=>?_
 try dsimp only[cS,cT,cU,cV] at go
 have a0:∀ (x:V) (r:List V),eH (x::r) 0=J x:=fun x r=>dt (j:=0) rfl
 have a1:∀ (x y:V) (r:List V),eH (x::y::r) 1=J y:=fun x y r=>dt (j:=1) rfl
 have lB:∀ {T:ae},T∉X->T≠p:=fun h z=>h (by rw[z];exact eC)
 cases g with
 | bare k =>
  rw[gz] at bl
  rw[aW] at q
  obtain⟨T,_,rfl,iH,e,⟨_,_,rfl,⟨rfl,_⟩,rfl⟩,_⟩:=bl
  rcases q3 k with rfl | rfl | rfl | rfl
  ·skip
   subst hq
   refine go (kt I e ?_)
   refine kI I fun N=>⟨_,(d1.refl ck).sub,q _ .bL _ (d1.refl ck) I (by rw[cO];rfl) (by rw[eY];omega) (by rw[cB];exact⟨cx _,.inl (UF _)⟩)⟩
  ·skip
   subst hq
   refine go (kt I e ?_)
   refine hV I (by decide +kernel) ?_
   refine o1 I ck fun cl H1 G1 hc=>?_
   refine kI I fun N=>⟨_,I,_,_,I,I,(by show (0:Int)<2;decide),I,_,G1.sub,q _ (.aH _) _ G1 I (by rw[cO];rfl) (by rw[eY];omega) (by rw[cB,c0];exact lT.leaf hc (cx _) (show 1<=150000 by decide) (fun _=>show 1<=300 by decide))⟩
  ·skip
   subst hq
   refine go (kt I e ?_)
   refine hV I (by decide +kernel) ?_
   refine o1 I ck fun cl H1 G1 hc=>?_
   refine hV I (by decide +kernel) ?_
   obtain⟨fJ,qd,BF⟩:=G1.l
   have cF:∀ n:Int,iu n->∃ bY,dg.Sub H bY H1/\Q (.int n) bY:=fun n bc=>⟨_,G1.sub,q _ (.int n) _ G1 rfl (by rw[cO];exact ek bc) (by rw[eY];omega) (by rw[cB,c0];exact lT.leaf hc (cx _) (ey (E3 bc) (by decide)) (fun _=>ey (E3 bc) (by decide)))⟩
   refine⟨_,I,I,_,I,jl I ⟨_,I,_,_,I,.inl ⟨_,bX qd,I⟩,_,_,I,I,_,I,e0 (fun e5=>⟨_,I,cl,I,cF⟩) (fun e5=>?_)⟩⟩
   exact kI I fun N=>⟨_,I,_,_,I,I,(by show (0:Int)<1000;decide),_,I,cF⟩
  ·skip
   subst hq
   refine go (kt I e ?_)
   refine hV I (by decide +kernel) ?_
   refine o1 I ck fun cl H1 G1 hc=>?_
   iterate 4 (first | refine hV I (by decide +kernel) ?_ | refine t6 I (by decide +kernel) ?_)
   refine kI I fun N=>⟨_,I,_,I,p,I,G1.l,fun gh dO kR GK=>⟨cl,gh,I,fun pp af7 t H' lX lE abZ aE bI=>?_⟩⟩
   have ep:=(G1.trans (d1.pop G1.l kR)).ext lX
   have ab0:t∉X:=(du.grow (G1.trans (d1.pop G1.l kR))).no lE
   refine⟨_,ep.sub,q _ (.tup [.int pp,.int af7]) _ ep ⟨t,_,I,ab0,abZ,⟨_,_,I,I,_,_,I,I,I⟩,by simp⟩ (by rw[cO];exact aE) (by rw[eY,fI,fI,fI,eY,eY];omega) ?_⟩
   rw[vq (lX.s p (.lst (dO.map V.int)) aM),cM,cB,c0]
   have ie:=Xa aE
   have ar:dO.length<=pl H1 p:=by
    rcases GK with y | ⟨_,i8,_⟩
    ·omega
    ·rw[i8];exact UF _
   rcases hc with z | ⟨di,dj,hh⟩
   ·exact⟨by omega,.inl (ey ie (by omega))⟩
   ·rcases GK with y | ⟨j8,i8,nd⟩
    ·omega
    ·obtain⟨rfl,rfl⟩:=bI ⟨hh,nd⟩
     exact⟨by rw[i8];exact UF _,.inr ⟨di,W9⟩⟩
 | sp lo aB =>
  rw[gz] at bl
  rw[ht] at aR
  rw[aW] at q
  obtain⟨T,_,rfl,iH,e,⟨_,_,rfl,⟨rfl,_⟩,_,_,rfl,rfl,_,_,rfl,rfl,rfl⟩,_⟩:=bl
  subst hq
  refine go (kt I e ?_)
  refine hV I (by decide +kernel) ?_
  refine o1 I ck fun cl H1 G1 hc=>?_
  iterate 3 (first | refine hV I (by decide +kernel) ?_ | refine t6 I (by decide +kernel) ?_)
  have aG:=G1.k _ _ (lB iH) e
  have a2:eH [V.str rT,V.int lo,V.int aB] 2=J (.int aB):=dt (j:=2) rfl
  have m0:=hl cl (show aB - lo+1≠0 by omega)
  have fJ:=hy cl (show 0<aB - lo+1 by omega)
  refine kI I fun N=>⟨_,I,.inl (.inr ⟨_,_,_,_,I,I,dc aG,a1 _ _ _,_,I,_,I,.inl (.inr ⟨_,_,_,_,I,I,dc aG,a2,_,I,.inl (.inr ⟨_,_,_,_,I,I,dc aG,a1 _ _ _,_,_,I,I,.inl ⟨_,_,I,I,_,_,I,I,(by omega),.inl ⟨_,_,I,I,?_⟩⟩⟩)⟩)⟩)⟩
  refine⟨_,G1.sub,q _ (.int _) _ G1 I (by rw[cO];exact ek ⟨by omega,by omega⟩) (by rw[eY];omega) ?_⟩
  have aq:aZ (aB - lo).toNat<=190:=hn (by omega)
  rw[cB,c0]
  have ie:(d4 (lo+cl%(aB - lo+1) - lo).toNat (aZ (aB - lo).toNat)).length<=190:=by rw[kF];exact aq
  exact lT.leaf hc (cx _) (ey ie (by decide)) (fun _=>ey ie (by decide))
 | le bg =>
  have Hk:=bl
  rw[gz] at bl
  rw[aW] at q
  have GY:=aR
  rw[ht] at GY
  obtain⟨T,_,rfl,iH,e,⟨_,_,rfl,⟨rfl,_⟩,_,_,rfl,⟨rfl,Nw⟩,rfl⟩,_⟩:=bl
  have abO:0<bg.length:=by
   have:=GY.1
   unfold ko at this
   simp only[h7,jQ] at this
   omega
  subst hq
  refine go (kt I e ?_)
  refine hV I (by decide +kernel) ?_
  refine o1 I ck fun cl H1 G1 hc=>?_
  iterate 5 (first | refine hV I (by decide +kernel) ?_ | refine t6 I (by decide +kernel) ?_)
  have aG:=G1.k _ _ (lB iH) e
  have BX:bg.length<=bT:=eX (by omega)
  obtain⟨fJ,qd,BF⟩:=G1.l
  refine kI I fun N=>⟨fun bQ H'=>Ext H1 H'/\∃ n:Nat,n<=200/\(cl=0->n=0)/\bQ=[J (.ref p),J (.ref T),J (.str ua),J (.int cl),J (.int ((n:Nat):Int)),aw,aw,aw,aw],?_,?_⟩
  ·obtain⟨rv,ajz,FY⟩:=jT cl 7 (by decide)
   have FY:cl%7=((rv:Nat):Int):=FY
   refine⟨_,I,_,_,I,I,(by show (0:Int)<7;decide),jA,fun g1 x1=>?_⟩
   have kk:=Ext.lst (xs:=[V.int (cl%7),.int 200]) x1
   have cF:∀ b:Bool,(b=ag->cl%41=40)->∃ v:Nat,(v<=200/\(cl=0->v=0))/\eH [V.int (cl%7),.int 200] (if b=ag then 1 else 0)=J (.int ((v:Nat):Int)):=fun b aq=>by
    cases b
    ·exact⟨rv,⟨by omega,by rintro rfl;omega⟩,by rw[FY];exact dt (j:=0) I⟩
    ·exact⟨200,⟨by omega,by rintro rfl;exact absurd (aq I) (by decide)⟩,dt (j:=1) rfl⟩
   refine⟨_,I,_,_,I,I,(by show (0:Int)<41;decide),I,_,I,e0 (fun gh=>?_) (fun gh=>?_)⟩
   ·refine⟨_,I,.inl (.inr ⟨_,_,_,_,I,I,dc (kk.s _ _ aG),a1 _ _ _,_,_,I,⟨BX,I⟩,.inl ⟨_,_,I,I,_,I,e0 (fun fD=>?_) (fun fD=>?_)⟩⟩)⟩
    ·refine⟨_,I,_,_,I,.inl ⟨_,bX (kk.s _ _ qd),I⟩,_,_,I,I,?_⟩
     obtain⟨v,mT,oU⟩:=cF (decide (70<(((fJ.map V.int).length:Nat):Int))) (fun _=>V.int.inj gh)
     exact .inl (.inr ⟨_,I,.inl (.inl ⟨_,_,_,_,I,I,bX aM,oU,kk,v,mT.1,mT.2,I⟩)⟩)
    ·obtain⟨v,mT,oU⟩:=cF ah (fun z=>nomatch z)
     exact .inl (.inr ⟨_,I,.inl (.inl ⟨_,_,_,_,I,I,bX aM,oU,kk,v,mT.1,mT.2,I⟩)⟩)
   ·obtain⟨v,mT,oU⟩:=cF ah (fun z=>nomatch z)
    exact .inl (.inr ⟨_,I,.inl (.inl ⟨_,_,_,_,I,I,bX aM,oU,kk,v,mT.1,mT.2,I⟩)⟩)
  rintro y2 fg ⟨sF,n,bc,ma,rfl⟩
  have hc:w2 (pl H p) (pl fg p) cl:=by rw[qT sF G1.l];exact hc
  have aG:=sF.s _ _ aG
  have G1:=G1.ext sF
  refine⟨_,I,_,I,by omega,by omega,?_⟩
  rw[show (((n:Nat):Int)).toNat=n by omega]
  refine u9 (fun i ab ax=>fg=ax/\∃ (t:af) (c:Int) (y1:Option V),ab=[J (.ref p),J (.ref T),J (.str ua),J (.int c),J (.int ((n:Nat):Int)),J (.str t),y1,aw,aw]/\t.length=i/\mW t bg=ag) ⟨I,af.ofString "",cl,aw,I,by decide +kernel,rfl⟩ ?_ ?_
  ·rintro i ab ax aB ⟨rfl,t,c,y1,rfl,qf,BG⟩
   obtain⟨k,hk,kJ⟩:=jT (c/287) bg.length abO
   have hk':k<bg.cps.toList.length:=by rw[hT];exact hk
   have iY:eH bg.cps.toList (c/287%((bg.length:Nat):Int))=J bg.cps.toList[k]:=by rw[kJ];exact dt (dm hk')
   refine⟨_,I,_,I,.inl (.inr ⟨_,_,_,_,I,I,dc aG,a1 _ _ _,_,I,_,_,I,I,⟨by decide,by decide⟩,_,rfl,.inl (.inr ⟨_,_,_,_,rfl,rfl,dc aG,a1 _ _ _,_,_,rfl,⟨BX,rfl⟩,_,_,rfl,rfl,(by omega),.inr ⟨_,_,_,rfl,rfl,BX,iY,.inr ⟨_,_,rfl,rfl,?_,?_⟩⟩⟩)⟩)⟩
   ·show t.length+1<=bT
    exact eX (by omega)
   refine⟨_,I,_,I,.inl (.inr ⟨_,_,_,_,I,I,dc aG,a1 _ _ _,_,_,I,⟨BX,I⟩,_,_,I,I,⟨by omega,by omega⟩,rfl,_,_,_,rfl,?_,?_⟩)⟩
   ·rw[oz,qf];rfl
   ·unfold mW at BG ⊢
    rw[Rx,List.all_append,BG]
    simp
  ·rintro ab ax ⟨rfl,t,c,y1,rfl,qf,BG⟩
   refine⟨_,I,_,G1.sub,q _ (.str t) _ G1 ⟨I,by omega⟩ (by rw[cO];exact mD.mpr ⟨ek (by omega),BG⟩) (by rw[eY];omega) ?_⟩
   have ie:=R5 (t:=t) GY.2
   rw[cB,c0]
   exact lT.leaf hc (cx _) (by omega) (fun z=>by have:=ma z;omega)
 | one k g =>
  have qe:c0 g+1<=150:=by rw[c0] at f7;exact f7
  have Hk:=bl
  have ajB:=aR
  rw[gz] at bl
  rw[ht] at aR
  rw[aW] at cW
  rw[aW] at q
  obtain⟨T,_,rfl,iH,e,⟨_,_,rfl,⟨rfl,_⟩,jm,_,rfl,hd,rfl⟩,_⟩:=bl
  rcases pR k with rfl | rfl | rfl
  ·skip
   subst hq
   refine go (kt I e ?_)
   refine hV I (by decide +kernel) ?_
   refine o1 I ck fun cl H1 G1 hc=>?_
   iterate 6 (first | refine hV I (by decide +kernel) ?_ | refine t6 I (by decide +kernel) ?_)
   have aG:=G1.k _ _ (lB iH) e
   refine⟨_,I,I,_,I,jl I ⟨_,I,_,_,I,I,(by show (0:Int)<2;decide),I,_,I,e0 (fun e5=>?_) (fun e5=>?_)⟩⟩
   ·refine⟨UF _,fun t lE=>?_⟩
    have ep:=G1.ext (Ext.tup (xs:=[]) lE)
    exact⟨_,ep.sub,q _ (.tup []) _ ep ⟨t,[],I,(du.grow G1).no lE,aM,I,by simp⟩ (by rw[cO];rfl) (by rw[eY,fI];omega) (by rw[qT (Ext.tup lE) G1.l,cB];exact lT.leaf hc (LU _) (show 1<=150000 by decide) (fun _=>show 1<=300 by decide))⟩
   refine kI I fun N=>⟨_,I,_,I,.inl (.inr ⟨_,_,_,_,I,I,dc aG,a1 _ _ _,p,jm,g,X,I,eC,G1.l,du.grow G1,dK.grow eC G1 hd,aR,by omega,by omega,fun v ix H' G p7 i0 rb n4=>⟨qU,fun t lE=>?_⟩⟩)⟩
   have fQ:=Ext.tup (xs:=[v]) lE
   have ep:=(G1.trans G).ext fQ
   refine⟨_,ep.sub,q _ (.tup [ix]) _ ep ⟨t,_,I,(du.grow (G1.trans G)).no lE,aM,⟨_,_,I,p7.same fQ.s,I⟩,by simp⟩ ?_ (by rw[eY,fI,fI];omega) ?_⟩
   ·rw[cO];exact i0
   ·rw[qT fQ (G1.trans G).l,cB,c0]
    exact n4.wrap hc (cx _) (by omega) (show (cB ez g ix).length+1<=_ by omega)
  ·skip
   subst hq
   refine go (kt I e ?_)
   refine hV I (by decide +kernel) ?_
   refine o1 I ck fun cl H1 G1 hc=>?_
   iterate 8 (first | refine hV I (by decide +kernel) ?_ | refine t6 I (by decide +kernel) ?_)
   have aG:=G1.k _ _ (lB iH) e
   obtain⟨fJ,qd,BF⟩:=G1.l
   obtain⟨hN,e2,mL,oK⟩:=Sk g
   have oS:=dK.grow eC G1 hd
   rw[mL] at oS
   obtain⟨dw,ws,rfl,vM,e',⟨_,ajX,rfl,⟨rfl,ab9⟩,vU⟩,BQ⟩:=oS
   refine kI I fun N=>⟨fun bQ H'=>Ext H1 H'/\∃ n:Nat,n<=3/\(cl=0->n=0)/\bQ=[J (.ref p),J (.ref T),J (.str (o9 1)),J (.int cl),J (.int ((n:Nat):Int)),aw,aw,aw,aw],?_,?_⟩
   ·refine⟨_,I,jA,fun g2 vR=>?_⟩
    have hU:=Ext.lst (xs:=[V.int 2,.int 4]) vR
    obtain⟨v,⟨Hk,mT⟩,oU⟩:∃ v:Nat,(0<v/\v<=4)/\eH [V.int 2,.int 4] (if decide (50<(((fJ.map V.int).length:Nat):Int))=ag then 1 else 0)=J (.int ((v:Nat):Int)):=by
     cases decide (50<(((fJ.map V.int).length:Nat):Int))
     ·exact⟨2,by omega,dt (j:=0) rfl⟩
     ·exact⟨4,by omega,dt (j:=1) rfl⟩
    obtain⟨n,bc,gP⟩:=jT cl v Hk
    refine⟨_,I,_,_,I,.inl ⟨_,bX (hU.s _ _ qd),I⟩,_,_,I,I,.inl (.inr ⟨_,I,.inl (.inl ⟨_,_,_,_,I,I,bX aM,oU,_,_,I,I,(by omega),hU,n,by omega,(fun z=>by rw[z,Int.zero_emod] at gP;omega),?_⟩)⟩)⟩
    dsimp only
    rw[gP];rfl
   rintro ajY g0 ⟨u2,NS,ma,acg,rfl⟩
   refine⟨fun bQ H'=>Ext H1 H'/\∃ n:Nat,n<=60/\(n<=3\/c0 g=1)/\(cl=0->n=0)/\bQ=[J (.ref p),J (.ref T),J (.str (o9 1)),J (.int cl),J (.int ((n:Nat):Int)),aw,aw,aw,aw],?_,?_⟩
   ·refine⟨_,I,.inl (.inr ⟨_,_,_,_,I,I,dc (u2.s _ _ aG),a1 _ _ _,.inl (.inr ⟨_,_,_,_,I,I,dc (u2.s _ _ e'),a0 _ _,jA,fun g1 x1=>?_⟩)⟩)⟩
    have Jv:=u2.trans (Ext.lst (xs:=[V.str (af.ofString "truth"),.str (af.ofString "nothing")]) x1)
    refine⟨_,_,I,.inl (bX aM),I,I,_,I,acx (fun YK=>?_) (fun _=>⟨Jv,NS,by omega,.inl ma,acg,rfl⟩)⟩
    have yV:c0 g=1:=by
     rcases oK with⟨_,z⟩ | ⟨_,di,dj⟩
     ·exact z
     ·exfalso
      exact absurd (YK.symm.trans (SZ di dj)) (by decide)
    obtain⟨n,bc,gP⟩:=jT (cl/4) 61 (by decide)
    have gP:cl/4%61=((n:Nat):Int):=gP
    refine⟨_,I,_,_,I,I,⟨by decide,by decide⟩,_,_,rfl,rfl,(by show (0:Int)<61;decide),Jv,n,by omega,.inr yV,(fun z=>by subst z;omega),?_⟩
    dsimp only
    rw[gP];rfl
   rintro y2 fg ⟨sF,n,bc,abv,ma,rfl⟩
   have hc:w2 (pl H p) (pl fg p) cl:=by rw[qT sF G1.l];exact hc
   have aG:=sF.s _ _ aG
   have G1:=G1.ext sF
   refine⟨_,I,_,I,by omega,by omega,fun dT fo=>?_⟩
   rw[show (((n:Nat):Int)).toNat=n by omega]
   have nX:=du.grow G1
   have Bn:dT∉X:=nX.no fo
   have pZ:dT≠p:=fun z=>Bn (by rw[z];exact eC)
   have il:=Ext.lst (xs:=[]) fo
   have q9:∀ {ax:au},d1 p fg ax->ax T=J (.tup [.str (o9 1),.ref dw]):=fun G=>G.k _ _ (lB iH) aG
   refine Rp n (fun i => .int (0+((i:Nat):Int))) (fun i aY ax=>d1 p fg ax/\∃ ds,ds.length=i/\c5 (dT::X) ax ds aY/\(∀ x,x∈ds->cO pT g x=ag/\eY x<=aW g+1)/\pl ax p<=pl fg p/\((ds.map fun d=>ag::cB ez g d).flatten).length<=150000*(pl fg p - pl ax p)+i*(1+300*c0 g)) (fun ab=>∃ z,ab=[z,J (.ref p),J (.ref T)]) (by omega) ⟨_,I⟩ (fun i H aB=>aB) (fun H=>cx _) (fun i H x H' aB h=>⟨h.1,h.2⟩) ⟨(d1.refl G1.l).ext il,[],I,I,(fun x ay=>nomatch ay),by rw[qT il G1.l];exact cx _,UF _⟩ ?_ ?_
   ·rintro i aB aY b8 ax ⟨z,rfl⟩ ⟨ep,ds,lD,gq,hZ,x6,xT⟩ oP me R cY
    have nY:jL (dT::X) ax:=(nX.grow ep).add oP
    refine⟨_,I,_,I,.inl (.inr ⟨_,_,_,_,I,I,dc (q9 ep),a1 _ _ _,p,.ref dw,g,dT::X,I,fk _ eC,ep.l,nY,dK.grow (fk _ eC) ep (dK.add fo _ (dK.grow eC G1 hd)),aR,by omega,by omega,fun v ix bt fR p7 i0 rb n4=>?_⟩)⟩
    have pY:bt dT=J (.lst aY):=fR.k _ _ pZ oP
    have ft:∀ b u,b∉dT::X->bt b=J u->upd bt dT (.lst (aY++[v])) b=J u:=fun b u nb e=>by rw[bJ (fun z=>nb (by rw[z];exact hz ..))];exact e
    have h1:∀ b u,b∉dT::X->ax b=J u->bt b=J u:=fun b u nb e=>fR.k b u (fun z=>nb (by rw[z];exact fk _ eC)) e
    refine cY _ _ _ ⟨_,I⟩ pY ⟨(ep.trans fR).set fo pY pZ,ds++[ix],by rw[dI,lD];rfl,c5.snoc (dK.keep ft _ p7) _ (c5.keep ft _ (c5.keep h1 _ gq)),fun x ay=>?_,?_,?_⟩
    ·rcases List.mem_append.mp ay with z | z
     ·exact hZ x z
     ·rw[fy.mp z];exact⟨i0,rb⟩
    ·rw[A0 pZ];exact ey n4.1 x6
    ·rw[A0 pZ,fz,List.flatten_append,dI]
     have aG:(List.map (fun d=>ag::cB ez g d) [ix]).flatten.length=(cB ez g ix).length+1:=by simp
     obtain⟨gp,fC⟩:=n4
     have aL:(i+1)*(1+300*c0 g)=i*(1+300*c0 g)+(1+300*c0 g):=Nat.succ_mul ..
     rw[aG,aL]
     generalize i*(1+300*c0 g)=ajH at xT ⊢
     omega
   ·rintro aY H' me nV ⟨ep,ds,lD,gq,hZ,x6,xT⟩
    have fR:=G1.trans ep
    refine⟨_,fR.sub,q _ (.lst ds) _ fR ⟨dT,aY,I,Bn,nV,c5.weak (fun x ay=>fk _ ay) _ gq,by omega⟩ ?_ ?_ ?_⟩
    ·rw[cO]
     exact mD.mpr ⟨ek (by omega),iD.mpr fun x ay=>(hZ x ay).1⟩
    ·have:=EY ds fun x ay=>(hZ x ay).2
     rw[eY];omega
    ·rw[c0] at f7
     have ajA:n*(1+300*c0 g)<=140000:=by
      rcases abv with z | z
      ·exact ey (Nat.mul_le_mul z (show 1+300*c0 g<=45001 by omega)) (by decide)
      ·rw[z];exact ey (Nat.mul_le_mul bc (cx _)) (by decide)
     rw[cB]
     have qZ:(B8 1 (cB ez g) (.lst ds)).length=((ds.map fun d=>ag::cB ez g d).flatten).length+1:=by
      show (_++[ah]).length=_
      rw[dI];rfl
     rw[qZ]
     rcases hc with z | ⟨di,dj,hh⟩
     ·exact⟨by omega,.inl (by omega)⟩
     ·have aaT:ds=[]:=List.length_eq_zero_iff.mp (by rw[lD];exact ma hh)
      have:=LU (.one 1 g)
      exact⟨by omega,.inr ⟨di,by rw[aaT];show 0+1<=_;omega⟩⟩
  ·skip
   subst hq
   refine go (kt I e ?_)
   refine hV I (by decide +kernel) ?_
   refine o1 I ck fun cl H1 G1 hc=>?_
   iterate 11 (first | refine hV I (by decide +kernel) ?_ | refine t6 I (by decide +kernel) ?_)
   have aG:=G1.k _ _ (lB iH) e
   refine⟨_,I,_,I,.inl (.inr ⟨_,_,_,_,I,I,dc aG,a1 _ _ _,p,jm,g,X,I,eC,G1.l,du.grow G1,dK.grow eC G1 hd,aR,by omega,by omega,fun v ix H' G p7 i0 rb n4=>?_⟩)⟩
   exact⟨_,(G1.trans G).sub,q _ ix _ (G1.trans G) p7 (by rw[cO];exact i0) (by omega) (by rw[cB,c0];exact n4.wrap hc (cx _) (by rw[c0] at f7;exact f7) (by show ((cB ez g ix).map (!·)).length<=_;rw[cM];omega))⟩
 | two k ns fs =>
  have qe:∀ {i:Nat} {g:bN},fs[i]?=J g->c0 g<=150:=fun h=>by
   have:=E4 h
   rw[c0] at f7
   omega
  rw[gz] at bl
  rw[ht] at aR
  rw[aW] at cW
  rw[aW] at q
  obtain⟨fG,cG,BJ⟩:=aR
  obtain⟨T,_,rfl,iH,e,⟨_,_,rfl,⟨rfl,_⟩,_,_,rfl,⟨l,tD,rfl,vT,iF,gq,abg⟩,rfl⟩,_⟩:=bl
  have j2:tD.length=fs.length:=by rw[ff.len _ (c5.at _ gq),xn]
  have aa0:0<fs.length/\fs.length<=20:=by
   have h:=fG
   unfold jZ at h
   simp only[h7,jQ] at h
   omega
  rcases vC k with rfl | rfl
  ·skip
   subst hq
   refine go (kt I e ?_)
   refine hV I (by decide +kernel) ?_
   refine o1 I ck fun cl H1 G1 hc=>?_
   iterate 9 (first | refine hV I (by decide +kernel) ?_ | refine t6 I (by decide +kernel) ?_)
   have aG:=G1.k _ _ (lB iH) e
   have xM:=G1.k _ _ (lB vT) iF
   have nX:=du.grow G1
   refine kI I fun N=>?_
   refine .inl ⟨_,I,.inl (.inr ⟨_,_,_,_,I,I,dc aG,a1 _ _ _,l,I,⟨_,bX xM⟩,fun dT fo=>?_⟩)⟩
   have Bn:dT∉X:=nX.no fo
   have pZ:dT≠p:=fun z=>Bn (by rw[z];exact eC)
   have il:=Ext.lst (xs:=[]) fo
   refine Et (K:=K) (a:=l) (xs:=tD) (fun i aY ax=>d1 p H1 ax/\∃ ds,ds.length=i/\c5 (dT::X) ax ds aY/\eZ pT (fs.take i) ds=ag/\fI ds<=gA fs+1/\pl ax p<=pl H1 p/\(fW ez (fs.take i) ds).length<=150000*(pl H1 p - pl ax p)+300*hM (fs.take i)) (fun ab=>∃ di dj,ab=[di,dj,J (.ref p)]) (by omega) ⟨_,_,I⟩ ?_ ⟨(d1.refl G1.l).ext il,[],I,I,by rw[List.take_zero,eZ];rfl,by rw[fI];omega,by rw[qT il G1.l];exact cx _,by rw[List.take_zero,fW];exact UF _⟩ ?_ ?_
   ·rintro i aY ax ⟨ep,_⟩
    exact bX (ep.k _ _ (lB vT) xM)
   ·rintro i x ay aY b8 ax ⟨di,dj,rfl⟩ ⟨ep,ds,lD,GS,rd,hE,x6,xT⟩ oP me R cY
    obtain⟨g,nm,dw,jm,aK,mS,rfl,vM,xJ,hd⟩:=AE fs ns cG gq ay
    obtain⟨yA,vR⟩:=AA BJ aK
    have nY:jL (dT::X) ax:=(nX.grow ep).add oP
    refine⟨_,_,I,dc (ep.k _ _ (lB vM) (G1.k _ _ (lB vM) xJ)),I,_,_,I,_,_,I,I,?_⟩
    refine⟨_,I,_,I,p,jm,g,dT::X,I,fk _ eC,ep.l,nY,dK.grow (fk _ eC) ep (dK.add fo _ (dK.grow eC G1 hd)),yA,by omega,qe aK,fun v ix bt fR p7 i0 rb n4=>?_⟩
    have pY:bt dT=J (.lst aY):=fR.k _ _ pZ oP
    have ft:∀ b u,b∉dT::X->bt b=J u->upd bt dT (.lst (aY++[v])) b=J u:=fun b u nb e=>by rw[bJ (fun z=>nb (by rw[z];exact hz ..))];exact e
    have h1:∀ b u,b∉dT::X->ax b=J u->bt b=J u:=fun b u nb e=>fR.k b u (fun z=>nb (by rw[z];exact fk _ eC)) e
    refine cY _ _ _ ⟨_,_,I⟩ pY ⟨(ep.trans fR).set fo pY pZ,ds++[ix],by rw[dI,lD];rfl,c5.snoc (dK.keep ft _ p7) _ (c5.keep ft _ (c5.keep h1 _ GS)),?_,K0 (by omega) hE,?_,?_⟩
    ·rw[nE,aK]
     exact KY i0 _ _ rd
    ·rw[A0 pZ];exact ey n4.1 x6
    ·have BA:i<=fs.length:=Nat.le_of_lt (kE.mp aK).1
     rw[A0 pZ,nE,aK]
     show (fW ez (fs.take i++[g]) (ds++[ix])).length<=150000*_+300*hM (fs.take i++[g])
     rw[KA _ _ (by rw[kg,lD];omega),EJ,dI]
     obtain⟨gp,fC⟩:=n4
     omega
   ·rintro aY H' me nV ⟨ep,ds,lD,GS,rd,hE,x6,xT⟩
    rw[j2,UV (cx _)] at rd xT
    refine⟨_,_,I,.inl ⟨bX nV,fun t lE=>?_⟩⟩
    have lR:=Ext.tup (xs:=aY) lE
    have fR:=(G1.trans ep).ext lR
    refine⟨_,fR.sub,q _ (.tup ds) _ fR ⟨t,aY,I,(du.grow (G1.trans ep)).no lE,aM,(c5.weak (fun x ay=>fk _ ay) _ GS).same lR.s,by omega⟩ ?_ ?_ ?_⟩
    ·rw[cO,if_pos rfl];exact rd
    ·rw[eY];omega
    ·rw[qT lR (G1.trans ep).l,cB,if_pos rfl,c0]
     rw[c0] at f7
     show lT _ _ (fW ez fs ds).length _
     rcases hc with z | ⟨di,dj,hh⟩
     ·exact⟨by omega,.inl (by omega)⟩
     ·exact⟨by omega,.inr ⟨di,by omega⟩⟩
  ·skip
   subst hq
   refine go (kt I e ?_)
   refine hV I (by decide +kernel) ?_
   refine o1 I ck fun cl H1 G1 hc=>?_
   iterate 10 (first | refine hV I (by decide +kernel) ?_ | refine t6 I (by decide +kernel) ?_)
   have aG:=G1.k _ _ (lB iH) e
   have xM:=G1.k _ _ (lB vT) iF
   refine kI I fun N=>?_
   obtain⟨j,cy,nR⟩:=jT cl tD.length (by omega)
   obtain⟨y,bM⟩:∃ y,tD[j]?=J y:=⟨_,dm cy⟩
   obtain⟨g,nm,dw,jm,aK,mS,rfl,vM,xJ,hd⟩:=AE fs ns cG gq bM
   obtain⟨yA,vR⟩:=AA BJ aK
   refine⟨_,I,.inl (.inr ⟨_,_,_,_,I,I,dc aG,a1 _ _ _,_,I,_,I,.inl (.inr ⟨_,_,_,_,I,I,dc aG,a1 _ _ _,_,_,I,.inl ⟨_,bX xM,I⟩,_,_,I,I,(by omega),.inl (.inl ⟨_,_,_,_,I,I,bX xM,(by rw[nR];exact dt bM),?_⟩)⟩)⟩)⟩
   refine⟨_,_,I,dc (G1.k _ _ (lB vM) xJ),I,_,_,I,_,_,I,I,?_⟩
   refine⟨_,I,_,I,_,I,p,jm,g,X,I,eC,G1.l,du.grow G1,dK.grow eC G1 hd,yA,by omega,qe aK,fun v ix H' G p7 i0 rb n4=>⟨jA,fun t lE=>?_⟩⟩
   have fQ:=Ext.tup (xs:=[V.str nm,v]) lE
   have ep:=(G1.trans G).ext fQ
   have mb:nm.length<=12:=(nI fG).2 nm (jy mS)
   refine⟨_,ep.sub,q _ (.tup [.str nm,ix]) _ ep ⟨t,_,I,(du.grow (G1.trans G)).no lE,aM,⟨_,_,I,⟨I,by omega⟩,_,_,rfl,p7.same fQ.s,rfl⟩,by simp⟩ ?_ (by rw[eY,fI,fI,fI,eY];omega) ?_⟩
   ·rw[cO,if_neg (by decide)]
    show lu pT fs ns nm ix=ag
    rw[vd fs ns nm (jy mS) cG,xa fG mS,e9,aK]
    exact i0
   ·rw[qT fQ (G1.trans G).l,cB,if_neg (by decide),c0]
    show lT _ _ (ql ez fs ns 0 (fs.length - 1) nm ix).length _
    rw[xk fs ns 0 nm (jy mS) cG,xa fG mS,e9,aK,dI,kF]
    have aq:aZ (fs.length - 1)<=5:=hn (w:=5) (by omega)
    exact n4.wrap hc (Nat.succ_le_succ (E4 aK)) (by rw[c0] at f7;exact f7) (by show _+(cB ez g ix).length<=_;omega)
theorem JW(nb:dV mg)(F:dF K mg "_law_value" Ac ["_law_pool_here","_law_form_here"] f fd)(hS:bK P w K mg base 1 "_law_next" ["_law_pool_here"] yR)(sb:bK P w K mg base 2 "_law_signed" ["_law_cell"] Il)(uw:bK P w K mg base 1 "_law_fraction" ["_law_one","_law_other"] H8):∀ d:Nat,bK P w K mg base (d+3) "_law_value" ["_law_pool_here","_law_form_here"] (Cn d)
 | 0=>bK.none F fun vs H Q E z=>by obtain⟨_,_,g,_,_,_,_,_,_,_,h,_⟩:=z;have:=xy g;omega
 | d+1=>TC nb F hS sb uw (JW nb F hS sb uw d)
inductive Pf(d:Nat)(vs:List V)(H:au)(Q:bx)(E:bP):Prop where
 |mk (v1 v2:V) (eI:D) (bu:vs=[v1,v2]) (aj:fP H eI v1) (ar:fP H eI v2) (bB:eY eI<=d) (b0:Q (.aH ag) H):Pf d vs H Q E
def Cj(d:Nat):b5:=fun vs H Q E=>Pf d vs H Q E
theorem EZ:∀ (ds:List D) {d:D},d∈ds->eY d<=fI ds
 | [],d,h=>nomatch h
 | e::ds,d,h=>by
  rw[fI]
  rcases dn.mp h with rfl | h
  ·omega
  ·have:=EZ ds h;omega
theorem Uq{d:Nat}(nb:dV mg)(F:dF K mg "_law_same" Aj ["_law_found","_law_due"] f fd)(qx:bK P w K mg base (d+1) "_law_same" ["_law_found","_law_due"] (Cj d)):bK P w K mg base (d+1+1) "_law_same" ["_law_found","_law_due"] (Cj (d+1)):=by
 refine F.fK Vv (fun bb A outer s H vs Q E az h=>?_)
 obtain⟨v1,v2,eI,rfl,aj,ar,rb,q⟩:=h
 refine IF _ (aP (cR (cm AS (ai 1) oE) (aT (bG (gV AS (ai 0) oE))) cQ)
  (aP (cR (g8 (cj jd rfl nb.gB gx (av (ai 1) (av (iR (v := .ty "bool") rfl nb.A4 AM rfl) aA)))) (aT (bG (iU (cj jd rfl nb.gB gx (av (ai 0) (av (iR (v := .ty "bool") rfl nb.A4 AM rfl) aA))) (kj (gV dd (ai 0) (ai 1)))))) cQ)
  (aP (cR (g8 (cj jd rfl nb.gB gx (av (ai 1) (av (iR (v := .ty "int") rfl nb.tA sS rfl) aA)))) (aT (bG (iU (cj jd rfl nb.gB gx (av (ai 0) (av (iR (v := .ty "int") rfl nb.tA sS rfl) aA))) (iU (Fb (cj jd rfl nb.gB gx (av (ai 0) (av (iR (v := .ty "bool") rfl nb.A4 AM rfl) aA)))) (kj (gV dd (ai 0) (ai 1))))))) cQ)
  (aP (cR (g8 (cj jd rfl nb.gB gx (av (ai 1) (av (iR (v := .ty "str") rfl nb.Iq FG rfl) aA)))) (aT (bG (iU (cj jd rfl nb.gB gx (av (ai 0) (av (iR (v := .ty "str") rfl nb.Iq FG rfl) aA))) (kj (gV dd (ai 0) (ai 1)))))) cQ)
  (aP (cR (gJ.pt (kf (gJ.pt (vn (g8 (cj jd rfl nb.gB gx (av (ai 1) (av (iR (v := .ty "tuple") rfl nb.rO qJ rfl) aA)))) (vg (iS (g8 (cj jd rfl nb.gB gx (av (ai 0) (av (iR (v := .ty "tuple") rfl nb.rO qJ rfl) aA)))))))) (k4 (gJ.pt (vn (g8 (cj jd rfl nb.gB gx (av (ai 1) (av (iR (v := .ty "list") rfl nb.Hv Fn rfl) aA)))) (vg (iS (g8 (cj jd rfl nb.gB gx (av (ai 0) (av (iR (v := .ty "list") rfl nb.Hv Fn rfl) aA))))))))))) (aT (bG gn)) cQ)
  (aP (cR (cm wd (cj d8 rfl nb.dZ d3 (av (ai 0) aA)) (cj d8 rfl nb.dZ d3 (av (ai 1) aA))) (aT (bG gn)) cQ)
  (aT (bG (gV dd (cj d8 rfl nb.dZ d3 (av (iQ ["_law_k"] [(0,"_law_found"),(1,"_law_due")] rfl (by decide +kernel) ⟨rfl,.inl rfl,rfl,.inl rfl,trivial⟩ (pF rfl nb.oc (av (cj d8 rfl nb.dZ d3 (av (ai 1) aA)) aA)) (fun _ _ _ _ _=>(eG (i:=0) (show (["_law_k","_law_found","_law_due"]:List af).Nodup by decide +kernel) rfl (by first | exact Or.inl I | exact Or.inr I))) (fun _ _ _ _ _=>(RN (iS (g8 (cq qx az (av (cN cP (ai 1) (ai 0)) (av (cN cP (ai 2) (ai 0)) aA)) (hk:=by omega)))))) (fun _ _ _ _ _=>(ai 0))) aA)) aD))))))))) fun G fO hq go=>?_
 try dsimp only[cS,cT,cU,cV] at go
 have j8:=aj.ty (K:=K)
 have i8:=ar.ty (K:=K)
 have cF:∃ bY,dg.Sub H bY H/\Q (.aH ag) bY:=⟨H,.refl (dR _),q⟩
 cases eI with
 | bL =>
  obtain rfl:v1 = .bL:=aj
  obtain rfl:v2 = .bL:=ar
  subst hq
  exact go ⟨_,I,I,_,I,jl I ⟨_,I,I,cF⟩⟩
 | aH b =>
  obtain rfl:v1 = .aH b:=aj
  obtain rfl:v2 = .aH b:=ar
  subst hq
  refine go ⟨_,I,I,_,I,gC (fun z=>nomatch z) ?_⟩
  refine⟨_,I,.inl ⟨_,_,_,_,I,i8,hb K _ (by decide),_,I,gD ?_⟩⟩
  refine⟨_,I,.inl ⟨_,_,_,_,I,j8,hb K _ (by decide),?_⟩⟩
  refine⟨ag,I,gD ⟨_,I,_,I,I,?_⟩⟩
  rw[ek rfl];exact cF
 | int i =>
  obtain rfl:v1 = .int i:=aj
  obtain rfl:v2 = .int i:=ar
  subst hq
  refine go ⟨_,I,I,_,I,gC (fun z=>nomatch z) ?_⟩
  refine⟨_,I,.inl ⟨_,_,_,_,I,i8,hb K _ (by decide),_,I,eb ?_⟩⟩
  refine⟨_,I,.inl ⟨_,_,_,_,I,i8,hb K _ (by decide),_,I,gD ?_⟩⟩
  refine⟨_,I,.inl ⟨_,_,_,_,I,j8,hb K _ (by decide),ag,I,gD ?_⟩⟩
  refine⟨_,I,.inl ⟨_,_,_,_,I,j8,hb K _ (by decide),?_⟩⟩
  refine⟨ah,I,ag,I,gD ⟨_,I,_,I,I,?_⟩⟩
  rw[ek rfl];exact cF
 | str t =>
  obtain⟨rfl,_⟩:=aj
  obtain⟨rfl,_⟩:=ar
  subst hq
  refine go ⟨_,I,I,_,I,gC (fun z=>nomatch z) ?_⟩
  refine⟨_,I,.inl ⟨_,_,_,_,I,i8,hb K _ (by decide),_,I,eb ?_⟩⟩
  refine⟨_,I,.inl ⟨_,_,_,_,I,i8,hb K _ (by decide),_,I,eb ?_⟩⟩
  refine⟨_,I,.inl ⟨_,_,_,_,I,i8,hb K _ (by decide),_,I,gD ?_⟩⟩
  refine⟨_,I,.inl ⟨_,_,_,_,I,j8,hb K _ (by decide),ag,I,gD ⟨_,I,_,I,I,?_⟩⟩⟩
  rw[ek rfl];exact cF
 | tup ds =>
  obtain⟨hu,CD,rfl,aG,oS,ei⟩:=aj
  obtain⟨hv,o8,rfl,aL,kQ,et⟩:=ar
  subst hq
  refine go ⟨_,I,I,_,I,gC (fun z=>nomatch z) ?_⟩
  iterate 3 refine⟨_,I,.inl ⟨_,_,_,_,I,i8,hb K _ (by decide),_,I,eb ?_⟩⟩
  refine⟨_,I,.inl ⟨_,_,_,_,I,i8,hb K _ (by decide),_,I,gD ?_⟩⟩
  refine⟨_,I,.inl ⟨_,_,_,_,I,j8,hb K _ (by decide),?_⟩⟩
  refine⟨ag,I,eb ⟨_,I,.inl ⟨_,_,_,_,I,i8,hb K _ (by decide),_,I,eb (eb ?_)⟩⟩⟩
  have eT:=ff.len ds oS
  have dO:=ff.len ds kQ
  rw[eY] at rb
  refine⟨_,I,_,_,I,.inr ⟨_,dc aG,I⟩,_,I,_,_,I,.inr ⟨_,dc aL,I⟩,I,_,I,ym (by rw[eT,dO]) ?_⟩
  refine⟨_,I,_,_,I,.inr ⟨_,dc aL,I⟩,_,I,by omega,by omega,fun dT fo=>?_⟩
  rw[show (((o8.length:Nat):Int)).toNat=o8.length by omega]
  refine Kn (fun _=>ah) (fun i => .int (i:Nat)) (fun ab=>∃ z,ab=[z,J (.ref hu),J (.ref hv)]) (by omega) ⟨_,I⟩ fo ?_ ?_
  ·rintro i aB b8 H1 ⟨z,rfl⟩ eR R pD cY
   obtain⟨hg,j3⟩:∃ x,CD[i]?=J x:=⟨_,dm (by omega)⟩
   obtain⟨gv,tw⟩:∃ x,o8[i]?=J x:=⟨_,dm aB⟩
   obtain⟨jf,lC,BD⟩:=ff.get ds oS j3
   obtain⟨YU,xV,p9⟩:=ff.get ds kQ tw
   rw[lC] at xV
   obtain rfl:=gN xV
   have hm:=EZ ds (jy lC)
   refine⟨_,I,_,I,.inl (.inr ⟨_,_,_,_,I,I,dc (eR _ _ aG),(by rw[Int.zero_add];exact dt j3),_,I,_,I,.inl (.inr ⟨_,_,_,_,I,I,dc (eR _ _ aL),(by rw[Int.zero_add];exact dt tw),hg,gv,jf,I,fP.same eR _ BD,fP.same eR _ p9,by omega,_,rfl,?_⟩)⟩)⟩
   exact eb (cY _ ⟨_,I⟩)
  ·rw[show List.filter (fun _:Nat=>ah) (List.range o8.length)=[] from List.filter_eq_nil_iff.mpr (fun _ _=>g6)]
   refine⟨_,_,I,.inl ⟨_,bX aM,I⟩,I,H,.refl (cL fo),?_⟩
   exact q
 | lst ds =>
  obtain⟨hu,CD,rfl,aG,oS,ei⟩:=aj
  obtain⟨hv,o8,rfl,aL,kQ,et⟩:=ar
  subst hq
  refine go ⟨_,I,I,_,I,gC (fun z=>nomatch z) ?_⟩
  iterate 3 refine⟨_,I,.inl ⟨_,_,_,_,I,i8,hb K _ (by decide),_,I,eb ?_⟩⟩
  refine⟨_,I,.inl ⟨_,_,_,_,I,i8,hb K _ (by decide),_,I,eb (eb ?_)⟩⟩
  refine⟨_,I,.inl ⟨_,_,_,_,I,i8,hb K _ (by decide),_,I,gD ?_⟩⟩
  refine⟨_,I,.inl ⟨_,_,_,_,I,j8,hb K _ (by decide),?_⟩⟩
  refine⟨ag,I,eb ?_⟩
  have eT:=ff.len ds oS
  have dO:=ff.len ds kQ
  rw[eY] at rb
  refine⟨_,I,_,_,I,.inl ⟨_,bX aG,I⟩,_,I,_,_,I,.inl ⟨_,bX aL,I⟩,I,_,I,ym (by rw[eT,dO]) ?_⟩
  refine⟨_,I,_,_,I,.inl ⟨_,bX aL,I⟩,_,I,by omega,by omega,fun dT fo=>?_⟩
  rw[show (((o8.length:Nat):Int)).toNat=o8.length by omega]
  refine Kn (fun _=>ah) (fun i => .int (i:Nat)) (fun ab=>∃ z,ab=[z,J (.ref hu),J (.ref hv)]) (by omega) ⟨_,I⟩ fo ?_ ?_
  ·rintro i aB b8 H1 ⟨z,rfl⟩ eR R pD cY
   obtain⟨hg,j3⟩:∃ x,CD[i]?=J x:=⟨_,dm (by omega)⟩
   obtain⟨gv,tw⟩:∃ x,o8[i]?=J x:=⟨_,dm aB⟩
   obtain⟨jf,lC,BD⟩:=ff.get ds oS j3
   obtain⟨YU,xV,p9⟩:=ff.get ds kQ tw
   rw[lC] at xV
   obtain rfl:=gN xV
   have hm:=EZ ds (jy lC)
   refine⟨_,I,_,I,.inl (.inl ⟨_,_,_,_,I,I,bX (eR _ _ aG),(by rw[Int.zero_add];exact dt j3),_,I,_,I,.inl (.inl ⟨_,_,_,_,I,I,bX (eR _ _ aL),(by rw[Int.zero_add];exact dt tw),hg,gv,jf,I,fP.same eR _ BD,fP.same eR _ p9,by omega,_,rfl,?_⟩)⟩)⟩
   exact eb (cY _ ⟨_,I⟩)
  ·rw[show List.filter (fun _:Nat=>ah) (List.range o8.length)=[] from List.filter_eq_nil_iff.mpr (fun _ _=>g6)]
   refine⟨_,_,I,.inl ⟨_,bX aM,I⟩,I,H,.refl (cL fo),?_⟩
   exact q
theorem Kd(nb:dV mg)(F:dF K mg "_law_same" Aj ["_law_found","_law_due"] f fd):∀ d:Nat,bK P w K mg base (d+1) "_law_same" ["_law_found","_law_due"] (Cj d)
 | 0=>bK.none F fun vs H Q E z=>by obtain⟨_,_,eI,_,_,_,h,_⟩:=z;have:=Sm eI;omega
 | d+1=>Uq nb F (Kd nb F d)
mutual
theorem Fd:∀ (f:bN),ht f->mh hasAll f
 | .bare k,h=>⟨by rw[gj];trivial,by rw[n7];rfl⟩
 | .sp a b,h=>by rw[ht] at h;exact⟨by rw[gj];exact⟨h.1,h.2.2⟩,by rw[n7];rfl⟩
 | .le s,h=>by rw[ht] at h;exact⟨by rw[gj];exact h,by rw[n7];rfl⟩
 | .one k f,h=>by
  rw[ht] at h
  obtain⟨a,b⟩:=Fd f h
  exact⟨by rw[gj];exact a,by rw[n7];exact⟨I,b⟩⟩
 | .two k ns fs,h=>by
  rw[ht] at h
  obtain⟨a,b⟩:=Lb fs h.2.2
  exact⟨by rw[gj];exact⟨h.1,h.2.1,a⟩,by rw[n7];exact⟨I,b⟩⟩
theorem Lb:∀ (fs:List bN),j6 fs->B7 hasAll fs
 | [],_=>⟨by rw[gX];trivial,by rw[rn];trivial⟩
 | f::fs,h=>by
  rw[j6] at h
  obtain⟨a,b⟩:=Fd f h.1
  obtain⟨a2,fC⟩:=Lb fs h.2
  exact⟨by rw[gX];exact⟨a,a2⟩,by rw[rn];exact⟨b,fC⟩⟩
end
theorem agm{N:Nat}(bU:290<=N):w8 N pT:=fun d h=>by
 obtain⟨p,q,rfl,aj,ar,bB,b0⟩:=EF h
 obtain⟨g,e⟩:=Ll aj ar
 exact⟨d9 p q,g,by omega,b0,by unfold iW;rw[e],rfl⟩
theorem N9{N:Nat}(bU:N<=310):w7 N iV:=fun s g aj ar=>by
 obtain⟨a,b⟩:=g.d9
 show decide _=ag
 rw[b]
 exact ek ⟨a,g.c4,by omega,ar⟩
theorem ago{g:bN}{d:D}(aK:gj g)(aE:cO pT g d=ag):(∀ e z,cZ 302 e g (cB ez g d++z) = .ok d z)/\cO iV g d=ag/\
  ∀ s y,cB ez g d=s++y->y≠[]->(∃ k,cZ 302 ah g s = .no ah k)/\∃ hB z,cZ 302 ag g s = .ok hB []/\cO iV g hB=ag/\cB ez g hB=s++z/\z.length<=560*c0 g:=by
 have gE:∀ N,290<=N->∀ e z,cZ N e g (cB ez g d++z) = .ok d z:=fun N bU e z=>AZ (agm bU) g d z aK aE
 have e1:=gE 302 (by decide) ah []
 refine⟨gE 302 (by decide),(xB (N9 (by decide)) g aK e1).1,fun s y e bM=>?_⟩
 rw[List.append_nil,e] at e1
 have h1:=gE 300 (by decide) ah []
 rw[List.append_nil,e] at h1
 obtain⟨k,hk⟩:=(sQ 300 g).cut h1 bM
 obtain⟨hB,z,di,dj,hh⟩:=(AQ (N:=300) (by decide) g aK).lI s k hk
 obtain⟨a1,a2⟩:=xB (N9 (by decide)) g aK dj
 rw[List.append_nil] at a2
 exact⟨(sQ 302 g).cut e1 bM,hB,z,di,a1,a2.symm,hh⟩
mutual
theorem vj:∀ (f:bN) (d:D),cO iV f d=ag->eY d<=aW f+1
 | .bare k,d,h=>by
  rw[cO] at h
  rw[aW]
  rcases q3 k with rfl | rfl | rfl | rfl
  ·cases d<;>first | (rw[eY];omega) | cases h
  ·cases d<;>first | (rw[eY];omega) | cases h
  ·cases d<;>first | (rw[eY];omega) | cases h
  ·have h:iV d=ag:=by cases d<;>exact h
   obtain⟨p,q,rfl,_⟩:=Es h
   simp only[eY,fI];omega
 | .sp a b,d,h=>by
  rw[cO] at h
  rw[aW]
  cases d<;>first | (rw[eY];omega) | cases h
 | .le s,d,h=>by
  rw[cO] at h
  rw[aW]
  cases d<;>first | (rw[eY];omega) | cases h
 | .one k f,d,h=>by
  rw[cO] at h
  rw[aW]
  rcases pR k with rfl | rfl | rfl
  ·change ru (cO iV f) d=ag at h
   unfold ru at h
   split at h
   ·simp only[eY,fI];omega
   ·rename_i x
    have:=vj f x h
    simp only[eY,fI];omega
   ·cases h
  ·change tF (cO iV f) d=ag at h
   unfold tF at h
   split at h
   ·rename_i ds
    have:=EY (n:=aW f+1) ds fun x ay=>vj f x (iD.mp (mD.mp h).2 x ay)
    rw[eY];omega
   ·cases h
  ·have:=vj f d h
   omega
 | .two k ns fs,d,h=>by
  rw[cO] at h
  rw[aW]
  by_cases z:k=0
  ·rw[if_pos z] at h
   cases d with
   | tup ds =>
    have:=Lj fs ds h
    rw[eY];omega
   | _=>cases h
  ·rw[if_neg z] at h
   unfold xG at h
   split at h
   ·rename_i n x
    have:=Lk fs ns n x h
    simp only[eY,fI];omega
   ·cases h
theorem Lj:∀ (fs:List bN) (ds:List D),eZ iV fs ds=ag->fI ds<=gA fs+1
 | [],[],_=>by rw[fI];omega
 | [],d::ds,h=>by rw[eZ] at h;cases h
 | f::fs,[],h=>by rw[fI];omega
 | f::fs,d::ds,h=>by
  rw[eZ] at h
  have h:(cO iV f d&&eZ iV fs ds)=ag:=h
  obtain⟨aj,ar⟩:=mD.mp h
  have:=vj f d aj
  have:=Lj fs ds ar
  rw[fI,gA];omega
theorem Lk:∀ (fs:List bN) (ns:List af) (n:af) (x:D),lu iV fs ns n x=ag->eY x<=gA fs+1
 | [],ns,n,x,h=>by rw[lu] at h;cases h
 | f::fs,ns,n,x,h=>by
  rw[lu] at h
  rw[gA]
  by_cases z:ns.head?=J n
  ·rw[if_pos z] at h
   have:=vj f x h
   omega
  ·rw[if_neg z] at h
   have:=Lk fs ns.tail n x h
   omega
end
noncomputable def nw(aN:Bool->ae)(dP:ae)(l:List Bool)(H:au)(Q:bx):R D->Prop
 | .ok d s=>if s=[] then ∀ v t H',Ext H H'->fP H' d v->H' t=J (.tup [v,.bL])->Q (.ref t) H' else ∀ e eI t H',Ext H H'->H' e=J (k2 e dP (J eI))->H' eI=J (kY ((l.length - s.length:Nat):Int))->H' t=J (.tup [.bL,.ref e])->Q (.ref t) H'
 | .no w k=>∀ e eI t H',Ext H H'->H' e=J (k2 e (aN w) (J eI))->H' eI=J (kY (kK l w k))->H' t=J (.tup [.bL,.ref e])->Q (.ref t) H'
 | .st=>False
inductive Oj(aN:Bool->ae)(dP:ae)(N:Nat)(c:eu)(n:Nat)(vs:List V)(H:au)(Q:bx)(E:bP):Prop where
 |mk (o:ae) (g:bN) (l:List Bool) (e:Bool) (bu:vs=[.ref o,.str (bw l),.aH e]) (aj:b4 c [] H g o) (ar:mh hasAll g) (bB:aW g<=n) (b0:l.length<=16000000) (eB:nw aN dP l H Q (cZ N e g l)):Oj aN dP N c n vs H Q E
def Oi(aN:Bool->ae)(dP:ae)(N:Nat)(c:eu)(n:Nat):b5:=fun vs H Q E=>Oj aN dP N c n vs H Q E
theorem Un{f dP hi:ae}{aN:Bool->ae}{N:Nat}{c:eu}{fd:fu}{n:Nat}(nT:mg "RiseError"=J (.ref hi))(IM:ExcC K hi)(IS:rX K (.ref hi)=J (.type "type"))(Ha:∀ w,kz K (aN w) (.ref hi)=J ag)(abp:kz K dP (.ref hi)=J ag)
  (F:dF K mg "_law_asked" D6 ["_law_made_here","_law_signs_here","_law_fills"] f fd) (CT:gH P w K mg base (2*n+9) "read_all" ["form","signs"] (yS aN dP N hasAll ah c n)) (zb:gH P w K mg base (2*n+9) "begun_by" ["form","signs"] (yS aN dP N hasAll ag c n)) :
  bK P w K mg base (2*n+10) "_law_asked" ["_law_made_here","_law_signs_here","_law_fills"] (Oi aN dP N c n):=by
 refine F.fK sL (fun bb A outer s H vs Q E az h=>?_)
 obtain⟨o,g,l,e,rfl,b6,aR,cW,aC,q⟩:=h
 obtain⟨wR,MP⟩:∃ wR:St->bP,wR=fun ab YL d H'=>∃ C z,YL = .ref C/\kz K C (.ref hi)=J ag/\ab=[J (.ref o),J (.str (bw l)),J (.aH e),J .bL,J .bL,z]/\Ext H H'/\∀ e t ax,Ext H' ax->ax e=J (k2 e C d)->ax t=J (.tup [.bL,.ref e])->Q (.ref t) ax:=⟨_,rfl⟩
 refine⟨_,(aP (bV 3 sL.br oE)
  (aP (bV 4 sL.br oE)
  (aP (SF (i:=5) (Eh:=wR) (fun _=>(aT (cR (Ta (ai 2) (fun _=>rfl)) (aT (bV 3 sL.br (kH zb az Ks (av (ai 0) (av (ai 1) aA)) (hk:=by omega)))) (aT (bV 3 sL.br (kH CT az Ks (av (ai 0) (av (ai 1) aA)) (hk:=by omega)))))))
   (fun _ _=>(aT (bV 4 sL.br (ai 5)))) nT IM IS sL.br)
  (aT (bG (jS (av (ai 3) (av (ai 4) aA)))))))),?_⟩
 try dsimp only[cS,cT,cU,cV]
 refine⟨?_,fun bQ wL d H' a jh ba=>?_⟩
 ·have mk:∀ (Z:ae) (i:Int),kz K Z (.ref hi)=J ag->(∀ e eI t H',Ext H H'->H' e=J (k2 e Z (J eI))->H' eI=J (kY i)->H' t=J (.tup [.bL,.ref e])->Q (.ref t) H')->∀ d,H d=aw->wR [J (.ref o),J (.str (bw l)),J (.aH e),J .bL,J .bL,aw] (.ref Z) (J d) (upd H d (kY i)):=fun Z i hm q d hd=>by
   subst MP
   exact⟨Z,_,I,hm,I,Ext.IQ hd,fun e t ax hU he aW=>q e d t ax ((Ext.IQ hd).trans hU) he (hU.s _ _ aM) aW⟩
  have cF:∀ (R:R D),nw aN dP l H Q R->k9 aN dP l H (fun v H1=>∀ r,H1 r=aw->∃ bY,dg.Sub H bY (upd H1 r (.tup [v,.bL]))/\Q (.ref r) bY) (wR [J (.ref o),J (.str (bw l)),J (.aH e),J .bL,J .bL,aw]) R:=fun R q=>by
   cases R with
   | ok d s =>
    show if s=[] then _ else _
    have q:(if s=[] then _ else _):=q
    by_cases z:s=[]
    ·rw[if_pos z] at q ⊢
     intro v H1 kk bl r fq
     have hU:=Ext.tup (xs:=[v,V.bL]) fq
     exact⟨_,(kk.trans hU).sub,q v r _ (kk.trans hU) (fP.same hU.s d bl) aM⟩
    ·rw[if_neg z] at q ⊢
     exact mk _ _ abp q
   | no w k=>exact mk _ _ (Ha w) q
   | st=>exact q
  have cF:=cF _ q
  refine⟨_,I,e,I,?_⟩
  cases e with
  | true=>exact gD ⟨_,I,_,I,o,g,l,I,b6,aR,cW,aC,k9.imp cF fun v H1 h=>⟨_,I,_,I,jA,h⟩⟩
  | false=>exact eb ⟨_,I,_,I,o,g,l,I,b6,aR,cW,aC,k9.imp cF fun v H1 h=>⟨_,I,_,I,jA,h⟩⟩
 ·subst MP
  obtain⟨C,z,hc,hm,rfl,kk,q⟩:=jh
  injection hc with hc
  subst hc
  refine⟨hm,_,I,_,I,_,I,jA,fun r fq=>?_⟩
  have hU:=Ext.exc (C:=wL) (d:=d) ba
  have oB:=Ext.tup (xs:=[V.bL,.ref a]) fq
  exact⟨_,(kk.trans (hU.trans oB)).sub,q a r _ (hU.trans oB) (oB.s _ _ aM) aM⟩
inductive OV(K:bO)(vs:List V)(H:au)(Q:bx)(E:bP):Prop where
 |mk (a:ae) (ns:List Int) (bu:vs=[.ref a]) (aj:dQ K H a (ns.map V.int)) (ar:ns.length<=63) (bB:∀ H',Q (.aH ag) H'):OV K vs H Q E
def Ch(K:bO):b5:=fun vs H Q E=>OV K vs H Q E
inductive Oy(vs:List V)(H:au)(Q:bx)(E:bP):Prop where
 |mk (p:ae) (X:List ae) (bu:vs=[.ref p]) (aj:ny p H) (ar:p∈X) (bB:mA X H) (b0:∀ v H' f,d1 p H H'->Du X H' f v 8 141->Q v H'):Oy  vs H Q E
def Ox:b5:=fun vs H Q E=>Oy  vs H Q E
theorem Vd(F:dF K mg "_law_drawn" D5 ["_law_pool_here"] f fd)(hS:bK P w K mg base 1 "_law_next" ["_law_pool_here"] wm)(uv:bK P w K mg base 11 "_law_form" ["_law_pool_here","_law_deep"] (Cg 8)):bK P w K mg base 12 "_law_drawn" ["_law_pool_here"] Ox:=by
 refine F.fK J7 (fun bb A outer s H vs Q E az h=>?_)
 obtain⟨p,X,rfl,ck,eC,du,q⟩:=h
 refine⟨_,(aP (bV 1 J7.br (cq hS az (av (ai 0) aA)))
  (aT (bG (cq uv az (av (ai 0) (av (cN cP (fU (av aD (av aD (av aD (av aD (av aD (av aD (av aD (av aD aA))))))))) (aQ dM (ai 1) aD)) aA)))))),?_⟩
 try dsimp only[cS,cT,cU,cV]
 refine⟨_,I,p,I,ck,fun c eT qb=>?_⟩
 have G1:=d1.pop ck qb
 generalize upd H p (.lst (eT.map V.int))=H1 at G1 ⊢
 obtain⟨m,hm,BF⟩:=sM V.int [1,2,3,2,1,3,2,7] c 8 rfl (by show 0<8;decide)
 have ajx:0<=m/\m<=7:=by
  have:∀ y∈([1,2,3,2,1,3,2,7]:List Int),0<=y/\y<=7:=by decide
  exact this m hm
 obtain⟨k,rfl⟩:∃ k:Nat,m=k:=⟨m.toNat,by omega⟩
 refine⟨_,I,(by show 8<=bT;decide),fun g aK=>⟨_,I,_,_,I,I,(by show (0:Int)<8;decide),.inl (.inl ⟨_,_,_,_,I,I,bX aM,BF,?_⟩)⟩⟩
 have ep:=G1.ext (Ext.lst (xs:=[1,2,3,2,1,3,2,7].map V.int) aK)
 refine⟨p,k,X,I,by omega,ep.l,eC,du.grow ep,fun v H' g3 fR b9=>?_⟩
 exact⟨_,(ep.trans fR).sub,q v H' g3 (ep.trans fR) ⟨b9.d,b9.o,by have:=b9.h;omega,by have:=b9.s;omega⟩⟩
theorem nw.all{aN:Bool->ae}{dP:ae}{l:List Bool}{H:au}{Q:bx}{d:D}(h:∀ v t H',Ext H H'->fP H' d v->H' t=J (.tup [v,.bL])->Q (.ref t) H'):nw aN dP l H Q (.ok d []):=by
 unfold nw
 dsimp only
 rw[if_pos rfl];exact h
theorem nw.left{aN:Bool->ae}{dP:ae}{l z:List Bool}{H:au}{Q:bx}{d:D}(bI:z≠[])(h:∀ e eI t H',Ext H H'->H' e=J (k2 e dP (J eI))->H' eI=J (kY ((l.length - z.length:Nat):Int))->H' t=J (.tup [.bL,.ref e])->Q (.ref t) H'):nw aN dP l H Q (.ok d z):=by
 unfold nw
 dsimp only
 rw[if_neg bI];exact h
theorem k9.all{aN:Bool->ae}{dP:ae}{l:List Bool}{H:au}{Q:bx}{E:bP}{d:D}(h:∀ v H',Ext H H'->fP H' d v->Q v H'):k9 aN dP l H Q E (.ok d []):=by
 unfold k9
 dsimp only
 rw[if_pos rfl];exact h
structure Jy(K:bO)(C:ae):Prop where
 gm:ExcC K C
 hd:uh K C=ag
 kq:dS K (.ref C) "place"=J aw
set_option maxHeartbeats 4000000 in
theorem XW{f dP:ae}{aN:Bool->ae}{cs:uo}{c:eu}{fd:fu}(nb:dV mg)(F:c2 K "law" "law" FI f fd)(yp:wZ K cs dP [ah,ah,ah,ag,ah,ah,ah,ah,ah,ah,ag])(Hu:wZ K cs (aN ah) [ah,ag,ah,ah,ah,ah,ah,ah,ah,ah,ag])(Cb:Jy K dP)(HQ:Jy K (aN ah))
  (C1:bK P w K mg base 1 "_law_pool" ["_law_script"] (Pb K)) (hS:bK P w K mg base 1 "_law_next" ["_law_pool_here"] wm) (C0:bK P w K mg base 12 "_law_drawn" ["_law_pool_here"] Ox) (pj:bK P w K mg base 15 "_law_made" ["_law_form_here"] (Ci c 8)) (pk:bK P w K mg base 11 "_law_value" ["_law_pool_here","_law_form_here"] (Cn 8))
  (CZ:bK P w K mg base 1 "_law_digits" ["_law_number"] Ot) (uu:bK P w K mg base 26 "_law_asked" ["_law_made_here","_law_signs_here","_law_fills"] (Oi aN dP 302 c 8)) (qx:bK P w K mg base 13 "_law_same" ["_law_found","_law_due"] (Cj 12)) (zd:bK P w K mg base 1 "_law_kinds" ["_law_kept"] (OT K cs))
  (y6:iN P w K mg base 21 "row" ["self","value"] (fE c) (fun _=>Ij hasAll iV ez c 8)) (jq:iN P w K mg base 20 "fits" ["self","value"] (fE c) (i3 hasAll iV c 8)) (I4:bK P w K mg base 25 "begun_by" ["form","signs"] (fun vs H Q _=>yS aN dP 302 hasAll ag c 8 vs H Q fun _ _ _=>False)):cg P w K mg base dk 27 f fd ["_law_script"] (Ch K):=by
 refine F.hJ ki (fun bb A outer s H vs Q E az h=>?_)
 obtain⟨a,ns,rfl,b7,aC,q⟩:=h
 refine⟨_,(aP (bV 1 ki.br (cq C1 az (av (ai 0) aA) (hk:=by omega)))
  (aP (bV 2 ki.br (cq C0 az (av (ai 1) aA) (hk:=by omega)))
  (aP (bV 3 ki.br (cq pj az (av (ai 2) aA) (hk:=by omega)))
  (aP (bV 4 ki.br (cq pk az (av (ai 1) (av (ai 2) aA)) (hk:=by omega)))
  (aP (bV 5 ki.br (kG y6 az (ai 3) (av (ai 4) aA) (hk:=by omega)))
  (aP (bV 6 ki.br (cq hS az (av (ai 1) aA) (hk:=by omega)))
  (aP (bV 7 ki.br (cq CZ az (av (aQ tK aD (aQ dM (ai 6) aD)) aA) (hk:=by omega)))
  (aP (oD i9.never rfl (j7 (fU (av gn (av gn aA)))) (eG (i:=8) ki.br rfl (by exact Or.inl I))
   (aP (Fx (cq uu az (av (ai 3) (av (ai 5) (av (ai 8) aA))) (hk:=by omega)) (pL rfl (jz (eG (i:=9) ki.br rfl (by exact Or.inl I)) (jz (eG (i:=10) ki.br rfl (by exact Or.inl I)) pI))))
   (aP (cR (gJ.pt (kf (cm LC (ai 10) oE) (k4 (iS (g8 (cq qx az (av (ai 9) (av (ai 4) aA)) (hk:=by omega))))))) (aT (bG gn)) cQ)
   (aP (bV 10 ki.br (cN cP (cq uu az (av (ai 3) (av (aQ tK (ai 5) (ai 7)) (av (ai 8) aA))) (hk:=by omega)) aD))
   (aT (cR (gJ.pt (kf (cm (L0 (HY az)) (cq zd az (av (ai 10) aA) (hk:=by omega)) (aQ tK (aQ tK (aQ tK (aQ HM (fU (av gn aA)) aD) (fU (av gn aA))) (aQ HM (fU (av gn aA)) aD)) (fU (av gn aA)))) (k4 (iS (g8 (cq qx az (av (Lz (ai 10) rfl) (av (cj d8 rfl nb.dZ d3 (av (ai 5) aA)) aA)) (hk:=by omega))))))) (aT (bG gn)) cQ))))))
  (aP (cR (cm dd (cj d8 rfl nb.dZ d3 (av (ai 5) aA)) aD) (aT (bG gn)) cQ)
  (aP (bV 11 ki.br (qI rH (ai 5) qP (qO (aQ dM (aQ hA (ai 6) aD) (cj d8 rfl nb.dZ d3 (av (ai 5) aA))))))
  (aP (bV 10 ki.br (cN cP (cq uu az (av (ai 3) (av (ai 11) (av gn aA))) (hk:=by omega)) aD))
  (aP (cR (gJ.pt (kf (cm (L0 (HY az)) (cq zd az (av (ai 10) aA) (hk:=by omega)) (aQ tK (aQ tK (fU (av gn (av gn aA))) (aQ HM (fU (av gn aA)) aD)) (fU (av gn aA)))) (k4 (iS (g8 (cq qx az (av (Lz (ai 10) rfl) (av (cj d8 rfl nb.dZ d3 (av (ai 11) aA)) aA)) (hk:=by omega))))))) (aT (bG gn)) cQ)
  (aP (Fx (cq uu az (av (ai 3) (av (ai 11) (av gn aA))) (hk:=by omega)) (pL rfl (jz (eG (i:=9) ki.br rfl (by exact Or.inl I)) (jz (eG (i:=10) ki.br rfl (by exact Or.inl I)) pI))))
  (aP (cR (gJ.pt (kf (cm LC (ai 10) oE) (kf (cm RW (kG jq az (ai 3) (av (ai 9) aA) (hk:=by omega)) gn) (k4 (iS (g8 (jP PySem.F.plainAttrs_str PySem.F.slot_str_startswith PySem.F.type_str_startswith UN (kG y6 az (ai 3) (av (ai 9) aA) (hk:=by omega)) (av (ai 11) aA)))))))) (aT (bG gn)) cQ)
  (aP (h9 (cq I4 az (av (ai 3) (av (ai 5) aA)) (hk:=by omega)))
  (aT (bG (cq qx az (av (cq I4 az (av (ai 3) (av (ai 11) aA)) (hk:=by omega)) (av (ai 9) aA)) (hk:=by omega))))))))))))))))))),?_⟩
 try dsimp only[cS,cT,cU,cV]
 refine jF fun N bU=>⟨_,I,a,ns,I,b7,aC,fun p ms bh hm=>bU _ _ ?_⟩
 have Dn:=cL (o:=cv.lst (ms.map V.int)) bh
 have f6:upd H p (.lst (ms.map V.int)) p=J (.lst (ms.map V.int)):=aM
 have Gy:ny p (upd H p (.lst (ms.map V.int))):=⟨ms,aM,hm⟩
 generalize upd H p (.lst (ms.map V.int))=H1 at Dn f6 Gy ⊢
 have nX:mA [p] H1:=fun x ay=>by rw[fy.mp ay];exact⟨_,f6⟩
 have yC:p∈[p]:=fy.mpr rfl
 refine jF fun N bU=>⟨_,I,p,[p],I,Gy,yC,nX,fun v ax g ep b9=>bU _ _ ?_⟩
 have fp:=b9.h
 have hs:=b9.s
 have aR:=b9.o
 have nY:jL [p] ax:=fun x ay=>by rw[fy.mp ay];obtain⟨n,e,_⟩:=ep.l;exact⟨_,e⟩
 refine jF fun N bU=>⟨_,I,v,g,[p],I,nY,b9.d,b9.o,by omega,fun o bt lR Bo=>bU _ _ ?_⟩
 have fR:=ep.ext lR
 have mR:=b9.d.same lR.s
 have Bt:=nY.ext lR.s
 have abo:pl bt p<=90:=by obtain⟨n,e,bc⟩:=fR.l;rw[vq e,cM];exact bc
 refine jF fun N bU=>⟨_,I,_,I,p,v,g,[p],I,yC,fR.l,Bt,mR,aR,by omega,by omega,fun v1 eQ g0 sf p6 aaW ajm MX=>bU _ _ ?_⟩
 have aaH:(cB ez g eQ).length<=13600000:=by
  obtain⟨a1,a2⟩:=MX
  have a5:300*c0 g<=300*141:=Nat.mul_le_mul_left _ hs
  omega
 have hp:=Fd g aR
 have cW:aW g<=8:=by omega
 obtain⟨cp,el,rF⟩:=ago hp.1 aaW
 have wV:=fR.trans sf
 have MR:b4 c [p] g0 g o:=b4.keep (fun b u nb e=>sf.k b u (fun z=>nb (by rw[z];exact yC)) e) g Bo
 have F2:∀ {H'},d1 p g0 H'->b4 c [] H' g o:=fun G=>b4.weak (fun x (ay:x∈([]:List ae))=>nomatch ay) _ (b4.keep (fun b u nb e=>G.k b u (fun z=>nb (by rw[z];exact yC)) e) _ MR)
 have Gs:=F2 (d1.refl wV.l)
 obtain⟨al,fs,vx,lo⟩:=b4.row g Gs
 refine jF fun N bU=>⟨_,I,o,slot g,al,fs,I,vx,lo,_,I,slot g,o,g,v1,eQ,I,I,Gs,hp,cW,dK.at _ p6,el,by omega,bU _ _ ?_⟩
 refine jF fun N bU=>⟨_,I,p,I,wV.l,fun ce yt abm=>bU _ _ ?_⟩
 have zf:=d1.pop wV.l abm
 have Bp:=F2 zf
 have Hl:=dK.at _ (dK.grow yC zf p6)
 have Dp:er H (upd g0 p (.lst (yt.map V.int))):=fun b u e=>by
  have nb:b≠p:=eO e bh
  exact(wV.trans zf).k _ _ nb (Dn _ _ e)
 generalize upd g0 p (.lst (yt.map V.int))=fg at Bp Hl Dp ⊢
 clear zf F2 Gs vx lo MR wV MX p6 sf abo Bt mR fR Bo lR nY b9 ep nX Gy f6 Dn
 obtain⟨v5,ajv,FX⟩:=jT ce 511 (by decide)
 have FX:ce%511=((v5:Nat):Int):=FX
 refine jF fun N bU=>⟨_,I,_,_,I,I,(by show (0:Int)<511;decide),.inl (.inl ⟨_,_,I,I,v5+1,by dsimp only;rw[FX,Int.add_comm];rfl,?_,bU _ _ ?_⟩)⟩
 ·exact fi (show v5+1<2 ^ 10 by omega) (Nat.pow_le_pow_right (by decide) (by decide))
 obtain⟨R,cY⟩:∃ R,R=cB ez g eQ:=⟨_,rfl⟩
 obtain⟨dr,qf⟩:∃ dr,dr=lq (v5+1):=⟨_,rfl⟩
 have ahu:dr.length<=10:=by rw[qf,Ah];exact hn (by omega)
 have PJ:dr≠[]:=fun z=>by
  have aj:=Ah (v5+1)
  have ar:=pB (n:=v5+1) (by omega)
  rw[<- qf,z] at aj
  rw[List.length_nil] at aj
  omega
 rw[<- cY] at aaH cp rF
 rw[<- cY,<- qf]
 have acz:=yp
 have rq:∀ i:Int,List.lookup (af.ofString "place") [((af.ofString "place":af),V.int i)]=J (.int i):=fun i=>by simp[List.lookup]
 refine jF fun N bU => .inl ⟨jA,fun L ie=>?_⟩
 have xb:Ext fg (upd fg L (.lst [V.aH ag,V.aH ah])) := .lst ie
 have qZ:upd fg L (.lst [V.aH ag,V.aH ah]) L=J (.lst [V.aH ag,V.aH ah]):=aM
 generalize upd fg L (.lst [V.aH ag,V.aH ah])=e3 at xb qZ ⊢
 refine⟨L,I,⟨_,bX qZ⟩,Ya (K:=K) (a:=L) (xs:=[V.aH ag,V.aH ah]) (fun i ab ax=>er e3 ax/\∃ IW IX IU,ab=[J (.ref a),J (.ref p),J v,J (.ref o),J v1,J (.str (bw R)),J (.int ce),J (.str (bw dr)),IW,IX,IU,aw]) ⟨dR _,_,_,_,I⟩ ?_ ?_ ?_⟩
 ·rintro i ab ax aB ⟨X,_⟩
  exact bX (X _ _ qZ)
 ·rintro i x ab ax ay ⟨X,IW,IX,IU,rfl⟩
  obtain⟨e,rfl⟩:∃ e,x=V.aH e:=by
   match i,ay with
   | 0,h=>exact⟨ag,by cases h;rfl⟩
   | 1,h=>exact⟨ah,by cases h;rfl⟩
   | n+2,h=>cases h
  have hU:=xb.s.trans X
  have MQ:b4 c [] ax g o:=b4.keep (fun b u _ e=>hU b u e) g Bp
  have agl:cZ 302 e g R = .ok eQ []:=by have:=cp e [];rwa [List.append_nil] at this
  refine jF fun aiD aau=>⟨_,I,_,I,_,I,o,g,R,e,I,MQ,hp,cW,by omega,?_⟩
  rw[agl]
  refine nw.all fun w t ip sG hw aW=>⟨t,_,I,dc aW,I,_,_,I,_,_,I,I,aau _ _ ?_⟩
  have ab6:=fP.same (hU.trans sG.s) _ Hl
  refine jF fun aiE aav=>⟨_,I,I,_,I,eb ⟨_,I,_,I,w,v1,eQ,I,hw,ab6,by omega,_,rfl,?_⟩⟩
  refine eb (aav _ _ ?_)
  have xR:b4 c [] ip g o:=b4.keep (fun b u _ e=>sG.s b u e) g MQ
  have iF:(R++dr).length - dr.length=R.length:=by rw[dI];omega
  refine jF fun aiF aaw=>⟨_,I,_,I,_,I,.inl (.inr ⟨_,_,I,I,ku (by rw[dA,dA];omega),_,I,o,g,R++dr,e,by rw[kl];rfl,xR,hp,cW,by rw[dI];omega,?_⟩)⟩
  rw[cp e dr]
  refine nw.left PJ fun ex eI kV mz xc he hE BN => .inl (.inr ⟨_,_,_,_,I,I,dc BN,dt (j:=1) I,aaw _ _ ?_⟩)
  rw[iF] at hE
  refine⟨_,I,_,I,.inr ⟨ex,dP,J eI,_,I,he,.inr ⟨eI,_,I,hE⟩,yp,fun hu qd=>?_⟩⟩
  have rQ:=cL (o:=cv.lst ([ah,ah,ah,ag,ah,ah,ah,ah,ah,ah,ag].map V.aH)) qd
  refine⟨qU,fun cD gE => .inr ⟨cD,3,_,I,I,aM,by decide,by decide,(by show 1*3<=bT;decide),fun cE e1=>⟨qU,fun fL h1=>?_⟩⟩⟩
  have o7:=cL (o:=cv.lst [V.aH ah]) gE
  have lM:=cL (o:=cv.lst (List.replicate (3:Int).toNat [V.aH ah]).flatten) e1
  have wB:=cL (o:=cv.lst [V.aH ag]) h1
  refine .inr ⟨cE,fL,_,_,I,I,wB _ _ aM,aM,(by show 3+1<=bT;decide),fun wh tB=>⟨qU,fun m3 j4 => .inr ⟨m3,6,_,I,I,aM,by decide,by decide,(by show 1*6<=bT;decide),fun rE yo=>?_⟩⟩⟩
  have CA:=cL (o:=cv.lst ((List.replicate (3:Int).toNat [V.aH ah]).flatten++[V.aH ag])) tB
  have wC:=cL (o:=cv.lst [V.aH ah]) j4
  have yW:=cL (o:=cv.lst (List.replicate (6:Int).toNat [V.aH ah]).flatten) yo
  refine .inr ⟨wh,rE,_,_,I,I,yW _ _ (wC _ _ aM),aM,(by show 4+6<=bT;decide),fun mj Hr=>⟨qU,fun HS Hs=>?_⟩⟩
  have ahF:=cL (o:=cv.lst (((List.replicate (3:Int).toNat [V.aH ah]).flatten++[V.aH ag])++(List.replicate (6:Int).toNat [V.aH ah]).flatten)) Hr
  have u8:=cL (o:=cv.lst [V.aH ag]) Hs
  refine .inr ⟨mj,HS,_,_,I,I,u8 _ _ aM,aM,(by show 10+1<=bT;decide),fun HT Ht=>?_⟩
  have ahG:=cL (o:=cv.lst ((((List.replicate (3:Int).toNat [V.aH ah]).flatten++[V.aH ag])++(List.replicate (6:Int).toNat [V.aH ah]).flatten)++[V.aH ag])) Ht
  have PE:=(((o7.trans lM).trans wB).trans (CA.trans wC)).trans ((yW.trans ahF).trans (u8.trans ahG))
  refine⟨hu,HT,[ah,ah,ah,ag,ah,ah,ah,ah,ah,ah,ag],[ah,ah,ah,ag,ah,ah,ah,ah,ah,ah,ag],I,I,PE _ _ aM,aM,_,I,?_⟩
  rw[ek rfl]
  have bS:=rQ.trans PE
  refine eb ⟨_,I,ex,dP,eI,_,_,I,bS _ _ he,bS _ _ hE,Cb.gm,Cb.hd,Cb.kq,rq _,_,I,_,_,I,⟨ku (by rw[dA];omega),I⟩,.int ((R.length:Nat):Int),.int ((R.length:Nat):Int),.int ((R.length:Nat):Int),by rw[dA];rfl,rfl,rfl,by rw[eY];omega,_,rfl,eb ?_⟩
  exact⟨X.trans (sG.s.trans (xc.s.trans bS)),_,_,_,I⟩
 rintro ab ip ⟨sG,IW,IX,IU,rfl⟩
 refine bU _ _ ?_
 have Dq:=Dp.trans (xb.s.trans sG)
 have xR:b4 c [] ip g o:=b4.keep (fun b u _ e=>(xb.s.trans sG) b u e) g Bp
 clear bU sG xb qZ ie Bp Hl Dp acz yp Cb PJ ahu qf
 have yf:(bw R).length<=bT:=ku (by rw[dA];omega)
 refine jF fun N bU=>⟨_,I,_,_,I,⟨yf,I⟩,I,_,I,e0 (fun nM=>⟨H,.refl Dq,q _⟩) (fun nM=>bU _ _ ?_)⟩
 have aay:0<R.length:=by
  rcases Nat.eq_zero_or_pos R.length with z | z
  ·exact absurd (by rw[dA,z];rfl) nM
  ·exact z
 obtain⟨j,cy,nR⟩:=jT (ce/511) R.length aay
 refine jF fun N bU=>⟨_,I,_,I,_,_,I,I,⟨by decide,by decide⟩,_,rfl,_,_,rfl,⟨yf,rfl⟩,_,_,rfl,rfl,(by rw[dA];omega),_,rfl,.inr ⟨_,rfl,yf,?_⟩⟩
 dsimp only
 rw[dA,nR,XE R j (by omega)]
 obtain⟨⟨k,hk⟩,hB,z,aL,f2,rR,fC⟩:=rF (R.take j) (R.drop j) (List.take_append_drop j R).symm (fun z=>by
  have:=congrArg List.length z
  rw[nF,List.length_nil] at this
  omega)
 have aaB:(R.take j).length<=13600000:=by rw[kg];omega
 generalize R.take j=S at hk aL rR aaB ⊢
 have f7:560*c0 g<=560*141:=Nat.mul_le_mul_left _ hs
 have i1:(cB ez g hB).length<=14000000:=by rw[rR,dI];omega
 have kQ:eY hB<=12:=by have:=vj g hB f2;omega
 have abU:(bw S).length<=bT:=ku (by rw[dA];omega)
 refine bU _ _ ?_
 refine jF fun N bU=>⟨_,I,_,I,o,g,S,ah,I,xR,hp,cW,by omega,?_⟩
 rw[hk]
 refine fun ex eI kV mz xc he hE BN => .inl (.inr ⟨_,_,_,_,I,I,dc BN,dt (j:=1) I,bU _ _ ?_⟩)
 have mJ:kK S ah k=((S.length:Nat):Int):=by unfold kK;rw[if_neg (by decide)]
 rw[mJ] at hE
 refine jF fun N bU=>⟨_,I,_,I,.inr ⟨ex,aN ah,J eI,_,I,he,.inr ⟨eI,_,I,hE⟩,Hu,fun hu qd=>?_⟩⟩
 have rQ:=cL (o:=cv.lst ([ah,ag,ah,ah,ah,ah,ah,ah,ah,ah,ag].map V.aH)) qd
 refine⟨jA,fun cD gE=>⟨qU,fun cE e1 => .inr ⟨cE,8,_,I,I,aM,by decide,by decide,(by show 1*8<=bT;decide),fun fL h1=>?_⟩⟩⟩
 have o7:=cL (o:=cv.lst [V.aH ah,.aH ag]) gE
 have lM:=cL (o:=cv.lst [V.aH ah]) e1
 have wB:=cL (o:=cv.lst (List.replicate (8:Int).toNat [V.aH ah]).flatten) h1
 refine .inr ⟨cD,fL,_,_,I,I,wB _ _ (lM _ _ aM),aM,(by show 2+8<=bT;decide),fun wh tB=>⟨qU,fun m3 j4=>?_⟩⟩
 have CA:=cL (o:=cv.lst ([V.aH ah,.aH ag]++(List.replicate (8:Int).toNat [V.aH ah]).flatten)) tB
 have wC:=cL (o:=cv.lst [V.aH ag]) j4
 refine .inr ⟨wh,m3,_,_,I,I,wC _ _ aM,aM,(by show 10+1<=bT;decide),fun rE yo=>?_⟩
 have yW:=cL (o:=cv.lst (([V.aH ah,.aH ag]++(List.replicate (8:Int).toNat [V.aH ah]).flatten)++[V.aH ag])) yo
 have Iu:=((((o7.trans lM).trans wB).trans CA).trans wC).trans yW
 refine⟨hu,rE,[ah,ag,ah,ah,ah,ah,ah,ah,ah,ah,ag],[ah,ag,ah,ah,ah,ah,ah,ah,ah,ah,ag],I,I,Iu _ _ aM,aM,_,I,?_⟩
 rw[ek rfl]
 have bS:=rQ.trans Iu
 refine eb ⟨_,I,ex,aN ah,eI,_,_,I,bS _ _ he,bS _ _ hE,HQ.gm,HQ.hd,HQ.kq,rq _,_,I,_,_,I,⟨abU,I⟩,.int ((S.length:Nat):Int),.int ((S.length:Nat):Int),.int ((S.length:Nat):Int),by rw[dA];rfl,rfl,rfl,by rw[eY];omega,_,rfl,eb (bU _ _ ?_)⟩
 have Jp:=Dq.trans (xc.s.trans bS)
 have Gu:b4 c [] _ g o:=b4.keep (fun b u _ e=>(xc.s.trans bS) b u e) g xR
 generalize upd (upd (upd (upd (upd (upd (upd mz hu _) cD _) cE _) fL _) wh _) m3 _) rE _=C7 at Jp Gu ⊢
 clear bS Iu yW wC CA wB lM o7 rQ Dq xR xc he hE BN
 refine jF fun N bU=>⟨_,I,_,I,o,g,S,ag,I,Gu,hp,cW,by omega,?_⟩
 rw[aL]
 refine nw.all fun w t QV Jw hw aW=>⟨t,_,I,dc aW,I,_,_,I,_,_,I,I,bU _ _ ?_⟩
 have Q5:=Jp.trans Jw.s
 have vI:b4 c [] QV g o:=b4.keep (fun b u _ e=>Jw.s b u e) g Gu
 obtain⟨YX,ZI,Zg,lf⟩:=b4.fits g vI
 obtain⟨YZ,ZK,mL,tC⟩:=b4.row g vI
 refine jF fun N bU=>⟨_,I,I,_,I,eb ⟨_,I,o,slot g,YX,ZI,I,Zg,lf,_,I,o,g,w,hB,I,I,vI,hp,cW,hw,f2,ag,I,I,_,I,eb ⟨_,I,o,slot g,YZ,ZK,I,mL,tC,_,I,slot g,o,g,w,hB,I,I,vI,hp,cW,hw,f2,by omega,?_⟩⟩⟩
 refine⟨I,_,I,_,_,I,I,_,I,?_⟩
 rw[V2,ek ⟨z,rR.symm⟩]
 refine eb (bU _ _ ?_)
 have agn:cZ 302 ag g R = .ok eQ []:=by have:=cp ag [];rwa [List.append_nil] at this
 refine jF fun N bU=>⟨_,I,_,I,o,g,R,I,vI,hp,cW,by omega,?_⟩
 rw[agn]
 refine k9.all fun hN aiA Dx _=>bU _ _ ?_
 refine⟨_,I,_,I,o,g,S,I,b4.keep (fun b u _ e=>Dx.s b u e) g vI,hp,cW,by omega,?_⟩
 rw[aL]
 refine k9.all fun mq aiB Jx acb=>⟨_,I,mq,w,hB,I,acb,fP.same (Dx.trans Jx).s _ hw,kQ,H,.refl (Q5.trans (Dx.trans Jx).s),q _⟩
def um(x q:af)(st:bj)(ps:List af):Prop:=∀ (gr doc pm:ao) (an:Option ae) (bb ct:ao) (us:List ao),us.length=ps.length->bindArgs (lO x q (l4 st) (iw st) (bF st) .none gr doc pm an bb ct) ⟨us,[]⟩=pure (ps.zip us)
theorem gy{x q a:af}{st:bj}(h:∀ (gr doc pm:ao) (an:Option ae) (bb ct u:ao),bindArgs (lO x q (l4 st) (iw st) (bF st) .none gr doc pm an bb ct) ⟨[u],[]⟩=pure [(a,u)]):um x q st [a]:=fun _ _ _ _ _ _ us aC=>by
 rcases us with _ | ⟨_,_ | ⟨_,_⟩⟩<;>first | exact h .. | cases aC
theorem c6{x q a b:af}{st:bj}(h:∀ (gr doc pm:ao) (an:Option ae) (bb ct u v:ao),bindArgs (lO x q (l4 st) (iw st) (bF st) .none gr doc pm an bb ct) ⟨[u,v],[]⟩=pure [(a,u),(b,v)]):um x q st [a,b]:=fun _ _ _ _ _ _ us aC=>by
 rcases us with _ | ⟨_,_ | ⟨_,_ | ⟨_,_⟩⟩⟩<;>first | exact h .. | cases aC
theorem FO{x q a b c:af}{st:bj}(h:∀ (gr doc pm:ao) (an:Option ae) (bb ct u v y:ao),bindArgs (lO x q (l4 st) (iw st) (bF st) .none gr doc pm an bb ct) ⟨[u,v,y],[]⟩=pure [(a,u),(b,v),(c,y)]):um x q st [a,b,c]:=fun _ _ _ _ _ _ us aC=>by
 rcases us with _ | ⟨_,_ | ⟨_,_ | ⟨_,_ | ⟨_,_⟩⟩⟩⟩<;>first | exact h .. | cases aC
structure k1(K:bO)(x:af)(C:ae):Prop where
 a:fc K d5 x=J (J (.ref C))
 cl:fe K C
 ys:y3 K C=ag
 yq:j9 K (.ref C)=ag
theorem cpMk{K:bO}{x:af}{C:ae}(a:fc K d5 x=J (J (.ref C)))(hu:CO K C af.empty=ag)(hv:uh K C=ag)(aei:PySem.W.plainOver K C=ag)(aej:dS K (.ref C) "__setattr__"=J (J (.builtin "object.__setattr__")))(aek:y3 K C=ag)(ael:j9 K (.ref C)=ag):k1 K x C:=⟨a,⟨hu,hv,aei,aej⟩,aek,ael⟩
def dh(K:bO)(C:ae)(x q:af)(st:bj):Prop:=∃ f fd,c2 K x q st f fd/\sr K C x f
def eo(K:bO)(x:af)(st:bj):Prop:=∃ f fd,c2 K x x st f fd/\fc K d5 x=J (J (.ref f))
theorem mpMk{K:bO}{C f:ae}{x q:af}{st:bj}{ik gr doc pm bb ct:ao}{od an:Option ae}{mi:Array (Option ao)}(a:dS K (.ref C) x=J (J (.ref f)))(i:I0 K (.ref f)=ag)(l:K.lookup f=J ⟨ik,od,.func (lO x q (l4 st) (iw st) (bF st) .none gr doc pm an bb ct),mi⟩)(c:ug K bb q=ag)(k:j9 K (.ref f)=ag):dh K C x q st:=⟨f,_,xA l c k,a,i,k⟩
theorem fpMk{K:bO}{f:ae}{x:af}{st:bj}{ik gr doc pm bb ct:ao}{od an:Option ae}{mi:Array (Option ao)}(a:fc K d5 x=J (J (.ref f)))(l:K.lookup f=J ⟨ik,od,.func (lO x x (l4 st) (iw st) (bF st) .none gr doc pm an bb ct),mi⟩)(c:ug K bb x=ag)(k:j9 K (.ref f)=ag):eo K x st:=⟨f,_,xA l c k,a⟩
theorem dh.at{K:bO}{C:ae}{x q:af}{st:bj}{ps:List af}(p:dh K C x q st)(cl:fe K C)(b:um x q st ps):MethAt K C x q st ps:=by
 obtain⟨f,fd,F,m⟩:=p
 exact⟨⟨f,fd,F,F.binds b,m⟩,cl⟩
theorem eo.at{K:bO}{x:af}{st:bj}{ps:List af}{h:aX}{mg:af->Option ao}(X:K.In h)(G:h.Ns d5 mg)(p:eo K x st)(b:um x x st ps):∃ f fd,dF K mg x st ps f fd:=by
 obtain⟨f,fd,F,a⟩:=p
 exact⟨f,fd,F,F.binds b,fS X G a⟩
theorem dh.mk{q x:af}{C:ae}{st:bj}{ps:List af}{k:Nat}{sp:b5}(p:dh K C "__init__" q st)(c:k1 K x C)(m:mg x=J (.ref C))(b:um "__init__" q st ps)(h:∀ f fd,c2 K "__init__" q st f fd->cg P w K mg base dk k f fd ps sp):ju P w K mg base k x C ps sp:=by
 obtain⟨f,fd,F,fJ⟩:=p
 exact⟨f,fd,⟨c.ys,fJ.at_,fJ.fn,c.yq⟩,h f fd F,F.binds b,m⟩
set_option maxHeartbeats 16000000 in
theorem Xex{l:PySem.W.OpenLaw}{w:cu}{K:bO}{h:aX}{mg:af->Option ao}{fa:ae}(X:K.In h)(G:h.Ns d5 mg)(aaY:mg "law"=J (.ref fa))
  {jr pf pg ph pe nh mw oo om oq ng nf hi r2 eM gd eV r3 r4 r5 r0 r6 r1 vA vB vz:ae} {ad9 Yz:Option ae} {agz:Array (Option ao)} {ad6 acB YS aer Mh YP:ao} {aea YA:Option ae} {agA:Array (Option ao)} {ad7 acC YT aes Mi YQ:ao} {ad8 Yy:Option ae} {agy:Array (Option ao)} {ad5 acA YR aeq Mg YO:ao} {ahp:Tok} {aho:Tok} {ahr:Tok} {ahn:Tok} {ahs:Tok} {ahq:Tok} {ahm:Tok} {aht:Tok} {ahl:Tok}
  (rD:k1 K "Source" jr)
  (tT:k1 K "Nothing" pf)
  (tW:k1 K "Truth" pg)
  (tY:k1 K "Whole" ph)
  (tQ:k1 K "Fraction" pe)
  (tV:k1 K "Span" nh)
  (rC:k1 K "Letters" mw)
  (tS:k1 K "Maybe" oo)
  (tR:k1 K "Many" om)
  (tX:k1 K "Turned" oq)
  (tU:k1 K "Record" ng)
  (tP:k1 K "Choice" nf)
  (Yq:fc K d5 "RiseError"=J (J (.ref hi)))
  (Ym:fc K d5 "NoFit"=J (J (.ref r2)))
  (Yr:fc K d5 "Short"=J (J (.ref eM)))
  (Yt:fc K d5 "Wrong"=J (J (.ref gd)))
  (Yl:fc K d5 "Left"=J (J (.ref eV)))
  (Yn:fc K d5 "NoForm"=J (J (.ref r3)))
  (Yo:fc K d5 "NoText"=J (J (.ref r4)))
  (Yp:fc K d5 "NotAhead"=J (J (.ref r5)))
  (Yj:fc K d5 "BadPage"=J (J (.ref r0)))
  (Ys:fc K d5 "Twice"=J (J (.ref r6)))
  (Yk:fc K d5 "Lacking"=J (J (.ref r1)))
  (adL:dS K (.ref jr) "signs"=J aw)
  (adK:dS K (.ref jr) "place"=J aw)
  (adM:dS K (.ref jr) "turned"=J aw)
  (adJ:dS K (.ref jr) "endless"=J aw)
  (adN:dS K (.ref jr) "wished"=J aw)
  (ae4:dh K jr "__init__" "Source.__init__" DQ)
  (ae2:dh K jr "draw" "Source.draw" zE)
  (ae6:dh K jr "turn" "Source.turn" zD)
  (ae3:dh K jr "go_on" "Source.go_on" zl)
  (ae7:dh K jr "wish" "Source.wish" zC)
  (ae5:dh K jr "refuse" "Source.refuse" z1)
  (acn:dS K (.ref pf) "__init__"=J (J (.builtin "object.__init__")))
  (aeU:dh K pf "fits" "Nothing.fits" zm)
  (aeW:dh K pf "written" "Nothing.written" zS)
  (aeT:dh K pf "draw" "Nothing.draw" zo)
  (aeV:dh K pf "row" "Form.row" km)
  (aco:dS K (.ref pg) "__init__"=J (J (.builtin "object.__init__")))
  (afe:dh K pg "fits" "Truth.fits" z8)
  (afg:dh K pg "written" "Truth.written" z0)
  (afd:dh K pg "draw" "Truth.draw" z9)
  (aff:dh K pg "row" "Form.row" km)
  (acp:dS K (.ref ph) "__init__"=J (J (.builtin "object.__init__")))
  (afn:dh K ph "fits" "Whole.fits" zK)
  (afp:dh K ph "written" "Whole.written" zZ)
  (afm:dh K ph "draw" "Whole.draw" z7)
  (afo:dh K ph "row" "Form.row" km)
  (acm:dS K (.ref pe) "__init__"=J (J (.builtin "object.__init__")))
  (aeA:dh K pe "fits" "Fraction.fits" z3)
  (aeC:dh K pe "written" "Fraction.written" z5)
  (aez:dh K pe "draw" "Fraction.draw" zj)
  (aeB:dh K pe "row" "Form.row" km)
  (adP:dS K (.ref nh) "low"=J aw)
  (adO:dS K (.ref nh) "high"=J aw)
  (afa:dh K nh "__init__" "Span.__init__" Eb)
  (ae9:dh K nh "fits" "Span.fits" Ad)
  (afc:dh K nh "written" "Span.written" zk)
  (ae8:dh K nh "draw" "Span.draw" Ae)
  (afb:dh K nh "row" "Form.row" km)
  (adE:dS K (.ref mw) "signs"=J aw)
  (aeF:dh K mw "__init__" "Letters.__init__" DL)
  (aeE:dh K mw "fits" "Letters.fits" zq)
  (aeI:dh K mw "written" "Letters.written" zT)
  (aeD:dh K mw "draw" "Letters.draw" zr)
  (aeG:dh K mw "places" "Letters.places" zW)
  (aeH:dh K mw "row" "Form.row" km)
  (adG:dS K (.ref oo) "inner"=J aw)
  (aeQ:dh K oo "__init__" "Maybe.__init__" D0)
  (aeP:dh K oo "fits" "Maybe.fits" Aa)
  (aeS:dh K oo "written" "Maybe.written" z2)
  (aeO:dh K oo "draw" "Maybe.draw" Ab)
  (aeR:dh K oo "row" "Form.row" km)
  (adF:dS K (.ref om) "inner"=J aw)
  (aeL:dh K om "__init__" "Many.__init__" Ec)
  (aeK:dh K om "fits" "Many.fits" Af)
  (aeN:dh K om "written" "Many.written" zp)
  (aeJ:dh K om "draw" "Many.draw" Ag)
  (aeM:dh K om "row" "Form.row" km)
  (adQ:dS K (.ref oq) "inner"=J aw)
  (afj:dh K oq "__init__" "Turned.__init__" DP)
  (afi:dh K oq "fits" "Turned.fits" zA)
  (afl:dh K oq "written" "Turned.written" zU)
  (afh:dh K oq "draw" "Turned.draw" zB)
  (afk:dh K oq "row" "Form.row" km)
  (adI:dS K (.ref ng) "names"=J aw)
  (adH:dS K (.ref ng) "forms"=J aw)
  (aeZ:dh K ng "__init__" "Record.__init__" DR)
  (aeY:dh K ng "fits" "Record.fits" zF)
  (ae1:dh K ng "written" "Record.written" zV)
  (aeX:dh K ng "draw" "Record.draw" zG)
  (ae0:dh K ng "row" "Form.row" km)
  (adD:dS K (.ref nf) "names"=J aw)
  (adC:dS K (.ref nf) "forms"=J aw)
  (aew:dh K nf "__init__" "Choice.__init__" DS)
  (aev:dh K nf "fits" "Choice.fits" zH)
  (aey:dh K nf "written" "Choice.written" zX)
  (aeu:dh K nf "draw" "Choice.draw" zI)
  (aex:dh K nf "row" "Form.row" km)
  (acN:eU K (.ref eV) (.ref r2)=J ah)
  (acR:eU K (.ref eV) (.ref eM)=J ah)
  (acU:eU K (.ref eV) (.ref gd)=J ah)
  (acO:eU K (.ref eV) (.ref r3)=J ah)
  (acP:eU K (.ref eV) (.ref r4)=J ah)
  (acQ:eU K (.ref eV) (.ref r5)=J ah)
  (acL:eU K (.ref eV) (.ref r0)=J ah)
  (acS:eU K (.ref eV) (.ref r6)=J ah)
  (acM:eU K (.ref eV) (.ref r1)=J ah)
  (acT:eU K (.ref eV) (.type "ValueError")=J ag)
  (acY:eU K (.ref eM) (.ref r2)=J ah)
  (ac4:eU K (.ref eM) (.ref gd)=J ah)
  (acX:eU K (.ref eM) (.ref eV)=J ah)
  (acZ:eU K (.ref eM) (.ref r3)=J ah)
  (ac0:eU K (.ref eM) (.ref r4)=J ah)
  (ac1:eU K (.ref eM) (.ref r5)=J ah)
  (acV:eU K (.ref eM) (.ref r0)=J ah)
  (ac2:eU K (.ref eM) (.ref r6)=J ah)
  (acW:eU K (.ref eM) (.ref r1)=J ah)
  (ac3:eU K (.ref eM) (.type "ValueError")=J ag)
  (ahU:dS K (.ref hi) "__getattribute__"=J (J (.builtin "BaseException.__getattribute__")))
  (ahY:dS K (.ref hi) "__getattr__"=J aw)
  (ahQ:dS K (.ref hi) "__class__"=J (J (.builtin "object.__class__")))
  (ah6:kz K hi (.type "object")=J ag)
  (ahN:kz K hi (.type "BaseException")=J ag)
  (ah2:IZ K hi=ag)
  (CF:I2 K (.builtin "object.__class__") "__get__"=J (J (.builtin "getset_descriptor.__get__")))
  (CG:PySem.W.takesIn K (.builtin "object.__class__")=J ag)
  (IS:rX K (.ref hi)=J (.type "type"))
  (ahV:dS K (.ref eM) "__getattribute__"=J (J (.builtin "BaseException.__getattribute__")))
  (ahZ:dS K (.ref eM) "__getattr__"=J aw)
  (ahR:dS K (.ref eM) "__class__"=J (J (.builtin "object.__class__")))
  (ah7:kz K eM (.type "object")=J ag)
  (PW:kz K eM (.type "BaseException")=J ag)
  (ah3:IZ K eM=ag)
  (aib:rX K (.ref eM)=J (.type "type"))
  (ahW:dS K (.ref gd) "__getattribute__"=J (J (.builtin "BaseException.__getattribute__")))
  (ah0:dS K (.ref gd) "__getattr__"=J aw)
  (ahS:dS K (.ref gd) "__class__"=J (J (.builtin "object.__class__")))
  (ah8:kz K gd (.type "object")=J ag)
  (PX:kz K gd (.type "BaseException")=J ag)
  (ah4:IZ K gd=ag)
  (aic:rX K (.ref gd)=J (.type "type"))
  (ahT:dS K (.ref eV) "__getattribute__"=J (J (.builtin "BaseException.__getattribute__")))
  (ahX:dS K (.ref eV) "__getattr__"=J aw)
  (ahP:dS K (.ref eV) "__class__"=J (J (.builtin "object.__class__")))
  (ah5:kz K eV (.type "object")=J ag)
  (PV:kz K eV (.type "BaseException")=J ag)
  (ah1:IZ K eV=ag)
  (aia:rX K (.ref eV)=J (.type "type"))
  (s3:I2 K (.ref hi) "__getattribute__"=J (J (.builtin "type.__getattribute__")))
  (s4:PySem.W.readsIn K hi (.type "type")=ag)
  (sZ:PySem.W.findCls K (.ref hi) (.type "type") "__init__"=J (.val (.builtin "ValueError.__init__")))
  (aiV:dS K (.ref eM) "__init__"=J (J (.ref vA)))
  (ac8:K.lookup vA=J ⟨ad6,ad9,.func (lO "__init__" "Short.__init__" (l4 u1) (iw u1) (bF u1) .none acB YS aer Yz Mh YP),agz⟩)
  (YH:ug K Mh "Short.__init__"=ag)
  (acE:j9 K (.ref vA)=ag)
  (ahi:rX K (.ref vA)=J (.type "function"))
  (acH:j9 K (.ref eM)=ag)
  (agv:dS K (.ref eM) "__setattr__"=J (J (.builtin "object.__setattr__")))
  (Na:uh K eM=ag)
  (ahz:rW K eM "place"=J aw)
  (adT:dS K (.ref eM) "place"=J aw)
  (P0:oL K eM vA=ag)
  (aeg:(PySem.W.clsIn K eM).any (fun c4=>we c4.mro)=ag)
  (aiW:dS K (.ref gd) "__init__"=J (J (.ref vB)))
  (ac9:K.lookup vB=J ⟨ad7,aea,.func (lO "__init__" "Wrong.__init__" (l4 u0) (iw u0) (bF u0) .none acC YT aes YA Mi YQ),agA⟩)
  (YI:ug K Mi "Wrong.__init__"=ag)
  (acF:j9 K (.ref vB)=ag)
  (ahj:rX K (.ref vB)=J (.type "function"))
  (acI:j9 K (.ref gd)=ag)
  (agw:dS K (.ref gd) "__setattr__"=J (J (.builtin "object.__setattr__")))
  (aaO:uh K gd=ag)
  (ahA:rW K gd "place"=J aw)
  (ajP:dS K (.ref gd) "place"=J aw)
  (P1:oL K gd vB=ag)
  (aeh:(PySem.W.clsIn K gd).any (fun c4=>we c4.mro)=ag)
  (aiU:dS K (.ref eV) "__init__"=J (J (.ref vz)))
  (ac7:K.lookup vz=J ⟨ad5,ad8,.func (lO "__init__" "Left.__init__" (l4 uE) (iw uE) (bF uE) .none acA YR aeq Yy Mg YO),agy⟩)
  (YG:ug K Mg "Left.__init__"=ag)
  (acD:j9 K (.ref vz)=ag)
  (ahh:rX K (.ref vz)=J (.type "function"))
  (acG:j9 K (.ref eV)=ag)
  (agu:dS K (.ref eV) "__setattr__"=J (J (.builtin "object.__setattr__")))
  (M9:uh K eV=ag)
  (ahy:rW K eV "place"=J aw)
  (adS:dS K (.ref eV) "place"=J aw)
  (PZ:oL K eV vz=ag)
  (aef:(PySem.W.clsIn K eV).any (fun c4=>we c4.mro)=ag)
  (adw:kz K eM (.ref hi)=J ag)
  (adx:kz K gd (.ref hi)=J ag)
  (adv:kz K eV (.ref hi)=J ag)
  (af4:eo K "turned_row" DT)
  (afY:eo K "lower_digits" DJ)
  (afD:eo K "is_count" En)
  (afC:eo K "has_whole_row" zY)
  (aft:eo K "count_row" D9)
  (af6:eo K "whole_row" D1)
  (afz:eo K "fixed_row" D8)
  (afx:eo K "draw_lower_digits" Dw)
  (afu:eo K "draw_count" DZ)
  (afy:eo K "draw_whole" DX)
  (afv:eo K "draw_fixed" DY)
  (af3:eo K "steps_of" Eg)
  (afq:eo K "are_steps" Ea)
  (afA:eo K "fraction_of" DO)
  (afs:eo K "common_divisor" Dc)
  (afE:eo K "is_fraction" DN)
  (afB:eo K "has_fraction_row" C9)
  (af2:eo K "row_of_steps" DI)
  (afw:eo K "draw_fraction" Dl)
  (afG:eo K "is_number" D7)
  (afZ:eo K "made_of" Ey)
  (afF:eo K "is_name" Ez)
  (af0:eo K "names_of" Ej)
  (af5:eo K "value_of" Ef)
  (af1:eo K "read_all" Ei)
  (afr:eo K "begun_by" Eo)
  (afS:eo K "_law_pool" Ek)
  (afR:eo K "_law_next" El)
  (afV:eo K "_law_signs" D2)
  (afP:eo K "_law_names" D3)
  (afW:eo K "_law_simple" DU)
  (afL:eo K "_law_form" Al)
  (afO:eo K "_law_made" Ak)
  (afQ:eo K "_law_near" Em)
  (afU:eo K "_law_signed" DV)
  (afM:eo K "_law_fraction" DK)
  (afX:eo K "_law_value" Ac)
  (afK:eo K "_law_drawn" D5)
  (afN:eo K "_law_kinds" D4)
  (afT:eo K "_law_same" Aj)
  (afJ:eo K "_law_digits" DW)
  (afI:eo K "_law_asked" D6)
  (afH:eo K "law" FI)
  (aio:fc K d5 "len"=J aw)
  (air:fc K d5 "range"=J aw)
  (aim:fc K d5 "int"=J aw)
  (aiu:fc K d5 "str"=J aw)
  (aik:fc K d5 "bool"=J aw)
  (aiv:fc K d5 "tuple"=J aw)
  (ain:fc K d5 "isinstance"=J aw)
  (aiq:fc K d5 "min"=J aw)
  (aip:fc K d5 "list"=J aw)
  (aij:fc K d5 "all"=J aw)
  (ais:fc K d5 "reversed"=J aw)
  (ail:fc K d5 "enumerate"=J aw)
  (aiw:fc K d5 "zip"=J aw)
  (ait:fc K d5 "set"=J aw)
  (aii:fc K d5 "abs"=J aw)
  (aih:fc K d5 "ValueError"=J aw)
  (ZQ:fc K d5 "MOST_DIGITS"=J (J (.int 255 ahp)))
  (ZP:fc K d5 "MOST_AHEAD"=J (J (.int 7 aho)))
  (ZS:fc K d5 "MOST_SIGNS"=J (J (.int 60 ahr)))
  (ZO:fc K d5 "LONGEST_TEXT"=J (J (.int 200 ahn)))
  (ZT:fc K d5 "MOST_VALUES"=J (J (.int 60 ahs)))
  (ZR:fc K d5 "MOST_PARTS"=J (J (.int 20 ahq)))
  (ZN:fc K d5 "LONGEST_NAME"=J (J (.int 12 ahm)))
  (ZU:fc K d5 "SMALL_LETTERS"=J (J (.str "abcdefghijklmnopqrstuvwxyz" aht)))
  (ZM:fc K d5 "LETTERS_AND_FIGURES"=J (J (.str "abcdefghijklmnopqrstuvwxyzABCDEFGHIJKLMNOPQRSTUVWXYZ0123456789" ahl)))
  : ∃ fd:fu,(∀ (s:aI) (v:ao),BindsTo s fd ⟨[v],[]⟩ [("_law_script",v)])/\∀ base:aX,K.In base->base.Ns d5 mg->cg l.prog w K mg base dk 27 fa fd ["_law_script"] (Ch K):=by
 obtain⟨_,fd,Jc,Yu⟩:=afH
 have e:=aaY.symm.trans (fS X G Yu)
 cases e
 have pO:=Jc.ex
 have adq:=fS X G rD.a
 have v8:=fS X G tT.a
 have v9:=fS X G tW.a
 have wa:=fS X G tY.a
 have v7:=fS X G tQ.a
 have adr:=fS X G tV.a
 have adm:=fS X G rC.a
 have ado:=fS X G tS.a
 have adn:=fS X G tR.a
 have ads:=fS X G tX.a
 have adp:=fS X G tU.a
 have adl:=fS X G tP.a
 have nT:=fS X G Yq
 have ai8:ej mg "RiseError" (.ref hi):=⟨_,nT,rfl⟩
 have aac:=fS X G Ym
 have Gh:ej mg "NoFit" (.ref r2):=⟨_,aac,rfl⟩
 have MH:=fS X G Yr
 have Gl:ej mg "Short" (.ref eM):=⟨_,MH,rfl⟩
 have MI:=fS X G Yt
 have Gn:ej mg "Wrong" (.ref gd):=⟨_,MI,rfl⟩
 have MG:=fS X G Yl
 have Gg:ej mg "Left" (.ref eV):=⟨_,MG,rfl⟩
 have aad:=fS X G Yn
 have Gi:ej mg "NoForm" (.ref r3):=⟨_,aad,rfl⟩
 have aae:=fS X G Yo
 have Gj:ej mg "NoText" (.ref r4):=⟨_,aae,rfl⟩
 have aaf:=fS X G Yp
 have Gk:ej mg "NotAhead" (.ref r5):=⟨_,aaf,rfl⟩
 have aaa:=fS X G Yj
 have Ge:ej mg "BadPage" (.ref r0):=⟨_,aaa,rfl⟩
 have aag:=fS X G Ys
 have Gm:ej mg "Twice" (.ref r6):=⟨_,aag,rfl⟩
 have aab:=fS X G Yk
 have Gf:ej mg "Lacking" (.ref r1):=⟨_,aab,rfl⟩
 have ag8:MethAt K jr "draw" "Source.draw" zE ["self"]:=ae2.at rD.cl (gy (by intros;rfl))
 have ahb:MethAt K jr "turn" "Source.turn" zD ["self"]:=ae6.at rD.cl (gy (by intros;rfl))
 have ag9:MethAt K jr "go_on" "Source.go_on" zl ["self"]:=ae3.at rD.cl (gy (by intros;rfl))
 have ahc:MethAt K jr "wish" "Source.wish" zC ["self","sign"]:=ae7.at rD.cl (c6 (by intros;rfl))
 have aha:MethAt K jr "refuse" "Source.refuse" z1 ["self"]:=ae5.at rD.cl (gy (by intros;rfl))
 have uJ:k8 K pf:=⟨tT.ys,acn,tT.yq⟩
 have uK:k8 K pg:=⟨tW.ys,aco,tW.yq⟩
 have uL:k8 K ph:=⟨tY.ys,acp,tY.yq⟩
 have uI:k8 K pe:=⟨tQ.ys,acm,tQ.yq⟩
 have ag7:MethAt K mw "places" "Letters.places" zW ["self","text"]:=aeG.at rC.cl (c6 (by intros;rfl))
 have IM:ExcC K hi:=⟨ahU,ahY,ahQ,ah6,ahN,ah2,CF,CG⟩
 have IP:ExcC K eM:=⟨ahV,ahZ,ahR,ah7,PW,ah3,CF,CG⟩
 have ahO:ExcC K gd:=⟨ahW,ah0,ahS,ah8,PX,ah4,CF,CG⟩
 have IL:ExcC K eV:=⟨ahT,ahX,ahP,ah5,PV,ah1,CF,CG⟩
 have CQ:y7 K mg "RiseError" hi:=⟨nT,s3,s4,sZ⟩
 have I9:=xA (st:=u1) ac8 YH acE
 have Dz:=I9.binds (ps:=["self","place"]) (c6 (by intros;rfl))
 have DF:sH K mg "Short" eM vA:=⟨P0,ahi,acH,PW,aib,MH⟩
 have Rj:pq K eM:={IP with sa:=agv,ov:=aeg,hd:=Na}
 have Ja:=xA (st:=u0) ac9 YI acF
 have DA:=Ja.binds (ps:=["self","place"]) (c6 (by intros;rfl))
 have DG:sH K mg "Wrong" gd vB:=⟨P1,ahj,acI,PX,aic,MI⟩
 have Rk:pq K gd:={ahO with sa:=agw,ov:=aeh,hd:=aaO}
 have I8:=xA (st:=uE) ac7 YG acD
 have Dy:=I8.binds (ps:=["self","place"]) (c6 (by intros;rfl))
 have DE:sH K mg "Left" eV vz:=⟨PZ,ahh,acG,PV,aia,MG⟩
 have Ri:pq K eV:={IL with sa:=agu,ov:=aef,hd:=M9}
 obtain⟨_,_,QS⟩:=af4.at X G (gy (by intros;rfl))
 obtain⟨_,_,QM⟩:=afY.at X G (c6 (by intros;rfl))
 obtain⟨_,_,Qs⟩:=afD.at X G (gy (by intros;rfl))
 obtain⟨_,_,Jb⟩:=afC.at X G (gy (by intros;rfl))
 obtain⟨_,_,Qj⟩:=aft.at X G (gy (by intros;rfl))
 obtain⟨_,_,QU⟩:=af6.at X G (gy (by intros;rfl))
 obtain⟨_,_,Qp⟩:=afz.at X G (c6 (by intros;rfl))
 obtain⟨_,_,Qn⟩:=afx.at X G (c6 (by intros;rfl))
 obtain⟨_,_,Qk⟩:=afu.at X G (gy (by intros;rfl))
 obtain⟨_,_,Qo⟩:=afy.at X G (gy (by intros;rfl))
 obtain⟨_,_,Ql⟩:=afv.at X G (c6 (by intros;rfl))
 obtain⟨_,_,QR⟩:=af3.at X G (gy (by intros;rfl))
 obtain⟨_,_,Qg⟩:=afq.at X G (gy (by intros;rfl))
 obtain⟨_,_,Qq⟩:=afA.at X G (gy (by intros;rfl))
 obtain⟨_,_,Qi⟩:=afs.at X G (c6 (by intros;rfl))
 obtain⟨_,_,Qt⟩:=afE.at X G (gy (by intros;rfl))
 obtain⟨_,_,Qr⟩:=afB.at X G (gy (by intros;rfl))
 obtain⟨_,_,QQ⟩:=af2.at X G (gy (by intros;rfl))
 obtain⟨_,_,Qm⟩:=afw.at X G (gy (by intros;rfl))
 obtain⟨_,_,Qv⟩:=afG.at X G (gy (by intros;rfl))
 obtain⟨_,_,QN⟩:=afZ.at X G (c6 (by intros;rfl))
 obtain⟨_,_,Qu⟩:=afF.at X G (gy (by intros;rfl))
 obtain⟨_,_,QO⟩:=af0.at X G (gy (by intros;rfl))
 obtain⟨_,_,QT⟩:=af5.at X G (c6 (by intros;rfl))
 obtain⟨_,_,QP⟩:=af1.at X G (c6 (by intros;rfl))
 obtain⟨_,_,Qh⟩:=afr.at X G (c6 (by intros;rfl))
 obtain⟨_,_,QG⟩:=afS.at X G (gy (by intros;rfl))
 obtain⟨_,_,QF⟩:=afR.at X G (gy (by intros;rfl))
 obtain⟨_,_,QJ⟩:=afV.at X G (gy (by intros;rfl))
 obtain⟨_,_,QD⟩:=afP.at X G (c6 (by intros;rfl))
 obtain⟨_,_,QK⟩:=afW.at X G (c6 (by intros;rfl))
 obtain⟨_,_,Qz⟩:=afL.at X G (c6 (by intros;rfl))
 obtain⟨_,_,QC⟩:=afO.at X G (gy (by intros;rfl))
 obtain⟨_,_,QE⟩:=afQ.at X G (gy (by intros;rfl))
 obtain⟨_,_,QI⟩:=afU.at X G (gy (by intros;rfl))
 obtain⟨_,_,QA⟩:=afM.at X G (c6 (by intros;rfl))
 obtain⟨_,_,QL⟩:=afX.at X G (c6 (by intros;rfl))
 obtain⟨_,_,Qy⟩:=afK.at X G (gy (by intros;rfl))
 obtain⟨_,_,QB⟩:=afN.at X G (gy (by intros;rfl))
 obtain⟨_,_,QH⟩:=afT.at X G (c6 (by intros;rfl))
 obtain⟨_,_,Qx⟩:=afJ.at X G (gy (by intros;rfl))
 obtain⟨_,_,Qw⟩:=afI.at X G (FO (by intros;rfl))
 have nb:dV mg:=⟨kh X G aio,kh X G air,kh X G aim,kh X G aiu,kh X G aik,kh X G aiv,kh X G ain,kh X G aiq,kh X G aip,kh X G aij,kh X G ais,kh X G ail,kh X G aiw,kh X G ait,kh X G aii⟩
 have HB:=kh X G aih
 have F9:ej mg "MOST_DIGITS" (.int 255):=⟨_,fS X G ZQ,⟨_,rfl⟩⟩
 have vE:ej mg "MOST_AHEAD" (.int 7):=⟨_,fS X G ZP,⟨_,rfl⟩⟩
 have Gb:ej mg "MOST_SIGNS" (.int 60):=⟨_,fS X G ZS,⟨_,rfl⟩⟩
 have oN:ej mg "LONGEST_TEXT" (.int 200):=⟨_,fS X G ZO,⟨_,rfl⟩⟩
 have oO:ej mg "MOST_VALUES" (.int 60):=⟨_,fS X G ZT,⟨_,rfl⟩⟩
 have Ga:ej mg "MOST_PARTS" (.int 20):=⟨_,fS X G ZR,⟨_,rfl⟩⟩
 have F8:ej mg "LONGEST_NAME" (.int 12):=⟨_,fS X G ZN,⟨_,rfl⟩⟩
 have Gd:ej mg "SMALL_LETTERS" (.str jM):=⟨_,fS X G ZU,⟨_,rfl⟩⟩
 have F7:ej mg "LETTERS_AND_FIGURES" (.str pC):=⟨_,fS X G ZM,⟨_,rfl⟩⟩
 refine⟨fd,fun s v=>?_,fun base _ _=>?_⟩
 ·obtain⟨_,_,_,_,_,_,_,_,_,rfl,_⟩:=pO
  exact .of_eq I
 have T:qL K jr:=⟨rD.cl,adL,adK,adM,adJ,adN⟩
 have DC:=UM (P:=l.prog) (w:=w) (base:=base) P0 Rj ahz CQ I9
 have DD:=UL (P:=l.prog) (w:=w) (base:=base) P1 Rk ahA CQ Ja
 have DB:=Vh (P:=l.prog) (w:=w) (base:=base) PZ Ri ahy CQ I8
 obtain⟨aN,M6,Bv⟩:∃ aN:Bool->ae,aN ag=gd/\aN ah=eM:=⟨fun b=>bif b then gd else eM,rfl,rfl⟩
 have nq:=UD (P:=l.prog) (w:=w) (base:=base) QS
 have sd:=T3 (P:=l.prog) (w:=w) (base:=base) nb QM
 have nj:=Ve Qp sd
 have mx:=VK (P:=l.prog) (w:=w) (base:=base) F9 Qs
 have r9:=TL Jb mx
 have Qd:=Tu Jb mx
 have r8:=Vf vE Qj mx sd
 have qz:=U7 QU r8 nq
 have qy:=VD (P:=l.prog) (w:=w) (base:=base) QR
 have ur:=Vg (P:=l.prog) (w:=w) (base:=base) nb Qg
 have CV:=Up nb Qq ur
 have CU:=Tv (P:=l.prog) (w:=w) (base:=base) Qi
 have CW:=Uo Qt CU
 have wN:=Tl nb Qr CW qy r9 mx
 have wO:=T2 nb QQ qz r8 nq
 have k7:=(g7 (P:=l.prog) (w:=w) (mg:=mg) (base:=base) ahb fun _ _ G=>R1 T G).1
 have zv:=(g7 (P:=l.prog) (w:=w) (mg:=mg) (base:=base) ahc fun _ _ G=>R0 T G).1
 have Df:=(g7 (P:=l.prog) (w:=w) (mg:=mg) (base:=base) ag9 fun _ _ G=>XX T G).1
 have gI:=(Wp (P:=l.prog) (w:=w) (mg:=mg) (base:=base) ag8 fun _ _ G=>Sl nb T Bv DF DC Dz G).1
 have k6:=(Wp (P:=l.prog) (w:=w) (mg:=mg) (base:=base) aha fun _ _ G=>Xh T M6 DG DD DA G).1
 have uR:=ae4.mk (P:=l.prog) (w:=w) (base:=base) rD adq (FO fun _ _ _ _ _ _ _ _ _=>rfl) fun _ _ G=>VE T G
 have zc:=Ti nb T.cl Qn gI
 have r7:=UQ vE T.cl Qk gI zc
 have qw:=UO T.cl Qo gI k7 r7
 have ni:=UP nb T.cl Ql gI k6
 have wM:=TP (N:=302) nb T.cl Qm gI k7 zv k6 qw r7 ur CV
 have my:=UK (P:=l.prog) (w:=w) (base:=base) nb Qv
 have nk:=We (P:=l.prog) (w:=w) (base:=base) nb QN
 have CY:=Wf nb F8 Gd Qu nk
 have uz:=VG nb Ga QO CY
 have eK:uY K nh:=⟨tV.cl,adP,adO⟩
 have Ds:sq K mw:=⟨rC.cl,adE⟩
 have Rd:nC K ng:=⟨tU.cl,adI,adH⟩
 have Rb:nC K nf:=⟨tP.cl,adD,adC⟩
 have Rc:ke K oo:=⟨tS.cl,adG⟩
 have Rf:ke K om:=⟨tR.cl,adF⟩
 have gL:ke K oq:=⟨tX.cl,adQ⟩
 have uS:=afa.mk (P:=l.prog) (w:=w) (base:=base) tV adr (FO fun _ _ _ _ _ _ _ _ _=>rfl) fun _ _ G=>U8 eK G
 have uN:=aeF.mk (P:=l.prog) (w:=w) (base:=base) rC adm (c6 fun _ _ _ _ _ _ _ _=>rfl) fun _ _ G=>VH nb Gb F7 Ds G nk
 have uQ:=aeZ.mk (P:=l.prog) (w:=w) (base:=base) tU adp (c6 fun _ _ _ _ _ _ _ _=>rfl) fun _ _ G=>VF nb Rd G uz
 have uM:=aew.mk (P:=l.prog) (w:=w) (base:=base) tP adl (c6 fun _ _ _ _ _ _ _ _=>rfl) fun _ _ G=>VL nb Rb G uz
 have uP:=aeQ.mk (P:=l.prog) (w:=w) (base:=base) tS ado (c6 fun _ _ _ _ _ _ _ _=>rfl) fun _ _ G=>UE Rc G
 have uO:=aeL.mk (P:=l.prog) (w:=w) (base:=base) tR adn (c6 fun _ _ _ _ _ _ _ _=>rfl) fun _ _ G=>U9 Rf G
 have uT:=afj.mk (P:=l.prog) (w:=w) (base:=base) tX ads (c6 fun _ _ _ _ _ _ _ _=>rfl) fun _ _ G=>Um gL G
 obtain⟨c,hc⟩:∃ c:eu,c=⟨fun k=>[pf,pg,ph,pe][k],nh,mw,fun k=>[oo,om,oq][k],fun k=>[ng,nf][k]⟩:=⟨_,rfl⟩
 have Y9:c.b 0=pf:=by rw[hc];rfl
 have Zc:c.b 1=pg:=by rw[hc];rfl
 have Ze:c.b 2=ph:=by rw[hc];rfl
 have Y5:c.b 3=pe:=by rw[hc];rfl
 have Zb:c.s=nh:=by rw[hc]
 have Y6:c.l=mw:=by rw[hc]
 have Y8:c.o 0=oo:=by rw[hc];rfl
 have Y7:c.o 1=om:=by rw[hc];rfl
 have Zd:c.o 2=oq:=by rw[hc];rfl
 have Za:c.t 0=ng:=by rw[hc];rfl
 have Y4:c.t 1=nf:=by rw[hc];rfl
 clear hc
 subst Y9
 subst Zc
 subst Ze
 subst Y5
 subst Zb
 subst Y6
 subst Y8
 subst Y7
 subst Zd
 subst Za
 subst Y4
 have Dr:zN K c:=⟨eK,Ds,fun k=>by rcases pR k with rfl | rfl | rfl<;>assumption,fun k=>by rcases vC k with rfl | rfl<;>assumption⟩
 have Q7:qG K c "fits" Fv FE ["self","value"]:=sP (p:=fun i=>MethAt K (fE c i) "fits" (Fv i) (FE i) ["self","value"]) (aeU.at tT.cl (c6 (by intros;rfl))) (afe.at tW.cl (c6 (by intros;rfl))) (afn.at tY.cl (c6 (by intros;rfl))) (aeA.at tQ.cl (c6 (by intros;rfl))) (ae9.at tV.cl (c6 (by intros;rfl))) (aeE.at rC.cl (c6 (by intros;rfl))) (aeP.at tS.cl (c6 (by intros;rfl))) (aeK.at tR.cl (c6 (by intros;rfl))) (afi.at tX.cl (c6 (by intros;rfl))) (aeY.at tU.cl (c6 (by intros;rfl))) (aev.at tP.cl (c6 (by intros;rfl)))
 have Q9:qG K c "written" EA EH ["self","value"]:=sP (p:=fun i=>MethAt K (fE c i) "written" (EA i) (EH i) ["self","value"]) (aeW.at tT.cl (c6 (by intros;rfl))) (afg.at tW.cl (c6 (by intros;rfl))) (afp.at tY.cl (c6 (by intros;rfl))) (aeC.at tQ.cl (c6 (by intros;rfl))) (afc.at tV.cl (c6 (by intros;rfl))) (aeI.at rC.cl (c6 (by intros;rfl))) (aeS.at tS.cl (c6 (by intros;rfl))) (aeN.at tR.cl (c6 (by intros;rfl))) (afl.at tX.cl (c6 (by intros;rfl))) (ae1.at tU.cl (c6 (by intros;rfl))) (aey.at tP.cl (c6 (by intros;rfl)))
 have Q6:qG K c "draw" Fw FF ["self","source"]:=sP (p:=fun i=>MethAt K (fE c i) "draw" (Fw i) (FF i) ["self","source"]) (aeT.at tT.cl (c6 (by intros;rfl))) (afd.at tW.cl (c6 (by intros;rfl))) (afm.at tY.cl (c6 (by intros;rfl))) (aez.at tQ.cl (c6 (by intros;rfl))) (ae8.at tV.cl (c6 (by intros;rfl))) (aeD.at rC.cl (c6 (by intros;rfl))) (aeO.at tS.cl (c6 (by intros;rfl))) (aeJ.at tR.cl (c6 (by intros;rfl))) (afh.at tX.cl (c6 (by intros;rfl))) (aeX.at tU.cl (c6 (by intros;rfl))) (aeu.at tP.cl (c6 (by intros;rfl)))
 have Q8:qG K c "row" (fun _=>"Form.row") (fun _=>km) ["self","value"]:=sP (p:=fun i=>MethAt K (fE c i) "row" ("Form.row") (km) ["self","value"]) (aeV.at tT.cl (c6 (by intros;rfl))) (aff.at tW.cl (c6 (by intros;rfl))) (afo.at tY.cl (c6 (by intros;rfl))) (aeB.at tQ.cl (c6 (by intros;rfl))) (afb.at tV.cl (c6 (by intros;rfl))) (aeH.at rC.cl (c6 (by intros;rfl))) (aeR.at tS.cl (c6 (by intros;rfl))) (aeM.at tR.cl (c6 (by intros;rfl))) (afk.at tX.cl (c6 (by intros;rfl))) (ae0.at tU.cl (c6 (by intros;rfl))) (aex.at tP.cl (c6 (by intros;rfl)))
 have w1:=(g7 (P:=l.prog) (w:=w) (mg:=mg) (base:=base) ag7 fun _ _ G=>TA Ds G).1
 have jq:=Xv (P:=l.prog) (w:=w) (base:=base) nb Dr Q7 oO oN my Qd nk wN 8
 have kB:=VY nb Dr Q9 w1 qz nj nq qy wO 8
 have y6:=Sw Q8 jq kB
 have lQ:=Xw (N:=302) (by decide) nb Dr Q6 T.cl oO oN gI k7 k6 ni qw wM 8
 have uq:=VR nb T QT lQ DE DB Dy
 have CT:=VS QP uR uq
 have zb:=VT T.cl Qh uR Df uq
 have C1:=VI (P:=l.prog) (w:=w) (base:=base) nb QG
 have I5:=Vb (P:=l.prog) (w:=w) (base:=base) nb QF
 have hS:=bK.less I5 fun _ _ _ _ h=>WW h
 have C2:=Va (P:=l.prog) (w:=w) (base:=base) nb QJ
 have ux:=Vc (P:=l.prog) (w:=w) (base:=base) nb QD
 have uy:=UG QK hS C2
 have uv:=J2 nb Qz hS ux uy 8
 have C0:=Vd Qy hS uv
 have pj:=J1 nb QC uJ v8 uK v9 uL wa uI v7 uS uN uQ uM uP uO uT 8
 have ze:=VJ (P:=l.prog) (w:=w) (base:=base) nb QE
 have sb:=UH QI ze
 have uw:=T4 (P:=l.prog) (w:=w) (base:=base) nb QA
 have pk:=JW nb QL I5 sb uw 8
 have CZ:=UJ (P:=l.prog) (w:=w) (base:=base) Qx
 have qx:=Kd (P:=l.prog) (w:=w) (base:=base) nb QH 12
 have Q3:Jj mg ⟨r2,eM,gd,eV,r3,r4,r5,r0,r6,r1⟩:=⟨Gh,Gl,Gn,Gg,Gi,Gj,Gk,Ge,Gm,Gf⟩
 have yp:wZ K ⟨r2,eM,gd,eV,r3,r4,r5,r0,r6,r1⟩ eV [ah,ah,ah,ag,ah,ah,ah,ah,ah,ah,ag]:=⟨IL,_,_,_,_,_,_,_,_,_,_,rfl,acN,acR,acU,EV ..,acO,acP,acQ,acL,acS,acM,acT⟩
 have Hu:wZ K ⟨r2,eM,gd,eV,r3,r4,r5,r0,r6,r1⟩ eM [ah,ag,ah,ah,ah,ah,ah,ah,ah,ah,ag]:=⟨IP,_,_,_,_,_,_,_,_,_,_,rfl,acY,EV ..,ac4,acX,acZ,ac0,ac1,acV,ac2,acW,ac3⟩
 have zd:=UI (P:=l.prog) (w:=w) (base:=base) nb HB Q3 QB
 have Ha:∀ b,kz K (aN b) (.ref hi)=J ag:=fun b=>by
  cases b
  ·rw[Bv];exact adw
  ·rw[M6];exact adx
 have uu:=Un nT IM IS Ha adv Qw CT zb
 exact XW nb Jc yp (Bv ▸ Hu) ⟨IL,M9,adS⟩ (Bv ▸ ⟨IP,Na,adT⟩) C1 hS C0 pj pk CZ uu qx zd y6 jq zb.ahw
theorem walk{l:PySem.W.OpenLaw}{q:cX}{loose:List af}{u3:(af->Option ao)->aX->Prop}{qN:cu->aX->Prop}{d:DefRec}{K:Params->bO}(bc:l.most=J 63)(xU:d.params.defaults=[])
  (GC:∀ (w:cu) (h:aX),qN w h->(K w.params).In h)
  (F:∀ (w:cu) (mg:af->Option ao) (fa:ae) (h:aX),(K w.params).In h->h.Ns d5 mg->mg d.name=J (.ref fa)->
   ∃ fd:fu,(∀ (s:aI) (u:ao),BindsTo s fd ⟨[u],[]⟩ [("_law_script",u)])/\∀ base:aX,(K w.params).In base->base.Ns d5 mg->cg l.prog w (K w.params) mg base dk 27 fa fd ["_law_script"] (Ch (K w.params))) :
  PySem.W.WalkO q loose u3 qN l.row.toRowW d [] (fun f vs=>PySem.call f vs) :=
 dg.RE (n:=63) (k:=27) (x:="_law_script") (CX:=fun _=>dk) (sp:=fun w=>Ch (K w.params)) bc (by decide) xU ⟨rfl,by decide,by decide⟩ GC F (fun _ _ a ns aC _ b7=>⟨a,ns,rfl,b7,aC,fun _=>rfl⟩) fun _ _ _ _ _ z=>z
end
end KR
end
open PySem PySem.W PyProof.Rows
set_option maxRecDepth 100000 in
set_option maxHeartbeats 0 in
theorem PySem.Challenge.cw_keyrise_k41_read_whole_holds : PySem.Challenge.rw_keyrise_k41_read_whole.Holds := by
 refine KR.GG.2 ?_
 delta KR.GG
 dsimp only
 k_fill
 refine KR.walk (l:=PySem.Challenge.rw_keyrise_k41_read_whole) rfl rfl (fun w h Y=>PySem.W.kIn_of Y) ?F
 case F =>
  intro w mg fa h KX G hmg
  refine' KR.Xex KX G hmg ?a0 ?a1 ?a2 ?a3 ?a4 ?a5 ?a6 ?a7 ?a8 ?a9 ?a10 ?a11 ?a12 ?a13 ?a14 ?a15 ?a16 ?a17 ?a18 ?a19 ?a20 ?a21 ?a22 ?a23 ?a24 ?a25 ?a26 ?a27 ?a28 ?a29 ?a30 ?a31 ?a32 ?a33 ?a34 ?a35 ?a36 ?a37 ?a38 ?a39 ?a40 ?a41 ?a42 ?a43 ?a44 ?a45 ?a46 ?a47 ?a48 ?a49 ?a50 ?a51 ?a52 ?a53 ?a54 ?a55 ?a56 ?a57 ?a58 ?a59 ?a60 ?a61 ?a62 ?a63 ?a64 ?a65 ?a66 ?a67 ?a68 ?a69 ?a70 ?a71 ?a72 ?a73 ?a74 ?a75 ?a76 ?a77 ?a78 ?a79 ?a80 ?a81 ?a82 ?a83 ?a84 ?a85 ?a86 ?a87 ?a88 ?a89 ?a90 ?a91 ?a92 ?a93 ?a94 ?a95 ?a96 ?a97 ?a98 ?a99 ?a100 ?a101 ?a102 ?a103 ?a104 ?a105 ?a106 ?a107 ?a108 ?a109 ?a110 ?a111 ?a112 ?a113 ?a114 ?a115 ?a116 ?a117 ?a118 ?a119 ?a120 ?a121 ?a122 ?a123 ?a124 ?a125 ?a126 ?a127 ?a128 ?a129 ?a130 ?a131 ?a132 ?a133 ?a134 ?a135 ?a136 ?a137 ?a138 ?a139 ?a140 ?a141 ?a142 ?a143 ?a144 ?a145 ?a146 ?a147 ?a148 ?a149 ?a150 ?a151 ?a152 ?a153 ?a154 ?a155 ?a156 ?a157 ?a158 ?a159 ?a160 ?a161 ?a162 ?a163 ?a164 ?a165 ?a166 ?a167 ?a168 ?a169 ?a170 ?a171 ?a172 ?a173 ?a174 ?a175 ?a176 ?a177 ?a178 ?a179 ?a180 ?a181 ?a182 ?a183 ?a184 ?a185 ?a186 ?a187 ?a188 ?a189 ?a190 ?a191 ?a192 ?a193 ?a194 ?a195 ?a196 ?a197 ?a198 ?a199 ?a200 ?a201 ?a202 ?a203 ?a204 ?a205 ?a206 ?a207 ?a208 ?a209 ?a210 ?a211 ?a212 ?a213 ?a214 ?a215 ?a216 ?a217 ?a218 ?a219 ?a220 ?a221 ?a222 ?a223 ?a224 ?a225 ?a226 ?a227 ?a228 ?a229 ?a230 ?a231 ?a232 ?a233 ?a234 ?a235 ?a236 ?a237 ?a238 ?a239 ?a240 ?a241 ?a242 ?a243 ?a244 ?a245 ?a246 ?a247 ?a248 ?a249 ?a250 ?a251 ?a252 ?a253 ?a254 ?a255 ?a256 ?a257 ?a258 ?a259
  (case a0 | a1 | a2 | a3 | a4 | a5 | a6 | a7 | a8 | a9 | a10 | a11=>apply KR.cpMk<;>k_is)
  (case a12 | a13 | a14 | a15 | a16 | a17 | a18 | a19 | a20 | a21 | a22 | a23 | a24 | a25 | a26 | a27=>k_is)
  (case a28 | a29 | a30 | a31 | a32 | a33=>apply KR.mpMk<;>k_is)
  (case a34=>k_is)
  (case a35 | a36 | a37 | a38=>apply KR.mpMk<;>k_is)
  (case a39=>k_is)
  (case a40 | a41 | a42 | a43=>apply KR.mpMk<;>k_is)
  (case a44=>k_is)
  (case a45 | a46 | a47 | a48=>apply KR.mpMk<;>k_is)
  (case a49=>k_is)
  (case a50 | a51 | a52 | a53=>apply KR.mpMk<;>k_is)
  (case a54 | a55=>k_is)
  (case a56 | a57 | a58 | a59 | a60=>apply KR.mpMk<;>k_is)
  (case a61=>k_is)
  (case a62 | a63 | a64 | a65 | a66 | a67=>apply KR.mpMk<;>k_is)
  (case a68=>k_is)
  (case a69 | a70 | a71 | a72 | a73=>apply KR.mpMk<;>k_is)
  (case a74=>k_is)
  (case a75 | a76 | a77 | a78 | a79=>apply KR.mpMk<;>k_is)
  (case a80=>k_is)
  (case a81 | a82 | a83 | a84 | a85=>apply KR.mpMk<;>k_is)
  (case a86 | a87=>k_is)
  (case a88 | a89 | a90 | a91 | a92=>apply KR.mpMk<;>k_is)
  (case a93 | a94=>k_is)
  (case a95 | a96 | a97 | a98 | a99=>apply KR.mpMk<;>k_is)
  (case a100 | a101 | a102 | a103 | a104 | a105 | a106 | a107 | a108 | a109 | a110 | a111 | a112 | a113 | a114 | a115 | a116 | a117 | a118 | a119=>kit_is)
  (case a120 | a121 | a122 | a123 | a124 | a125 | a126 | a127 | a128 | a129 | a130 | a131 | a132 | a133 | a134 | a135 | a136 | a137 | a138 | a139 | a140 | a141 | a142 | a143 | a144 | a145 | a146 | a147 | a148 | a149 | a150 | a151 | a152 | a153 | a154 | a155 | a156 | a157 | a158 | a159 | a160 | a161 | a162=>k_is)
  (case a163 | a164=>kernel_rfl)
  (case a165 | a166 | a167 | a168 | a169 | a170 | a171 | a172 | a173 | a174=>k_is)
  (case a175 | a176=>kernel_rfl)
  (case a177 | a178 | a179 | a180 | a181 | a182 | a183 | a184 | a185 | a186=>k_is)
  (case a187 | a188=>kernel_rfl)
  (case a189 | a190 | a191=>k_is)
  (case a192 | a193 | a194 | a195 | a196 | a197 | a198 | a199 | a200 | a201 | a202 | a203 | a204 | a205 | a206 | a207 | a208 | a209 | a210 | a211 | a212 | a213 | a214 | a215 | a216 | a217 | a218 | a219 | a220 | a221 | a222 | a223 | a224 | a225 | a226 | a227 | a228 | a229 | a230 | a231 | a232 | a233 | a234=>apply KR.fpMk<;>k_is)
  (case a235 | a236 | a237 | a238 | a239 | a240 | a241 | a242 | a243 | a244 | a245 | a246 | a247 | a248 | a249 | a250 | a251 | a252 | a253 | a254 | a255 | a256 | a257 | a258 | a259=>k_is)
