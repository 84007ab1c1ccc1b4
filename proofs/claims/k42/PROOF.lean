import PyProof.Rows.All
import Wide.Line
import Wide.Once
import Wide.FinOn
import OpenK.KLine
import OpenK.KOwn
import Open.Pieces
import KE.RegKIsAll
import KE.KIntText
import KE.KFromBytes
import KE.KItem
import KE.KxBytes
import KE.KRevIter
import KE.KUnpack
import KE.KIsAll
import KE.BitLaws
import PyProof.EqAt
import PyProof.EqKinds
import PyProof.TupleCall
import PySem.Challenge.RW_keyrise_k42_whole_any_signs
set_option Elab.async false
set_option linter.all false
section KRGG
namespace PySem.W.Fast
def tw4347030840688333856:=0
def tw13942922383076648767:=0
def tw12843903742671874703:=0
def tw16469157734679281861:=0
def tw15862007220055102708:=0
def tw4377796739810814904:=0
def tw7217249279796847936:=0
def tw15420957878489767483:=0
def tw14584246346803783393:=0
def tw15221356573953635632:=0
def tw13801533386469849424:=0
def tw8198348009711851909:=0
def tw7740457478382488547:=0
def tw13484864092191122849:=0
def tw10238101938122762056:=0
def tw11375397204414390104:=0
def tw9752715208664976440:=0
def tw9942807118359463060:=0
def tw5925971950823716569:=0
def tw17722493905744866683:=0
def tw12696503080295600230:=0
def tw2748281033721510175:=0
def tw15632092000759084696:=0
def tw5448812613555675388:=0
def tw15661949197320294830:=0
def tw11285678019297364773:=0
def tw12338731306399610732:=0
def tw12348226485782484063:=0
def tw14746202844245116054:=0
def tw7493996154002994169:=0
def tw11307542494220382355:=0
def tw11759327689984386947:=0
def tw8667270058508895643:=0
def tw7963153748652422120:=0
def tw8776824803471081383:=0
def tw15910941506268454745:=0
def tw17047405358015377411:=0
def tw18373042941175376860:=0
def tw5926326500719080359:=0
def tw4129223468700673910:=0
def tw17464368548865840442:=0
def tw3388261108618178489:=0
def tw7091010090385736588:=0
def tw16711357431634272400:=0
def tw2611257597888772518:=0
def tw59811380343621150:=0
def tw10785406115715134269:=0
def tw6554162301221471647:=0
def tw14295969598448792081:=0
def tw3410883945061593800:=0
def tw12819475122750050310:=0
def tw15902619164750196841:=0
def tw15733617910197740017:=0
def tw583529700378162008:=0
def tw5067124757358336656:=0
def tw11365895800290552305:=0
def tw16464623625927299428:=0
def tw7072450911883479903:=0
def tw4553827295722785329:=0
def tw16028206069690098778:=0
def tw1134655106439458485:=0
def tw8661103261456684015:=0
def tw14643422397578818263:=0
def tw67406586872617160:=0
def tw1583299925969838091:=0
def tw16952133794870281701:=0
def tw12616843340768471243:=0
def tw13769963041230472250:=0
def tw10433567710455171932:=0
def tw14001025553167179772:=0
def tw9648316306815926608:=0
def tw648222273322864865:=0
def tw7281419555951639843:=0
def tw4576315731270293460:=0
def tw13588645552305048559:=0
def tw8890686966309901619:=0
def tw213659481757357023:=0
def tw16484373235233323003:=0
def tw6286770148483206755:=0
def tw6657910795696698815:=0
def tw8832938844052329708:=0
def tw5487931154079388545:=0
def tw15472075141073827564:=0
def tw10309526130460222242:=0
def tw4641394605618007983:=0
def tw5520594609316517313:=0
def tw2329151683504993375:=0
def tw4143383846426395767:=0
def tw12324112443247812009:=0
def tw9538779685996785805:=0
def tw6857345925398412229:=0
def tw9394217582556762757:=0
def tw17945978012991258357:=0
def tw15713461617544865694:=0
def tw16431032929241196071:=0
def tw10588782336371210188:=0
def tw7226978691957134893:=0
def tw18021965825034534713:=0
def tw9060691092404425886:=0
def tw18200283393036968579:=0
def tw15098504102513207355:=0
def tw6723318066146181642:=0
def tw3301051832626021737:=0
def tw5428722359339429757:=0
def tw15164148665579101172:=0
def tw4606617000839895423:=0
def tw7852661146605823466:=0
def tw5964635586218475779:=0
def tw979095866598319235:=0
def tw9566490970318289016:=0
def tw17084728044919191291:=0
def tw8276171030340466950:=0
def tw7397793698438416445:=0
def tw16301991351855385982:=0
def tw5497800362559160020:=0
def tw4976572293424302378:=0
def tw15902820786432078956:=0
def tw11315769273325084300:=0
def tw9765147763995856214:=0
def tw18388189172343605309:=0
def tw3882034941659532078:=0
def tw3324379312574851677:=0
def tw7308547379783275242:=0
def tw4039151722516807592:=0
def tw3719888233041684198:=0
def tw12176634488416654693:=0
def tw5482354944553638106:=0
def tw8433581840912296287:=0
def tw15511805576426109468:=0
def tw8817192047158859978:=0
def tw9350186808880309483:=0
def tw7743186908624475474:=0
def tw11954994729660938501:=0
def tw9883805332369111915:=0
def tw16527489470595277796:=0
def tw11133438181240629187:=0
def tw2800585891069229834:=0
def tw10513268369172877236:=0
def tw1275257110926951038:=0
def tw1791597450069529495:=0
def tw4409281312679245962:=0
def tw4234601287735525715:=0
def tw14139846279560748415:=0
def tw4970587566243318818:=0
def tw10174590756279268134:=0
def tw5054544982724999145:=0
def tw15095628436726586926:=0
def tw10133396611602707605:=0
def tw12573193184498266745:=0
def tw8694219875700561298:=0
def tw17299388237897513563:=0
def tw12873611715896670451:=0
def tw1380846671116394420:=0
def tw6886812593756787288:=0
def tw13662227704465424337:=0
def tw4219902721350324374:=0
def tw2245362756673346172:=0
def tw261391271351757251:=0
def tw4930923093125057211:=0
def tw7105366617641684569:=0
def tw6035763669239987994:=0
def tw1810377461874654782:=0
def tw16756160407241000680:=0
def tw1975577276892351770:=0
def tw10927012228346408387:=0
def tw1893180900136571975:=0
def tw6071942007055993045:=0
def tw5475056159660899074:=0
def tw12472250882228931938:=0
def tw14132983388448412922:=0
def tw16259544666408414002:=0
def tw10778787267180771653:=0
def tw4190311713925731062:=0
def tw787527674274854660:=0
def tw18366721202695111488:=0
def tw13921122628923294719:=0
def tw5905286947574413289:=0
def tw6337713443890597172:=0
def tw8939485117305501957:=0
def tw14639237481336493967:=0
def tw2215496166454336605:=0
def tw17250912240178406716:=0
def tw4520213468680950720:=0
def tw14050698129869525258:=0
def tw10158336275623736203:=0
def tw12280679657130569303:=0
def tw8412283242119140128:=0
def tw688874846632351730:=0
def tw10112420771419729407:=0
def tw9582087359850456495:=0
def tw16756735629156957909:=0
def tw5374606955664723296:=0
def tw6183741488026450974:=0
def tw15588205095233233077:=0
def tw14078645116044926508:=0
def tw7681541826314050604:=0
def tw592467075874626222:=0
def tw13886555343375192851:=0
def tw17112542740825578585:=0
def tw15877951487091939105:=0
def tw4175258194786331229:=0
def tw1524005133238918559:=0
def tw13283503453711509244:=0
def tw10030045036231790362:=0
def tw9711470040948127819:=0
def tw8386617910859450585:=0
def tw18167427246844881695:=0
def tw3760283479024261750:=0
def tw9597278942339295915:=0
def tw8703407867313422419:=0
def tw16472916588937435213:=0
def tw15923608028967281112:=0
def tw12318685703403614474:=0
def tw307999330539363400:=0
def tw16923895863266855850:=0
def tw3400711782672554482:=0
def tw1003149137011667297:=0
def tw5174226388960520170:=0
def tw12486050373300252547:=0
def tw11402974833285460077:=0
def tw7141624208154999189:=0
def tw10753135177541634534:=0
def tw5010497432521878995:=0
def tw5726110170074747193:=0
def tw9803114728891638789:=0
def tw2718285584478994749:=0
def tw16152597676742336084:=0
def tw18059028215923703730:=0
def tw13125263547112173446:=0
def tw779942709315496868:=0
def tw2267757314702565020:=0
def tw13386955181772860724:=0
def tw15472867694328970971:=0
def tw13801227716348152048:=0
def tw6083877750079984151:=0
def tw8271353462625366252:=0
def tw11150490072903442251:=0
def tw1772737834773557021:=0
def tw9579416360768656751:=0
def tw9826546625141217055:=0
def tw14230275996196522006:=0
def tw5170958262818132753:=0
def tw5822436449353180372:=0
def tw10027675449354998160:=0
def tw100798088378390084:=0
def tw15907615452006418787:=0
def tw12543672211948628030:=0
def tw11862118076589711337:=0
def tw15692370232068918642:=0
def tw12266725156936384947:=0
def tw17871124736394266738:=0
def tw2659072476663833792:=0
def tw7999140596706137730:=0
def tw15063333248055694053:=0
def tw18228334858345538506:=0
def tw11946768462935014561:=0
def tw6397855274030963072:=0
def tw11040889805774676696:=0
def tw8221708295127157280:=0
def tw3574387170936441329:=0
def tw1984902579716283286:=0
def tw4224244677098093314:=0
def tw6213527012700526873:=0
def tw8389789286539519038:=0
def tw10933569153174611140:=0
def tw8046835009148069343:=0
def tw5997419971334671823:=0
def tw2767560431810904921:=0
def tw17419498919005568336:=0
def tw11842599192256329686:=0
def tw5966552685120622305:=0
def tw918859620620758905:=0
def tw6561266733053125175:=0
def tw2755113537372302902:=0
def tw17410833354666351251:=0
def tw7932079643575695470:=0
def tw5571704247451501893:=0
def tw15329279102343564121:=0
def tw13801390525527750239:=0
def tw8405495039745342860:=0
def tw15592975627571476468:=0
def tw1744729047450273221:=0
def tw9676900826163330547:=0
def tw12295976438304774567:=0
def tw12142406325865977342:=0
def tw7451852833576886472:=0
def tw18025103202204404123:=0
def tw4603138725126698966:=0
def tw15669449428810770344:=0
def tw3621199119798838764:=0
def tw1626862263513390308:=0
def tw16200512664781546447:=0
def tw8083762859954685763:=0
def tw6871786195331299338:=0
def tw16267289327600288432:=0
def tw865383717961641771:=0
def tw8156058656153023530:=0
def tw17054272909408094977:=0
def tw14320370996805796159:=0
def tw15038175829335665188:=0
def tw10459804482560722591:=0
def tw17794944637469181668:=0
def tw13814925961453674011:=0
def tw10250282241524925770:=0
def tw17086452943708960654:=0
def tw4916794747413300625:=0
def tw545694091170230544:=0
def tw12174880794736873308:=0
def tw6338767469802934988:=0
def tw8197304871997483423:=0
def tw15684369583256266333:=0
def tw17736870672931732487:=0
def tw14767093692687825724:=0
def tw12508157939111785315:=0
def tw5868471191974999324:=0
def tw18154886300135633729:=0
def tw5423630399285905547:=0
def tw9905309056465499203:=0
def tw2339302741944197588:=0
def tw17364153854445751430:=0
def tw3324397886060182399:=0
def tw4622184844143317426:=0
def tw4673674355661221612:=0
def tw663874864441383083:=0
def tw3999551692221560817:=0
def tw17347524983925029797:=0
def tw14358508515638068354:=0
def tw4790876236763424128:=0
def tw14748738399395179780:=0
def tw14262057899353484803:=0
def tw3253009079431714487:=0
def tw10556779322213122599:=0
def tw12556626980593034391:=0
def tw4996744375845929692:=0
def tw4854614600241232282:=0
def tw8384627691495929323:=0
def tw17811459885418963503:=0
def tw3004133718110596237:=0
def tw16571946902289060915:=0
def tw13341459520901514397:=0
def tw10372223938963170680:=0
def tw18198497722935045927:=0
def tw15640997312728440644:=0
def tw8538783234635623263:=0
def tw16484119908903571367:=0
def tw9548098706868647723:=0
def tw156149520175217139:=0
def tw2615724900306367522:=0
def tw15503649878732393277:=0
def tw1339800756775419369:=0
def tw6488823462650155774:=0
def tw9408438521046710718:=0
def tw8511000120112713901:=0
def tw17837685765009922398:=0
def tw3657432456943387068:=0
def tw2639974856218677684:=0
def tw2817057100412788862:=0
def tw5560505710024145231:=0
def tw2168364763308362422:=0
def tw3562690198266446215:=0
def tw3248518227374567338:=0
def tw6047365563440725995:=0
def tw1916459097956072484:=0
def tw11027099917682085862:=0
def tw11947710737887398020:=0
def tw17043298291359783371:=0
def tw11374688868214678212:=0
def tw5226184809074623592:=0
def tw6914595462004973149:=0
def tw16077111964291814735:=0
def tw580893211566620740:=0
def tw8388922687962770720:=0
def tw13129039268555917738:=0
def tw14340446740288317107:=0
def tw11182743537742748127:=0
def tw18294366780566654445:=0
def tw91669134438186925:=0
def tw8589798970158192905:=0
def tw11940383639096623599:=0
def tw16648134937706268778:=0
def tw12902971461651080511:=0
def tw15647223806808119926:=0
def tw12680321045046194154:=0
def tw18101809857932046422:=0
def tw15527354920134424983:=0
def tw15885142485732527479:=0
def tw2612798139559752852:=0
def tw3798184086160737800:=0
def tw17727182371947804315:=0
def tw7522298405516248640:=0
def tw4189817837058066142:=0
def tw12039447747258871975:=0
def tw6728589716699561297:=0
def tw7660669157457225853:=0
def tw14604035597513782624:=0
def tw18210239727384044819:=0
def tw6892704869417354911:=0
def tw5572739267495530028:=0
def tw3949414701339205955:=0
def tw10100761419291335208:=0
def tw13528607096364979331:=0
def tw9169423763728630290:=0
def tw4361216740525674223:=0
def tw12386321794889271764:=0
def tw3061525793939889061:=0
def tw5412731359938907310:=0
def tw75201182070074883:=0
def tw14912787431195292559:=0
def tw17260468763849885766:=0
def tw13544216107996279232:=0
def tw2548765905597629124:=0
def tw6155672485113672935:=0
def tw17002839979251464331:=0
def tw7078482656081952796:=0
def tw17579133096032489793:=0
def tw16509436510223861176:=0
def tw7591010384188692707:=0
def tw6797845994565971972:=0
def tw14012168891128000251:=0
def tw9800307579766259036:=0
def tw12043623347634212221:=0
def tw13588561820411570963:=0
def tw4999732139247144656:=0
def tw694642073802810570:=0
def tw13441299419454870634:=0
def tw10112532522902597213:=0
def tw4857428018390631631:=0
def tw4570569716603781997:=0
def tw8988689811685476287:=0
def tw7917629199457908180:=0
def tw9437761156204692261:=0
def tw2314970905242281209:=0
def tw904113871397063810:=0
def tw9054662325665689622:=0
def tw17530066289364983234:=0
def tw17806377201939316239:=0
def tw464401457136662524:=0
def tw1463621254008839983:=0
def tw2456828797039359063:=0
def tw14459743502021417964:=0
def tw277910453597672830:=0
def tw5096652759602350242:=0
def tw3526395632997387628:=0
def tw1483864528397657997:=0
def tw7318715738153841418:=0
def tw17078115314212131868:=0
def tw12231650839437833206:=0
def tw9452316223650021748:=0
def tw8912673900658571059:=0
def tw17716783065658325425:=0
def tw10278444759952635615:=0
def tw17995487649970216013:=0
def tw5563434280631898639:=0
def tw6560831341857405188:=0
def tw7654539787312603059:=0
def tw2906411361143026621:=0
def tw17634687179499029151:=0
def tw570536188666196964:=0
def tw6455047961046442739:=0
def tw4007702977611917601:=0
def tw582514216201808304:=0
def tw2445328891018983107:=0
def tw9283659368360516404:=0
def tw11510448295517971925:=0
def tw18151841227162984767:=0
def tw4929986449012584819:=0
def tw8241414290369838734:=0
def tw2067323549077388404:=0
def tw1466316994865865727:=0
def tw12098942765511562078:=0
def tw6998213161938522900:=0
def tw4326610084274348958:=0
def tw7550994457270199423:=0
def tw1736146874752168655:=0
def tw5955726635297372163:=0
def tw5059717943422549806:=0
def tw2805262401423216358:=0
def tw13993301158048199439:=0
def tw15493487831443393472:=0
def tw4521313656935879900:=0
def tw7448958730700202012:=0
def tw7264271350526374916:=0
def tw1969032208239417933:=0
def tw9188348782090363411:=0
def tw3420983218328878144:=0
def tw3362710214939488542:=0
def tw18373710971657219128:=0
def tw10601010333593806495:=0
def tw15931482030086905401:=0
def tw8842269932181521606:=0
def tw7378553496403667557:=0
def tw459511253726657811:=0
def tw7069800380616614578:=0
def tw9538854906552997656:=0
def tw6098659767726216361:=0
def tw11897515941300561919:=0
def tw18198888816517795396:=0
def tw15950856522889171842:=0
def tw16838272940492964509:=0
def tw16124503543619060874:=0
def tw816734528976144541:=0
def tw16718718379526124970:=0
def tw14242560256056461168:=0
def tw10008306750005261004:=0
def tw10066683132498034009:=0
def tw11898332335971079515:=0
def tw6970778866998757877:=0
def tw4747768754058777414:=0
def tw7123498627849649531:=0
def tw5247053746619838622:=0
def tw6201339668011388419:=0
def tw2188275223756736854:=0
def tw16123982690064747684:=0
def tw8462886300437884662:=0
def tw8047446833730659992:=0
def tw5727316428074385721:=0
def tw12013260607624027416:=0
def tw15086960929366060980:=0
def tw17027689684337937673:=0
def tw1703405274936547888:=0
def tw12570672764974369437:=0
def tw3881348749417455218:=0
def tw13873384114991516754:=0
def tw15200566140566403525:=0
def tw17850173974805905482:=0
def tw7028730990018180246:=0
def tw6552876503142814833:=0
def tw1824554848002302309:=0
def tw4351482846669877855:=0
def tw15979864177956746166:=0
def tw10448524509423960937:=0
def tw167458290919640474:=0
def tw6509975396172466417:=0
def tw17715639390264956534:=0
def tw5701255106099306050:=0
def tw1091091303178163748:=0
def tw508075586028171355:=0
def tw2818368186030178181:=0
def tw5679581471857087449:=0
def tw2338737941685589406:=0
def tw3000177391843051813:=0
def tw4293394473162420937:=0
def tw15158552974777916586:=0
def tw13471410663960998231:=0
def tw11219020470312370625:=0
def tw10512294984984993137:=0
def tw14176907207384734371:=0
def tw921317336057122304:=0
def tw10802145475942141591:=0
def tw6028266773615531204:=0
def tw4479592329572115768:=0
def tw16659497228760137281:=0
def tw4681019145591326456:=0
def tw13618166362764249593:=0
def tw7878770984980282356:=0
def tw387827332641408909:=0
def tw2580812005349252490:=0
def tw8621317247060433837:=0
def tw4320472122146082050:=0
def tw8330085448033618806:=0
def tw14286331109891190077:=0
def tw12642400775155766327:=0
def tw13520827445979581888:=0
def tw4469125762781307192:=0
def tw891002838783202686:=0
def tw15162926072850965159:=0
def tw1015835421314840547:=0
def tw363084935823045115:=0
def tw4641582201713315045:=0
def tw5994684331937527369:=0
def tw12573346877448769170:=0
def tw4725929788801361432:=0
def tw3193033804058433642:=0
def tw17760976073967452093:=0
def tw5527007624980673823:=0
def tw3004425059709038798:=0
def tw10523096160501485240:=0
def tw16036781868990451057:=0
def tw2371096712172120119:=0
def tw12290359231426205268:=0
def tw4068944919111353596:=0
def tw12098585196044787596:=0
def tw16307601099808194058:=0
def tw5945974089522883900:=0
def tw9943447503058563146:=0
def tw17249633076457077688:=0
def tw14410754344454446675:=0
def tw5156755168053986824:=0
def tw13032363166590408091:=0
def tw9621318698641968021:=0
def tw9583891939944680207:=0
def tw5196571294324148231:=0
def tw3967614042749497994:=0
def tw6274999848731035244:=0
def tw9693927262274845679:=0
def tw7389648556133542603:=0
def tw10686885503460674277:=0
def tw847313969998217118:=0
def tw1617080565462713869:=0
def tw848239939558556783:=0
def tw6055888479169201355:=0
def tw4716010135325677215:=0
def tw4994165712736455737:=0
def tw7837726169097371360:=0
def tw11784968669742351399:=0
def tw8500148338790919411:=0
def tw5659045528833179970:=0
def tw3444120816966035124:=0
def tw12897999774961528697:=0
def tw3666164404416966546:=0
def tw11507553843131028154:=0
def tw12726062070055045554:=0
def tw6468347119788196296:=0
def tw3111434803037931979:=0
def tw7846696577272434524:=0
def tw8162471356493224114:=0
def tw5105101979040554145:=0
def tw13797597059912455681:=0
def tw7346845486541174555:=0
def tw2810738922951890913:=0
def tw17591334716521158057:=0
def tw6815142648354499339:=0
def tw12281327414900869528:=0
def tw10129147000763743623:=0
def tw17894273356272673395:=0
def tw9714933536607092876:=0
def tw2203222640345167141:=0
def tw320424620841066448:=0
def tw10004492297301628502:=0
def tw3245945380238426713:=0
def tw12594488240037905245:=0
def tw4756286275375306377:=0
def tw14726202185129308621:=0
def tw3473390170391611746:=0
def tw9231317475302567606:=0
def tw3713199337739589195:=0
def tw8357224964843339691:=0
def tw10953808662954112860:=0
def tw6771092188161812869:=0
def tw11702609862152744402:=0
def tw17892211389895572022:=0
def tw15041709281646791633:=0
def tw14591530160086093369:=0
def tw9954726010325826161:=0
def tw7446499572085334658:=0
def tw182808291194091155:=0
def tw3735632711852036394:=0
def tw8615362643284489445:=0
def tw14406599974565239766:=0
def tw14306685698001382889:=0
def tw399178502347227471:=0
def tw14748629417386118103:=0
def tw12233575507938454776:=0
def tw9833077695379936569:=0
def tw16055892861650129573:=0
def tw14333587435439405887:=0
def tw12615686369584142623:=0
def tw910581422850064623:=0
def tw12054435875594549233:=0
def tw13519223870425673645:=0
def tw3167699181428549264:=0
def tw12558306636185774339:=0
def tw9540936698529228801:=0
def tw576437894364537234:=0
def tw167227094588277130:=0
def tw16458165087540219119:=0
def tw8581601229135160683:=0
def tw7451914778677147680:=0
def tw2401516932082720151:=0
def tw1327415967910556768:=0
def tw4684317719430989086:=0
def tw500264313278707665:=0
def tw8158073586244320848:=0
def tw8107812869155963119:=0
def tw3544379311049912519:=0
def tw14078468628056549199:=0
def tw12132233692589687852:=0
def tw2337358290234106804:=0
def tw12375976595136397634:=0
def tw452480869414430431:=0
def tw13111808831187420105:=0
def tw12827554897745527710:=0
def tw8707733267729907353:=0
def tw6294919561818538912:=0
end PySem.W.Fast
theorem KR.absorb{G P:Prop}(_ _:G)(m:P):P:=m
open PySem PySem.W PyProof.Rows
set_option maxRecDepth 100000 in
set_option maxHeartbeats 0 in
noncomputable def KR.GG:{G:Prop // G→PySem.Challenge.rw_keyrise_k42_whole_any_signs.Holds}:=⟨_,fun hG=>by
 refine KR.absorb hG ?hc ?main
 case main =>
  w_on;o_law;k_head
  case hw=>w_witness2
 case hc=>exact hG⟩
end KRGG
section
open Option renaming some → J,none → aw
open PySem renaming Addr → ae,Str → af,Value → ao,Shared → aJ,Heap → bc,Stmt → br,Obj → bw,wpAny_bind → bH,wpAny → bM,sizeLine → bY,Expr → b5,World → cH,Program → c1,Builtin → c6,Around → di,starEach → dt,wpAny_pure → dD,mainGlobals → eo,FuncData → fG,compareOp → h0,wpAny_field → ja,PassesOwn → jC,wpAny_mono → jD,NameKind → jZ,bootBuiltins → kg,binaryOp → kE,codeAny → k3,codeAny_mono → mi,wpAny_call → qc,keywordEach → rl,wpAny_Call_Name_kw → rm,wpAny_seqItems → s6,wpAny_setField → s7,wpAny_passesOwn → vb,wpAny_loadPart_at → xA,wpAny_setField_rec → xB,wpAny_truthy_bool → xC,codeAny_call_builtin → z8,wpAny_getItem_str_slice → D3
open Bool renaming false → ag,true → ah
open PySem.W renaming kitOne → dn,findIn → d4,nsIn → fy,mroIn → kf,keepIn → kD,fnOf → lE,emptyDict → mY,instObj → mZ,kia_one → qb,typeIn → rk,takerIn → s5,codeIn → u9,hasDictIn → va,callWith_K → xy,makesIn → z6,methodCall_KW → z7,plainGet → D2,isClsIn → Kf,isFn → Kg,lookIn → Kh,specialIn → Ki
theorem I{α:Sort _}{a:α}:a=a:=rfl
local macro_rules | `(tactic| omega) => `(tactic| first | with_reducible assumption | with_reducible exact Nat.le_of_succ_le_succ (by assumption) | with_reducible exact Nat.le_of_lt_succ (by assumption) | with_reducible exact Nat.le_of_lt (by assumption) | lia | omega (config := {}))
abbrev bN:=@PySem.W.Frag
abbrev gX:=@Option.some.inj
abbrev gd:=@PySem.W.mg_of
abbrev kK:=@PySem.W.mg_none_of
abbrev nf:=@List.mem_append_right
abbrev Uf:=@Option.map_eq_some_iff
abbrev pw:=@Bool.and_eq_true_iff
abbrev ea:=@Ne.symm
abbrev dR:=@List.getElem?_eq_getElem
abbrev cC:=@List.length_map
abbrev fu:=@List.getD_eq_getElem?_getD
abbrev fD:=@List.mem_cons_of_mem
abbrev dz:=@List.mem_cons
abbrev cD:=@List.length_append
abbrev cE:=@Nat.le_refl
abbrev dZ:=@List.length_cons
abbrev gf:=@List.getElem?_map
abbrev er:=@PySem.Heap.get?_push_of_some
abbrev d6:=@decide_eq_true
abbrev fW:=@List.size_toArray
abbrev kl:=@List.mem_of_getElem?
abbrev km:=@List.getElem?_eq_some_iff
abbrev hM:=@List.mem_cons_self
abbrev fB:=@Nat.lt_of_lt_of_le
abbrev gu:=@decide_eq_false
abbrev eE:=@Nat.le_trans
abbrev fU:=@List.mem_singleton
abbrev fk:=@List.map_append
abbrev UF:=@Nat.zero_le
abbrev ha:=@PySem.Heap.get?_push_size
abbrev e2:=@List.append_assoc
abbrev hI:=@Bool.false_ne_true
abbrev lQ:=@of_decide_eq_true
abbrev hJ:=@Int.emod_lt_of_pos
abbrev d9:=@PySem.Heap.lt_size
abbrev h5:=@Array.length_toList
abbrev hK:=@Bool.and_eq_true
abbrev hu:=@Int.emod_nonneg
abbrev je:=@List.map_cons
abbrev hL:=@List.length_singleton
abbrev fC:=@Nat.ne_of_lt
abbrev hb:=@List.length_take
abbrev tD:=@List.idxOf_lt_length_of_mem
abbrev iL:=@List.map_map
abbrev UV:=@List.take_of_length_le
abbrev jJ:=@decide_eq_true_eq
abbrev oi:=@List.take_add_one
abbrev AY:=@List.drop_eq_getElem_cons
abbrev j4:=@Nat.lt_or_ge
abbrev kn:=@List.length_drop
abbrev mu:=@List.length_range
abbrev ko:=@List.getElem_map
abbrev ng:=@List.cons_ne_nil
abbrev jf:=@List.all_eq_true
abbrev nh:=@List.flatten_cons
abbrev qt:=@List.map_congr_left
abbrev AZ:=@List.getElem?_eq_none
set_option Elab.async false
set_option linter.all false
set_option maxRecDepth 100000
open PySem
variable {us bq:List ao} {a it f C:ae} {P prog:c1} {w:cH} {h base:bc} {g':Array GenState} {t' i j k n:Nat} {d':Drawn} {ch bQ:List ae} {M:Model} {A:di} {E Q:ao->aJ->Prop} {u doc pm bh ct iE:ao} {aF s:aJ} {α:Type} {aR pos':Pos} {ak:List (ae×bw)} {K:bN} {aZ:List b5} {eB iter:b5} {body:List br} {lo:Int} {op:CmpOp} {fc mg:af->Option ao} {expr:Bool} {ns ps:List af} {kw:List (af×ao)} {env:Env} {fd:fG} {outer:List Env} {sc cX:Scope} {dJ:af} {an od:Option ae} {mS:Array (Option ao)}
namespace dT
open PySem PySem.Spec PyProof.Rows
noncomputable abbrev Key:=Sum Int af
noncomputable def PG:Key->ao->Bool
 |.inl k,v=>ao.isInt k v
 |.inr x,v=>ao.isStrOf x v
noncomputable def ae0(w:cH):Key->Int
 |.inl k=>hashInt k
 |.inr x=>hashStr w x
theorem qw:∀{k:Key}{v:ao},PG k v=ah->(∃i t,k=Sum.inl i/\v=ao.int i t)\/(∃x t,k=Sum.inr x/\v=ao.str x t)
 |.inl i,v,h=>by
  obtain⟨t,e⟩:=ao.isInt_shape (k:=i) (v:=v) h
  exact .inl ⟨i,t,I,e⟩
 |.inr x,v,h=>by
  obtain⟨t,e⟩:=ao.isStrOf_shape (x:=x) (v:=v) h
  exact .inr ⟨x,t,I,e⟩
theorem VU(a b:Int):decide ((Sum.inl a:Key)=Sum.inl b)=(a == b):=by
 by_cases e:a=b
 .subst e;simp
 ·have h:¬(Sum.inl a:Key)=Sum.inl b:=fun q=>e (Sum.inl.inj q)
  rw[gu h]
  exact(beq_eq_false_iff_ne.mpr e).symm
theorem VR(a b:af):decide ((Sum.inr a:Key)=Sum.inr b)=decide (a=b):=by
 by_cases e:a=b
 .subst e;simp
 ·have h:¬(Sum.inr a:Key)=Sum.inr b:=fun q=>e (Sum.inr.inj q)
  rw[gu h,gu e]
theorem VT(a:Int)(b:af):decide ((Sum.inl a:Key)=Sum.inr b)=ag:=gu (fun q=>nomatch q)
theorem VS(a:af)(b:Int):decide ((Sum.inr a:Key)=Sum.inl b)=ag:=gu (fun q=>nomatch q)
noncomputable def PR(prog:c1)(w:cH):PySem.KeyKind prog w Key where
 is:=PG
 hash:=ae0 w
 inj:=fun v a b bf ar=>by
  rcases qw bf with⟨i,t,rfl,rfl⟩|⟨x,t,rfl,rfl⟩
  ·rcases qw ar with⟨j,u,rfl,e⟩|⟨y,u,rfl,e⟩
   .injection e with aI _;rw[aI]
   .exact nomatch e
  ·rcases qw ar with⟨j,u,rfl,e⟩|⟨y,u,rfl,e⟩
   .exact nomatch e
   .injection e with aI _;rw[aI]
 byValue:=fun k v h=>by
  rcases qw h with⟨i,t,rfl,rfl⟩|⟨x,t,rfl,rfl⟩<;>rfl
 pyHash:=fun bg h=>by
  rcases qw bg with⟨i,t,rfl,rfl⟩|⟨x,t,rfl,rfl⟩
  .exact wpAny_pyHash_int h
  .exact wpAny_pyHash_str h
 eqBool:=fun dY bg h=>by
  rcases qw dY with⟨i,t,rfl,rfl⟩|⟨x,t,rfl,rfl⟩
  ·rcases qw bg with⟨j,u,rfl,rfl⟩|⟨y,u,rfl,rfl⟩
   .rw[VU]at h;exact wpAny_eqBool_int h
   .rw[VT]at h;exact SeqAt.EqAt.int_str i t y u _ _ _ _ h
  ·rcases qw bg with⟨j,u,rfl,rfl⟩|⟨y,u,rfl,rfl⟩
   .rw[VS]at h;exact SeqAt.EqAt.str_int x t j u _ _ _ _ h
   .rw[VR]at h;exact wpAny_eqBool_str h
 «strs» := fun k x t v h=>by
  rcases qw h with⟨i,u,rfl,e⟩|⟨y,u,rfl,e⟩
  .exact nomatch e
  ·injection e with aI _
   subst aI
   cases v<;>rfl
inductive V where
 |bK|aN (b:Bool)|int (i:Int)|str (x:af)|kN (b:Array UInt8)|ud (b:UInt64)|ref (a:ae)|ty (n:String)
 deriving DecidableEq
noncomputable def RelV:V->ao->Prop
 |.bK,u=>u=ao.none
 |.aN b,u=>u=ao.bool b
 |.int i,u=>∃t,u=ao.int i t
 |.str x,u=>∃t,u=ao.str x t
 |.kN b,u=>∃t,u=ao.bytes b t
 |.ud b,u=>∃t,u=ao.float b t
 |.ref a,u=>u=ao.ref a
 |.ty n,u=>u=ao.type n
noncomputable abbrev Vals:List V->List ao->Prop:=Paired RelV
theorem Vals.length{xs:List V}(r:Vals xs us):xs.length=us.length:=Paired.length r
theorem Vals.get:∀{xs:List V}{us:List ao}{i:Nat}{x:V},Vals xs us->xs[i]?=J x->∃u,us[i]?=J u/\RelV x u
 |_,_,_,_,.nil,e=>by simp at e
 |_,_,0,_,.cons r _,e=>by simp at e;subst e;exact⟨_,I,r⟩
 |_,_,i+1,x,.cons _ t,e=>by
  obtain⟨u,aj,aq⟩:=Vals.get (i:=i) (x:=x) t (by simpa using e)
  exact⟨u,by simpa using aj,aq⟩
theorem Vals.set{x:V}{u:ao}(r:RelV x u):∀{xs:List V}{us:List ao}(i:Nat),Vals xs us->Vals (xs.set i x) (us.set i u)
 |_,_,_,.nil =>.nil
 |_,_,0,.cons _ t =>.cons r t
 |_,_,i+1,.cons q t =>.cons q (Vals.set r i t)
theorem Vals.append:∀{xs bb:List V}{us ws:List ao},Vals xs us->Vals bb ws->Vals (xs++bb) (us++ws)
 |_,_,_,_,.nil,s=>s
 |_,_,_,_,.cons r t,s =>.cons r (Vals.append t s)
theorem Vals.take:∀{xs:List V}{us:List ao}(n:Nat),Vals xs us->Vals (xs.take n) (us.take n)
 |_,_,0,_ =>.nil
 |_,_,_+1,.nil =>.nil
 |_,_,n+1,.cons r t =>.cons r (Vals.take n t)
theorem Vals.drop:∀{xs:List V}{us:List ao}(n:Nat),Vals xs us->Vals (xs.drop n) (us.drop n)
 |_,_,0,r=>r
 |_,_,_+1,.nil =>.nil
 |_,_,n+1,.cons _ t=>Vals.drop n t
noncomputable def ob:Option V->Option ao->Prop
 |some v,J u=>RelV v u
 |none,aw=>True
 |_,_=>False
noncomputable def Ew{u6:Type}:List (u6×V)->List (u6×ao)->Prop:=Paired fun(p:u6×V)(q:u6×ao)=>p.1=q.1/\RelV p.2 q.2
noncomputable def gm:Key->V
 |.inl i =>.int i
 |.inr x =>.str x
inductive c2 where
  |lst (xs:List V)
  |tup (xs:List V)
  |mA (fZ:List (Key×V))|pI (fZ:List (List Key×V))
  |set (S:Int->Bool) (n:Nat)
  |ins (C al:ae) (fs:List (af×V))
  |own (x:ae)
  |i9 (fs:List (af×V))
  |met (f x:ae)
  |zG (lo aC:Int)
  |i1 (o:bw) (u:c2)
  |rg (ps:Array ao)
  |ext (u7:bc->Prop)
noncomputable abbrev au:=ae->Option c2
noncomputable def upd(H:au)(a:ae)(o:c2):au:=fun b=>if b=a then J o else H b
variable {H:au}
theorem aQ{o:c2}:upd H a o a=J o:=by unfold upd;rw[if_pos rfl]
theorem bO{b:ae}{o:c2}(h:b≠a):upd H a o b=H b:=by unfold upd;rw[if_neg h]
theorem eN{b:ae}{o:c2}(h:H a=J o)(h':H b=aw):a≠b:=by
 intro e;subst e;rw[h]at h';cases h'
section
variable (P:c1) (w:cH)
noncomputable def gs(H:au)(h:bc)(a:ae):c2->Prop
 |.lst xs=>xs.length<=bY/\∃(bq:List ao)(n:Nat),Vals xs bq/\h.get? a=J {cls :=.type "list",data :=.seq bq.toArray n}
 |.tup xs=>xs.length<=bY/\∃bq:List ao,Vals xs bq/\IsTup h a bq.toArray
 |.mA fZ=>fZ.length<=bY/\(a == sysModules)=ag/\∃vs,Ew fZ vs/\h.DictOf (PR P w) a vs
 |.pI _=>False
 |.set S n=>h.SetOf (intKind P w) a S n
 | .ins C al fs=>H al=J (.own a)/\fs.length<=1000/\al≠a/\h.get? a=J (mZ C al)/\
   ∃fc,h.Ns1 al fc/\(∀f,ob (fs.lookup f) (fc f))/\PySem.Within fc (fs.map (·.1))
 |.own _=>∃o,h.get? a=J o
 |.i9 fs=>∃fc,h.Ns1 a fc/\∀f,ob (fs.lookup f) (fc f)
 |.zG lo aC=>∃t u v,h.get? a=J {cls :=.type "range",data :=.fields #[.int lo t,.int aC u,.int 1 v]}
 |.i1 o u=>h.get? a=J o/\gs H h a u
 |.rg ps=>h.get? a=J {cls :=.none,data :=.fields ps}
 |.met f x=>h.get? a=J (PySem.W.methodObj (.ref f) (.ref x))
 |.ext u7=>u7 h/\(∃o,h.get? a=J o)/\∀aj aq:bc,u7 aj->(∀o,aj.get? a=J o->aq.get? a=J o)->u7 aq
def fA(H:au)(h:bc):Prop:=∀a o,H a=J o->gs P w H h a o
end
section
variable {P:c1} {w:cH} {H H':au} {h h':bc} {a:ae} {o:c2}
theorem gs.lt(x:gs P w H h a o):a<h.objs.size:=by
 cases o with
 |lst xs=>obtain⟨_,_,_,_,e⟩:=x;exact d9 e
 |tup xs=>obtain⟨_,_,_,p⟩:=x;exact p.lt
 |mA fZ=>obtain⟨_,_,_,_,o,_,_,e,_⟩:=x;exact d9 e
 |pI fZ=>exact(show False from x).elim
 |set S n=>obtain⟨o,_,_,_,e,_⟩:=x;exact d9 e
 |ins C al fs=>obtain⟨_,_,_,e,_⟩:=x;exact d9 e
 |own y=>obtain⟨_,e⟩:=x;exact d9 e
 |i9 fs=>obtain⟨_,⟨_,_,_,e,_⟩,_⟩:=x;exact d9 e
 |zG lo aC=>obtain⟨_,_,_,e⟩:=x;exact d9 e
 |i1 dN u=>obtain⟨e,_⟩:=x;exact d9 e
 |rg ps=>exact d9 (show h.get? a=J _ from x)
 |met f y=>exact d9 (show h.get? a=J _ from x)
 |ext u7=>obtain⟨_,⟨_,e⟩,_⟩:=x;exact d9 e
theorem gs.mW(x:gs P w H h a o)(k:∀b u,(b=a\/H b=J (.own a))->h.get? b=J u->h'.get? b=J u)
  (aK:∀b,H b=J (.own a)->H' b=J (.own a)) (aT:∀b xs,H b=J (.tup xs)->H' b=J (.tup xs)):gs P w H' h' a o:=by
 induction o with
 |lst xs=>obtain⟨z,bq,n,r,e⟩:=x;exact⟨z,bq,n,r,k _ _ (.inl I) e⟩
 |tup xs=>obtain⟨z,bq,r,dN,e,c⟩:=x;exact⟨z,bq,r,dN,k _ _ (.inl I) e,c⟩
 |mA fZ=>obtain⟨z,y,vs,r,dN,aZ,fE,e,c⟩:=x;exact⟨z,y,vs,r,dN,aZ,fE,k _ _ (.inl I) e,c⟩
 |pI fZ=>exact(show False from x).elim
 |set S n=>obtain⟨dN,aZ,fE,t,e,c⟩:=x;exact⟨dN,aZ,fE,t,k _ _ (.inl I) e,c⟩
 |ins C al fs =>
  obtain⟨d,z,ne,e,fc,⟨od,aZ,fE,aL,c⟩,r⟩:=x
  exact⟨aK _ d,z,ne,k _ _ (.inl I) e,fc,⟨od,aZ,fE,k _ _ (.inr d) aL,c⟩,r⟩
 |own y=>obtain⟨dN,e⟩:=x;exact⟨dN,k _ _ (.inl I) e⟩
 |i9 fs=>obtain⟨fc,⟨od,aZ,fE,e,c⟩,r⟩:=x;exact⟨fc,⟨od,aZ,fE,k _ _ (.inl I) e,c⟩,r⟩
 |zG lo aC=>obtain⟨t,u,v,e⟩:=x;exact⟨t,u,v,k _ _ (.inl I) e⟩
 |i1 dN u cM=>obtain⟨e,q⟩:=x;exact⟨k _ _ (.inl I) e,cM q⟩
 |rg ps =>
  have e:h.get? a=J {cls :=.none,data :=.fields ps}:=x
  show h'.get? a=J {cls :=.none,data :=.fields ps}
  exact k a _ (.inl I) e
 |met f y =>
  have e:h.get? a=J (PySem.W.methodObj (.ref f) (.ref y)):=x
  show h'.get? a=J (PySem.W.methodObj (.ref f) (.ref y))
  exact k a _ (.inl I) e
 |ext u7=>obtain⟨p,⟨o,e⟩,st⟩:=x;exact⟨st _ _ p fun o q=>k _ _ (.inl I) q,⟨o,k _ _ (.inl I) e⟩,st⟩
theorem fA.lt(x:fA P w H h)(e:H a=J o):a<h.objs.size:=(x a o e).lt
theorem fA.fresh(x:fA P w H h)(e:h.objs.size<=a):H a=aw:=by
 cases q:H a with
 |none=>rfl
 |some u=>exact absurd (fB (x.lt q) e) (Nat.lt_irrefl _)
theorem fA.kept(x:fA P w H h)(k:∀b u,h.get? b=J u->h'.get? b=J u):fA P w H h':=fun a o e =>
 (x a o e).mW (fun b u _ q=>k b u q) (fun _ q=>q) fun _ _ q=>q
theorem fA.laid(x:fA P w H h)(k:∀b u,h.get? b=J u->h'.get? b=J u)(bj:h.objs.size<=a)(new:gs P w (upd H a o) h' a o):fA P w (upd H a o) h':=fun b u e=>by
 have bo:=x.fresh bj
 by_cases ar:b=a
 .subst ar;rw[aQ]at e;cases e;exact new
 ·rw[bO ar]at e
  exact(x b u e).mW (fun c v _ q=>k c v q) (fun c q=>by rw[bO (eN q bo)];exact q) fun c xs q=>by rw[bO (eN q bo)];exact q
end
def AQ(H:au)(a:ae)(u:c2):Prop:=H a=J u\/∃o,H a=J (.i1 o u)
theorem AQ.ok{u:c2}(r:AQ H a u)(x:fA P w H h):gs P w H h a u:=by
 rcases r with r|⟨o,r⟩
 .exact x a u r
 ·obtain⟨_,q⟩:=x a _ r
  exact q
noncomputable def Ax:Option c2->Prop
 |some (.lst _)=>True
 |some (.mA _)=>True
 |some (.pI _)=>True
 |some (.set _ _)=>True
 |some (.ins _ _ _)=>True
 |some (.ext _)=>True
 |_=>False
section
variable {P:c1} {w:cH} {H:au} {h h':bc} {x e:ae} {ee:c2}
theorem fA.write(ok:fA P w H h)(nH:Ax (H x))(he:e=x\/H e=J (.own x))(k:∀b u,b≠e->h.get? b=J u->h'.get? b=J u)(wV:∃u,h'.get? e=J u)
  (new:gs P w (upd H x ee) h' x ee):fA P w (upd H x ee) h':=fun b u q=>by
 have PZ:∀c y,H c=J (.own y)->c≠x:=fun c y r z=>by subst z;rw[r]at nH;exact nH
 have agv:∀c xs,H c=J (.tup xs)->c≠x:=fun c xs r z=>by subst z;rw[r]at nH;exact nH
 by_cases ar:b=x
 .subst ar;rw[aQ]at q;cases q;exact new
 ·rw[bO ar]at q
  by_cases mE:b=e
  ·have iV:H b=J (.own x):=by
    rcases he with z|z
    .exact absurd (mE.trans z) ar
    .rw[mE];exact z
   rw[q]at iV;cases iV
   obtain⟨v,bg⟩:=wV
   exact⟨v,by rw[mE];exact bg⟩
  ·refine(ok b u q).mW (fun c v hc r=>k c v ?_ r) (fun c r=>by rw[bO (PZ c b r)];exact r) fun c xs r=>by rw[bO (agv c xs r)];exact r
   rcases hc with rfl|hc
   .exact mE
   ·rintro rfl
    rcases he with z|z
    .exact PZ c b hc z
    .rw[hc]at z;cases z;exact ar I
end
structure fV(fs ex:List ae)(H H':au)(h h':bc):Prop where
 keep:∀b o,h.get? b=J o->H b=aw->b∉fs->b∉ex->h'.get? b=J o
 slot:∀b o,h.get? b=J o->H b=aw->b∈fs->b∉ex->∃df,h'.get? b=J {o with slots:=df}
 free:∀b o,h.get? b=J o->H b=aw->b∉ex->H' b=aw
 there:∀b o,h.get? b=J o->b∉ex->∃ee,h'.get? b=J ee
 mf:∀b xs,H b=J (.tup xs)->H' b=J (.tup xs)
 lq:∀b o u,H b=J (.i1 o u)->H' b=J (.i1 o u)
 me:∀b ps,H b=J (.rg ps)->∃more,H' b=J (.rg (ps++more))
section
variable {fs uf ex rW:List ae} {H H1 ax:au} {h aj aq h':bc} {a x e:ae} {o:c2}
theorem fV.any(u:fV fs ex H H1 h aj){b:ae}{dN:bw}(q:h.get? b=J dN)(n:H b=aw)(ay:b∉ex):∃df,aj.get? b=J {dN with slots:=df}:=by
 by_cases ar:b∈fs
 .exact u.slot b dN q n ar ay
 .exact⟨dN.slots,u.keep b dN q n ar ay⟩
theorem fV.kept(k:∀b u,h.get? b=J u->h'.get? b=J u):fV fs ex H H h h' :=
 ⟨fun b dN q _ _ _=>k b dN q,fun b dN q _ _ _=>⟨dN.slots,k b dN q⟩,fun _ _ _ n _=>n,fun b dN q _=>⟨dN,k b dN q⟩,fun _ _ q=>q,fun _ _ _ q=>q,fun _ ps q=>⟨#[],by rw[q];simp⟩⟩
theorem fV.refl:fV fs ex H H h h:=fV.kept fun _ _ q=>q
theorem fV.laid(k:∀b u,h.get? b=J u->h'.get? b=J u)(bj:h.objs.size<=a)(bo:H a=aw):fV fs ex H (upd H a o) h h' where
 keep:=fun b u q _ _ _=>k b u q
 slot:=fun b u q _ _ _=>⟨u.slots,k b u q⟩
 free:=fun b u q n _=>by rw[bO (fC (fB (d9 q) bj))];exact n
 there:=fun b u q _=>⟨u,k b u q⟩
 mf:=fun b xs q=>by rw[bO (eN q bo)];exact q
 lq:=fun b u xs q=>by rw[bO (eN q bo)];exact q
 me:=fun b ps q=>⟨#[],by rw[bO (eN q bo),q];simp⟩
theorem fV.write(nH:Ax (H x))(he:e=x\/H e=J (.own x))(k:∀b u,b≠e->h.get? b=J u->h'.get? b=J u)(wV:∃u,h'.get? e=J u):fV fs ex H (upd H x o) h h':=by
 have ay:∀b,H b=aw->b≠x:=fun b n z=>by subst z;rw[n]at nH;exact nH
 have ar:∀b,H b=aw->b≠e:=fun b n z=>by
  subst z
  rcases he with r|r
  .exact ay b n r
  .rw[n]at r;cases r
 have hm:∀b u,H b=J u->¬Ax (J u)->b≠x:=fun b u q nm z=>by subst z;rw[q]at nH;exact nm nH
 refine⟨fun b u q n _ _=>k b u (ar b n) q,fun b u q n _ _=>⟨u.slots,k b u (ar b n) q⟩,fun b u q n _=>by rw[bO (ay b n)];exact n,fun b u q _=>?_,
  fun b xs q=>by rw[bO (hm b _ q fun z=>z)];exact q,fun b u xs q=>by rw[bO (hm b _ q fun z=>z)];exact q,fun b ps q=>⟨#[],by rw[bO (hm b _ q fun z=>z),q];simp⟩⟩
 by_cases mE:b=e
 .subst mE;exact wV
 .exact⟨u,k b u mE q⟩
end
noncomputable def DO(h:bc)(H:au):List ae:=(List.range h.objs.size).filter fun a=>(H a).isSome
noncomputable def qV(h:bc)(H:au):bc:=PySem.W.hideAll h (DO h H)
theorem Z0(h:bc)(H:au):(qV h H).objs.size=h.objs.size:=PySem.W.hideAll_size _ _
variable {o:bw}
theorem T9{b:ae}(e:h.get? b=J o)(n:H b=aw):(qV h H).get? b=J o :=
 PySem.W.hideAll_get _ e fun hm=>by
  have q:(H b).isSome=ah:=(List.mem_filter.mp hm).2
  rw[n]at q;simp at q
theorem U7{b:ae}(e:(qV h H).get? b=J o):h.get? b=J o/\H b=aw:=by
 have e':h.get? b=J o:=PySem.W.of_hideAll (DO h H) e
 refine⟨e',?_⟩
 cases q:H b with
 |none=>rfl
 |some x =>
  have hm:b∈DO h H:=List.mem_filter.mpr ⟨List.mem_range.mpr (d9 e'),by simp[q]⟩
  have z:(qV h H).get? b=aw:=PySem.W.hideAll_none (DO h H) hm
  rw[z]at e;cases e
noncomputable def aaW(g h:bc)(L:ae):List (ae×bw):=(List.range h.objs.size).filterMap fun a=>if a=L\/(g.get? a).isSome=ah then aw else(h.get? a).map fun o=>(a,o)
noncomputable def rest(g h:bc)(L d:ae):List (ae×bw):=(aaW g h L).filter fun p=>decide (p.1≠d)
structure Mod(K:bN)(mg:af->Option ao)(base:bc):Prop where
 q4:K.In base
 glob:base.Ns eo mg
 blt:∃nG,base.Ns builtinsNs nG/\∀x:af,x≠"__name__"->nG x=kg x
 nolimit:base.NoLimit
structure bz where
 prog:c1
 w:cH
 K:bN
 mg:af->Option ao
 base:bc
 A:di
 N:List af
 dm:aJ
 hi:au
 env:Env
 outer:List Env
 stack:List Env
 ex:List ae
 fn:af->Bool
 calm:Bool
 pn:List (ae×bw)
 xe:ao->aJ->Prop
noncomputable def iS(l:List Env):List ae:=l.filterMap (·.frame)
noncomputable abbrev bz.fs(X:bz):List ae:=iS X.outer
def A0(sc:Scope)(x:af):Prop:=sc.names.lookup x=J .local\/sc.names.lookup x=J .cell\/sc.names.lookup x=J .free
def Loc(sc:Scope)(x:af):Prop:=sc.names.lookup x=J .local\/sc.names.lookup x=J .cell
def Look(env:Env)(h:bc)(m:af->Option ao)(x:af)(u:ao):Prop :=
 (env.kindOf x=J .local/\m x=J u)\/((env.kindOf x=J .cell\/env.kindOf x=J .free)/\∃c,env.cells.lookup x=J c/\h.IsCell c (J u))
structure bz.Ok(X:bz):Prop where
 mod:Mod X.K X.mg X.base
 kind:X.env.scope.kind=.function
 glob:X.env.globals=eo
 blt:X.env.builtins=builtinsNs
 above:X.dm.heap.objs.size<=X.env.locals
 inj:∀x y c,X.env.cells.lookup x=J c->X.env.cells.lookup y=J c->x=y
 has:∀x,(X.env.kindOf x=J .cell\/X.env.kindOf x=J .free)->∃c,X.env.cells.lookup x=J c
 t6:∀x c,X.fn x=ah->X.env.cells.lookup x=J c->X.dm.heap.objs.size<=c
 hd:X.calm=ah->X.A.handled=aw
 frames:X.A.frames=J X.stack
 xn:X.stack=X.outer\/(X.stack=X.env::X.outer/\X.env.frame=J X.env.locals)
 Cr:∀b∈X.ex,b≠X.env.locals/\∀x c,X.env.cells.lookup x=J c->c≠b
 bs:∀b o,X.base.get? b=J o->X.dm.heap.get? b=J o/\X.hi b=aw
 ou:X.base.objs.size<=X.dm.heap.objs.size
 uK:∀b o,X.base.get? b=J o->b∉X.ex
 wx:∀b∈X.ex,b∉X.fs
 l1:X.dm.heap.FunFrames X.base X.outer
 qG:∀b∈X.fs,X.hi b=aw
structure Inv(X:bz)(ak:List (ae×bw))(ab:List (Option V))(H:au)(s:aJ):Prop where
 ok:X.Ok
 os:s.os=X.dm.os
 bare:AllBare s.gens
 base:fV X.fs X.ex X.hi H X.dm.heap s.heap
 loc:∃m,s.heap.Ns X.env.locals m/\∀(i:Nat)(x:af)(v:V),X.N[i]?=J x->ab[i]?=J (J v)->A0 X.env.scope x->∃u,RelV v u/\Look X.env s.heap m x u
 cell:∀x c,X.env.cells.lookup x=J c->∃v,s.heap.IsCell c v
 free:H X.env.locals=aw
 kx:∀x c,X.env.cells.lookup x=J c->H c=aw
 pin:∀p∈X.pn++ak,s.heap.get? p.1=J p.2/\H p.1=aw/\p.1≠X.env.locals/\p.1∉X.fs/\∀v,p.2.data≠.cell v
 aP:fA X.prog X.w H s.heap
 len:ab.length=X.N.length
variable {N:List af} {v:V} {Q:Unit->aJ->Prop}
section
variable {X:bz} {ak:List (ae×bw)} {ab:List (Option V)} {H H':au} {s:aJ} {h':bc}
theorem bz.Ok.agn(ok:X.Ok){b:ae}(e:X.base.get? b=J o):b∉X.fs:=fun ar=>by
 have:=(ok.l1.mem ar).1
 rw[e]at this;cases this
theorem Inv.bs(aa:Inv X ak ab H s):∀b o,X.base.get? b=J o->s.heap.get? b=J o/\H b=aw:=fun b o e =>
 ⟨aa.base.keep b o (aa.ok.bs b o e).1 (aa.ok.bs b o e).2 (aa.ok.agn e) (aa.ok.uK b o e),aa.base.free b o (aa.ok.bs b o e).1 (aa.ok.bs b o e).2 (aa.ok.uK b o e)⟩
theorem Inv.bk(aa:Inv X ak ab H s):∀b o,X.base.get? b=J o->s.heap.get? b=J o:=fun b o e=>(aa.bs b o e).1
theorem Inv.mod(aa:Inv X ak ab H s):Mod X.K X.mg X.base:=aa.ok.mod
theorem Inv.eI(aa:Inv X ak ab H s):X.K.In s.heap:=aa.ok.mod.q4.keeps aa.bk
theorem Inv.lt(aa:Inv X ak ab H s):X.env.locals<s.heap.objs.size:=let ⟨_,bo,_⟩:=aa.loc;bo.lt
theorem Inv.c0(aa:Inv X ak ab H s):X.dm.heap.objs.size<=s.heap.objs.size:=eE aa.ok.above (Nat.le_of_lt aa.lt)
theorem Inv.ago(aa:Inv X ak ab H s)(h:s.heap.objs.size<=a):a∉X.fs:=fun ar=>by
 obtain⟨_,o,aK,_⟩:=aa.ok.l1.mem ar
 exact absurd (fB (d9 aK) (eE aa.c0 h)) (Nat.lt_irrefl _)
theorem Inv.qB(aa:Inv X ak ab H s):∀x c,X.env.cells.lookup x=J c->c≠X.env.locals:=fun x c e z=>by
 obtain⟨v,o,aK,hd⟩:=aa.cell x c e
 obtain⟨m,⟨ee,aZ,fE,mL,Io,_⟩,_⟩:=aa.loc
 rw[z,mL]at aK;cases aK;rw[Io]at hd;cases hd
theorem Inv.l1(aa:Inv X ak ab H s):s.heap.FunFrames X.base X.outer:=by
 have all:∀(l:List Env),(∀b∈iS l,b∈X.fs)->X.dm.heap.FunFrames X.base l->s.heap.FunFrames X.base l:=by
  intro l
  induction l with
  |nil=>intro _ _;trivial
  |cons env r cM =>
   intro hs aB
   obtain⟨hk,⟨L,o,aG,bo,aK,hd⟩,az⟩:=aB
   have gP:L∈X.fs:=hs L (by unfold iS;rw[List.filterMap_cons,aG];exact hM)
   obtain⟨df,e⟩:=aa.base.slot L o aK (aa.ok.qG L gP) gP fun z=>aa.ok.wx L z gP
   exact⟨hk,⟨L,_,aG,bo,e,hd⟩,cM (fun b ar=>hs b (by unfold iS;rw[List.filterMap_cons,aG];exact fD _ ar)) az⟩
 exact all X.outer (fun _ ar=>ar) aa.ok.l1
theorem Inv.stack(aa:Inv X ak ab H s):s.heap.FunFrames X.base X.stack:=by
 rcases aa.ok.xn with e|⟨e,aG⟩
 .rw[e];exact aa.l1
 ·rw[e]
  obtain⟨m,bo,_⟩:=aa.loc
  refine .cons (by rw[aa.ok.kind];decide) aG bo ?_ aa.l1
  exact bc.get?_none_of_le (eE aa.ok.ou aa.ok.above)
theorem Inv.sS(aa:Inv X ak ab H s):∀b∈iS X.stack,b∈X.env.locals::X.fs:=fun b ar=>by
 rcases aa.ok.xn with e|⟨e,aG⟩
 .rw[e]at ar;exact fD _ ar
 ·rw[e]at ar
  unfold iS at ar
  rw[List.filterMap_cons,aG]at ar
  exact ar
theorem Inv.zX(aa:Inv X ak ab H s):∀b∈iS X.stack,H b=aw:=fun b ar=>by
 rcases dz.mp (aa.sS b ar)with e|ar
 .rw[e];exact aa.free
 ·obtain⟨_,o,aK,_⟩:=aa.ok.l1.mem ar
  exact aa.base.free b o aK (aa.ok.qG b ar) fun z=>aa.ok.wx b z ar
theorem Inv.step(aa:Inv X ak ab H s)
  (nz:∀b∈ch,(b∈X.ex\/X.dm.heap.objs.size<=b)/\b≠X.env.locals/\(∀x c,X.env.cells.lookup x=J c->c≠b)/\∀p∈X.pn++ak,p.1≠b)
  (keep:∀b o,b≠X.env.locals->b∉X.fs->b∉ch->s.heap.get? b=J o->H b=aw->h'.get? b=J o)
  (slot:∀b o,b≠X.env.locals->b∈X.fs->b∉ch->s.heap.get? b=J o->H b=aw->∃df,h'.get? b=J {o with slots:=df}) (free:∀b o,b∉ch->s.heap.get? b=J o->H b=aw->H' b=aw)
  (there:∀b o,b∉ch->s.heap.get? b=J o->∃ee,h'.get? b=J ee)
  (mf:∀b xs,H b=J (.tup xs)->H' b=J (.tup xs)) (lq:∀b o u,H b=J (.i1 o u)->H' b=J (.i1 o u)) (me:∀b ps,H b=J (.rg ps)->∃more,H' b=J (.rg (ps++more)))
  (ns:∀m,s.heap.Ns X.env.locals m->h'.Ns X.env.locals m) (aP:fA X.prog X.w H' h') (aH:AllBare g') :
  Inv X ak ab H' {s with heap:=h',gens:=g',drawn:=d',toks:=t'}:=by
 have sx:∀b o,X.dm.heap.get? b=J o->b≠X.env.locals:=fun b o e=>fC (fB (d9 e) aa.ok.above)
 have Di:∀b o,X.dm.heap.get? b=J o->b∉X.ex->b∉ch:=fun b o e ay ar=>by
  rcases(nz b ar).1 with z|z
  .exact ay z
  .exact absurd (fB (d9 e) z) (Nat.lt_irrefl _)
 have cellK:∀x c,X.env.cells.lookup x=J c->∀v,s.heap.IsCell c v->h'.IsCell c v:=fun x c e v ⟨o,aK,hd⟩=>by
  have oU:c∉ch:=fun z=>(nz c z).2.2.1 x c e rfl
  by_cases hc:c∈X.fs
  ·obtain⟨df,q⟩:=slot c o (aa.qB x c e) hc oU aK (aa.kx x c e)
   exact⟨_,q,hd⟩
  .exact⟨o,keep c o (aa.qB x c e) hc oU aK (aa.kx x c e),hd⟩
 refine⟨aa.ok,aa.os,aH,⟨fun b o e n ar ay=>?_,fun b o e n ar ay=>?_,fun b o e n ay=>?_,fun b o e ay=>?_,fun b xs e=>mf b xs (aa.base.mf b xs e),fun b o xs e=>lq b o xs (aa.base.lq b o xs e),fun b ps e=>?_⟩,?_,fun x c e=>?_,?_,fun x c e=>?_,fun p bj=>?_,aP,aa.len⟩
 .exact keep b o (sx b o e) ar (Di b o e ay) (aa.base.keep b o e n ar ay) (aa.base.free b o e n ay)
 ·obtain⟨df,aI⟩:=aa.base.slot b o e n ar ay
  obtain⟨lA,aL⟩:=slot b _ (sx b o e) ar (Di b o e ay) aI (aa.base.free b o e n ay)
  exact⟨lA,aL⟩
 ·obtain⟨ee,aI⟩:=aa.base.there b o e ay
  exact free b ee (Di b o e ay) aI (aa.base.free b o e n ay)
 ·obtain⟨ee,aI⟩:=aa.base.there b o e ay
  exact there b ee (Di b o e ay) aI
 ·obtain⟨f6,aI⟩:=aa.base.me b ps e
  obtain⟨l9,aL⟩:=me b _ aI
  exact⟨f6++l9,by rw[aL,Array.append_assoc]⟩
 ·obtain⟨m,bo,aB⟩:=aa.loc
  refine⟨m,ns m bo,fun i x v aI aL dS=>?_⟩
  obtain⟨u,r,l⟩:=aB i x v aI aL dS
  refine⟨u,r,?_⟩
  rcases l with l|⟨k,c,e,z⟩
  .exact .inl l
  .exact .inr ⟨k,c,e,cellK x c e _ z⟩
 ·obtain⟨v,z⟩:=aa.cell x c e
  exact⟨v,cellK x c e v z⟩
 ·obtain⟨m,⟨o,_,_,aK,_⟩,_⟩:=aa.loc
  exact free _ o (fun z=>(nz _ z).2.1 I) aK aa.free
 ·obtain⟨v,o,aK,hd⟩:=aa.cell x c e
  exact free c o (fun z=>(nz c z).2.2.1 x c e I) aK (aa.kx x c e)
 ·obtain⟨e,n,ne,jV,d⟩:=aa.pin p bj
  have oU:p.1∉ch:=fun z=>(nz p.1 z).2.2.2 p bj rfl
  exact⟨keep p.1 p.2 ne jV oU e n,free p.1 p.2 oU e n,ne,jV,d⟩
theorem Inv.un(aa:Inv X ak ab H s)(u:fV X.fs [] H H' s.heap h')(aP:fA X.prog X.w H' h'):Inv X ak ab H' {s with heap:=h',toks:=t'}:=by
 obtain⟨m,⟨o,aZ,fE,aK,r⟩,_⟩:=id aa.loc
 obtain⟨df,gP⟩:=u.any aK aa.free (by simp)
 exact aa.step (g':=s.gens) (d':=s.drawn) (ch:=[]) (fun _ z=>nomatch z) (fun b o _ ar _ e n=>u.keep b o e n ar (by simp)) (fun b o _ ar _ e n=>u.slot b o e n ar (by simp)) (fun b o _ e n=>u.free b o e n (by simp)) (fun b o _ e=>u.there b o e (by simp)) u.mf u.lq u.me (fun b8 hm=>by
  obtain⟨ee,Cq,HD,mL,fe⟩:=hm
  rw[aK]at mL;cases mL
  exact⟨_,Cq,HD,gP,fe⟩) aP aa.bare
theorem Inv.call(aa:Inv X ak ab H s)(u:fV (iS X.stack) ch H H' s.heap h')(aP:fA X.prog X.w H' h')(aH:AllBare g')
  (nz:∀b∈ch,(b∈X.ex\/X.dm.heap.objs.size<=b)/\b≠X.env.locals/\(∀x c,X.env.cells.lookup x=J c->c≠b)/\∀p∈X.pn++ak,p.1≠b) :
  Inv X ak ab H' {s with heap:=h',gens:=g',drawn:=d',toks:=t'}:=by
 obtain⟨m,⟨o,aZ,fE,aK,r⟩,_⟩:=id aa.loc
 obtain⟨df,gP⟩:=u.any aK aa.free fun z=>(nz _ z).2.1 rfl
 exact aa.step (ch:=ch) nz (fun b o gP ar hc e n=>u.keep b o e n (fun z=>(dz.mp (aa.sS b z)).elim gP ar) hc) (fun b o _ _ hc e n=>u.any e n hc) (fun b o hc e n=>u.free b o e n hc) (fun b o hc e=>u.there b o e hc) u.mf u.lq u.me (fun b8 hm=>by
  obtain⟨ee,Cq,HD,mL,fe⟩:=hm
  rw[aK]at mL;cases mL
  exact⟨_,Cq,HD,gP,fe⟩) aP aH
theorem Inv.turned(aa:Inv X ak ab H s)(k:∀b o,b≠it->s.heap.get? b=J o->h'.get? b=J o)(bo:H it=aw)(gP:it≠X.env.locals)
  (aj:it∈X.ex\/X.dm.heap.objs.size<=it) (aq:∀x c,X.env.cells.lookup x=J c->c≠it) (bl:∀p∈X.pn++ak,p.1≠it):Inv X ak ab H {s with heap:=h',toks:=t'}:=by
 have PY:∀b u,H b=J u->b≠it:=fun b u e z=>by rw[z,bo]at e;cases e
 refine aa.step (g':=s.gens) (d':=s.drawn) (ch:=[it]) (fun b ar=>?_) (fun b o _ _ hc e _=>k b o (fun z=>hc (by simp[z])) e) (fun b o _ _ hc e _=>⟨o.slots,k b o (fun z=>hc (by simp[z])) e⟩) (fun _ _ _ _ n=>n)
  (fun b o hc e=>⟨o,k b o (fun z=>hc (by simp[z])) e⟩) (fun _ _ e=>e) (fun _ _ _ e=>e) (fun b ps e=>⟨#[],by rw[e];simp⟩) (fun m hm=>?_) (fun b u e=>?_) aa.bare
 ·have e:b=it:=by simpa using ar
  subst e
  exact⟨aj,gP,aq,bl⟩
 ·obtain⟨o,aZ,fE,aK,r⟩:=hm
  exact⟨o,aZ,fE,k _ o (ea gP) aK,r⟩
 ·refine(aa.aP b u e).mW (fun c v hc q=>k c v ?_ q) (fun _ q=>q) fun _ _ q=>q
  rcases hc with z|z
  .rw[z];exact PY b u e
  .exact PY c _ z
theorem Inv.tok(aa:Inv X ak ab H s)(t:Nat):Inv X ak ab H {s with toks:=t}:=aa.un (h':=s.heap) (t':=t) fV.refl aa.aP
theorem Inv.kept(aa:Inv X ak ab H s)(k:∀b u,s.heap.get? b=J u->h'.get? b=J u):Inv X ak ab H {s with heap:=h',toks:=t'}:=aa.un (fV.kept k) (aa.aP.kept k)
theorem Inv.laid{o:c2}(aa:Inv X ak ab H s)(k:∀b u,s.heap.get? b=J u->h'.get? b=J u)(bj:s.heap.objs.size<=a)(new:gs X.prog X.w (upd H a o) h' a o):
  Inv X ak ab (upd H a o) {s with heap:=h',toks:=t'}:=aa.un (fV.laid k bj (aa.aP.fresh bj)) (aa.aP.laid k bj new)
theorem Inv.write{x e:ae}{o:c2}(aa:Inv X ak ab H s)(nH:Ax (H x))(he:e=x\/H e=J (.own x))(k:∀b u,b≠e->s.heap.get? b=J u->h'.get? b=J u)(wV:∃u,h'.get? e=J u)
  (new:gs X.prog X.w (upd H x o) h' x o):Inv X ak ab (upd H x o) {s with heap:=h',toks:=t'}:=aa.un (fV.write nH he k wV) (aa.aP.write nH he k wV new)
theorem Inv.Jm{pins':List (ae×bw)}(aa:Inv X ak ab H s)(h:∀p∈pins',s.heap.get? p.1=J p.2/\H p.1=aw/\p.1≠X.env.locals/\p.1∉X.fs/\∀v,p.2.data≠.cell v):Inv X pins' ab H s :=
 ⟨aa.ok,aa.os,aa.bare,aa.base,aa.loc,aa.cell,aa.free,aa.kx,fun p bj=>(List.mem_append.mp bj).elim (fun z=>aa.pin p (List.mem_append_left _ z)) (h p),aa.aP,aa.len⟩
theorem Go(aX:N.Nodup){x:af}(a:N[i]?=J x)(b:N[j]?=J x):i=j:=by
 obtain⟨aj,aI⟩:=km.mp a
 obtain⟨aq,aL⟩:=km.mp b
 exact(List.getElem_inj aX).mp (aI.trans aL.symm)
theorem My{x:af}(aa:Inv X ak ab H s)(aX:X.N.Nodup)(aC:X.N[i]?=J x)(ay:Loc X.env.scope x)(r:RelV v u)
  (h:∀aF,Inv X ak (ab.set i (J v)) H aF->(∃a,bc.SameBut a s.heap aF.heap/\(a=X.env.locals\/X.env.cells.lookup x=J a))->Q () aF) (aG:X.fn x=ah\/X.env.scope.names.lookup x=J .local:=by first|exact .inl I|exact .inr I|assumption):bM M A (storeName X.env x u) Q E s:=by
 obtain⟨m,bo,aB⟩:=id aa.loc
 have Im:(X.env.scope.kind ==.class||(X.env.scope.kind ==.module&&X.env.locals != X.env.globals))=ag:=by rw[aa.ok.kind];rfl
 have CO:i<ab.length:=by rw[aa.len];exact(km.mp aC).1
 have qB:=aa.qB
 have tracked:∀{a:ae}{h':bc},(∃o,s.heap.get? a=J o/\H a=aw)->bc.SameBut a s.heap h'->fA X.prog X.w H h':=fun{a h'}bf hs b dN e=>by
  obtain⟨_,_,yU⟩:=bf
  refine(aa.aP b dN e).mW (fun c hY hc q=>(hs.2 c ?_).trans q) (fun _ q=>q) fun _ _ q=>q
  rintro rfl
  rcases hc with rfl|hc
  .rw[yU]at e;cases e
  .rw[yU]at hc;cases hc
 rcases ay with hk|hk
 ·refine wpAny_storeName_local hk bo (fun h' nA hs=>?_) Im
  obtain⟨P4,_,_,Pn,_⟩:=id bo
  refine h _ ⟨aa.ok,aa.os,aa.bare,⟨fun b o e n ar ay=>?_,fun b o e n ar ay=>?_,aa.base.free,fun b o e ay=>?_,aa.base.mf,aa.base.lq,aa.base.me⟩,⟨_,nA,fun j y jX aI aL dS=>?_⟩,fun y c e=>?_,aa.free,aa.kx,fun p bj=>?_,tracked ⟨P4,Pn,aa.free⟩ hs,by simpa using aa.len⟩ ⟨_,hs,.inl rfl⟩
  .exact(hs.2 b (fC (fB (d9 e) aa.ok.above))).trans (aa.base.keep b o e n ar ay)
  ·obtain⟨df,aI⟩:=aa.base.slot b o e n ar ay
   exact⟨df,(hs.2 b (fC (fB (d9 e) aa.ok.above))).trans aI⟩
  ·obtain⟨ee,aI⟩:=aa.base.there b o e ay
   exact⟨ee,(hs.2 b (fC (fB (d9 e) aa.ok.above))).trans aI⟩
  ·by_cases cv:j=i
   ·subst cv
    rw[aC]at aI;cases aI
    rw[List.getElem?_set_self CO]at aL
    cases aL
    exact⟨u,r,.inl ⟨hk,by simp⟩⟩
   ·rw[List.getElem?_set_ne (ea cv)]at aL
    obtain⟨sV,fe,q⟩:=aB j y jX aI aL dS
    refine⟨sV,fe,?_⟩
    rcases q with⟨k,e⟩|⟨k,c,e,z⟩
    ·refine .inl ⟨k,?_⟩
     have:y≠x:=fun e=>cv (Go aX aI (e ▸ aC))
     simp[this,e]
    .exact .inr ⟨k,c,e,z.sameBut hs (qB y c e)⟩
  ·obtain⟨hY,z⟩:=aa.cell y c e
   exact⟨hY,z.sameBut hs (qB y c e)⟩
  ·obtain⟨e,n,ne,jV,d⟩:=aa.pin p bj
   exact⟨(hs.2 p.1 ne).trans e,n,ne,jV,d⟩
 ·have Iy:X.fn x=ah:=by
   rcases aG with z|z
   .exact z
   .rw[z]at hk;cases hk
  obtain⟨c,hc⟩:=aa.ok.has x (.inl hk)
  obtain⟨hY,z⟩:=aa.cell x c hc
  refine wpAny_storeName_cell aa.ok.kind hk hc z (fun h' pR hs=>?_)
  obtain⟨iE,CU,IM⟩:=id z
  refine h {s with heap:=h'} ⟨aa.ok,aa.os,aa.bare,⟨fun b o e n ar ay=>?_,fun b o e n ar ay=>?_,aa.base.free,fun b o e ay=>?_,aa.base.mf,aa.base.lq,aa.base.me⟩,⟨m,bo.sameBut hs (ea (qB x c hc)),fun j y jX aI aL dS=>?_⟩,fun y ix e=>?_,aa.free,aa.kx,fun p bj=>?_,tracked ⟨iE,CU,aa.kx x c hc⟩ hs,by simpa using aa.len⟩ ⟨c,hs,.inr hc⟩
  .exact(hs.2 b (fC (fB (d9 e) (aa.ok.t6 x c Iy hc)))).trans (aa.base.keep b o e n ar ay)
  ·obtain⟨df,aI⟩:=aa.base.slot b o e n ar ay
   exact⟨df,(hs.2 b (fC (fB (d9 e) (aa.ok.t6 x c Iy hc)))).trans aI⟩
  ·obtain⟨ee,aI⟩:=aa.base.there b o e ay
   exact⟨ee,(hs.2 b (fC (fB (d9 e) (aa.ok.t6 x c Iy hc)))).trans aI⟩
  ·by_cases cv:j=i
   ·subst cv
    rw[aC]at aI;cases aI
    rw[List.getElem?_set_self CO]at aL
    cases aL
    exact⟨u,r,.inr ⟨.inl hk,c,hc,pR⟩⟩
   ·rw[List.getElem?_set_ne (ea cv)]at aL
    obtain⟨sV,fe,q⟩:=aB j y jX aI aL dS
    refine⟨sV,fe,?_⟩
    rcases q with q|⟨k,ix,e,o4⟩
    .exact .inl q
    ·refine .inr ⟨k,ix,e,o4.sameBut hs ?_⟩
     rintro rfl
     exact cv (Go aX aI (aa.ok.inj _ _ _ e hc ▸ aC))
  ·by_cases CH:ix=c
   .subst CH;exact⟨_,pR⟩
   ·obtain⟨sX,de⟩:=aa.cell y ix e
    exact⟨sX,de.sameBut hs CH⟩
  ·obtain⟨e,n,ne,jV,d⟩:=aa.pin p bj
   refine⟨(hs.2 p.1 ?_).trans e,n,ne,jV,d⟩
   intro q
   rw[q,CU]at e
   have iV:iE=p.2:=gX e
   exact d hY (by rw[<-iV];exact IM)
theorem Gj{x:af}(aa:Inv X ak ab H s)(aX:X.N.Nodup)(aC:X.N[i]?=J x)(ay:Loc X.env.scope x)(r:RelV v u)
  (h:∀aF,Inv X ak (ab.set i (J v)) H aF->Q () aF) (aG:X.fn x=ah\/X.env.scope.names.lookup x=J .local:=by first|exact .inl I|exact .inr I|assumption):bM M A (storeName X.env x u) Q E s :=
 My aa aX aC ay r (fun aF gz _=>h aF gz) aG
theorem Inv.yy(aa:Inv X ak ab H s)(aK:aF.os=s.os)(u:fV (iS X.stack) ch H H' s.heap aF.heap)(aP:fA X.prog X.w H' aF.heap)(aH:AllBare aF.gens)
  (nz:∀b∈ch,(b∈X.ex\/X.dm.heap.objs.size<=b)/\b≠X.env.locals/\(∀x c,X.env.cells.lookup x=J c->c≠b)/\∀p∈X.pn++ak,p.1≠b):Inv X ak ab H' aF:=by
 obtain⟨h',g',d',t',ee⟩:=aF
 have e:ee=s.os:=aK
 subst e
 exact aa.call (g':=g') (t':=t') (d':=d') u aP aH nz
end
noncomputable abbrev bR:=ao->Option ae->au->Prop
noncomputable abbrev St:=List (Option V)
noncomputable abbrev bB:=V->au->Prop
noncomputable abbrev TE:=St->au->bB->Prop
noncomputable abbrev hl:=St->au->(Bool->au->Prop)->Prop
noncomputable abbrev gL:=St->au->(List V->au->Prop)->Prop
structure Ends where
 nx:St->au->Prop
 rt:bB
 bk:St->au->Prop:=fun _ _=>False
 ct:St->au->Prop:=fun _ _=>False
noncomputable abbrev e1:=Ends->St->au->Prop
def ik(X:bz)(ak:List (ae×bw))(ab:St)(Q:bB)(u:ao)(aF:aJ):Prop:=∃v H',Inv X ak ab H' aF/\RelV v u/\Q v H'
def AV(X:bz)(ak:List (ae×bw))(ab:St)(Q:Bool->au->Prop)(b:Bool)(aF:aJ):Prop:=∃H',Inv X ak ab H' aF/\Q b H'
def Sg(X:bz)(ak:List (ae×bw))(ab:St)(Q:List V->au->Prop)(us:List ao)(aF:aJ):Prop:=∃vs H',Inv X ak ab H' aF/\Vals vs us/\Q vs H'
def vM(X:bz)(ak:List (ae×bw))(D:Ends)(f:Flow)(aF:aJ):Prop :=
 match f with
 |.next=>∃bU H',Inv X ak bU H' aF/\D.nx bU H'
 |.brk=>∃bU H',Inv X ak bU H' aF/\D.bk bU H'
 |.cont=>∃bU H',Inv X ak bU H' aF/\D.ct bU H'
 |.ret u=>∃v bU H',Inv X ak bU H' aF/\RelV v u/\D.rt v H'
def bX(X:bz)(e:b5)(t:TE):Prop :=
 ∀(ak:List (ae×bw))(s:aJ)(ab:St)(H:au)(Q:bB),Inv X ak ab H s->t ab H Q->bM (model X.prog X.w) X.A (eval e X.env) (ik X ak ab Q) X.xe s
def kJ(X:bz)(e:b5)(t:hl):Prop :=
 ∀(ak:List (ae×bw))(s:aJ)(ab:St)(H:au)(Q:Bool->au->Prop),Inv X ak ab H s->t ab H Q->bM (model X.prog X.w) X.A (isTrue e X.env (eval e X.env)) (AV X ak ab Q) X.xe s
def g9(X:bz)(e:b5)(t:hl):Prop :=
 ∀(whole:Sem ao)(ak:List (ae×bw))(s:aJ)(ab:St)(H:au)(Q:Bool->au->Prop),Inv X ak ab H s->t ab H Q->bM (model X.prog X.w) X.A (isTrue e X.env whole) (AV X ak ab Q) X.xe s
variable {X:bz} {e:b5}
theorem g9.pt{t:hl}(h:g9 X e t):kJ X e t:=h _
def hH(X:bz)(aZ:List b5)(t:gL):Prop :=
 ∀(aR:Pos)(ak:List (ae×bw))(s:aJ)(ab:St)(H:au)(Q:List V->au->Prop),Inv X ak ab H s->t ab H Q->bM (model X.prog X.w) X.A (spliced (backTo aR (dt aZ X.env))) (Sg X ak ab Q) X.xe s
def j3(X:bz)(st:br)(t:e1):Prop :=
 ∀(ak:List (ae×bw))(s:aJ)(ab:St)(H:au)(D:Ends),Inv X ak ab H s->t D ab H->bM (model X.prog X.w) X.A (exec st X.env) (vM X ak D) X.xe s
def ht(X:bz)(st:List br)(t:e1):Prop :=
 ∀(ak:List (ae×bw))(s:aJ)(ab:St)(H:au)(D:Ends),Inv X ak ab H s->t D ab H->bM (model X.prog X.w) X.A (execs st X.env) (vM X ak D) X.xe s
theorem cA{t:Sem α}{Q fT:α->aJ->Prop}(h:bM M A t Q E s)(fY:∀a s,Q a s->fT a s):bM M A t fT E s:=jD h fY fun _ _ x=>x
variable {c:b5}
section
variable {X:bz}
inductive KY(o:Option (Option V))(Q:V->Prop):Prop where
 |mk (v:V) (e:o=J (J v)) (h:Q v):KY o Q
def xr(i:Nat):TE:=fun ab H Q=>KY ab[i]? fun v=>Q v H
def p4(v:V):TE:=fun _ H Q=>Q v H
theorem VJ{x:af}(aX:X.N[i]?=J x)(bg:A0 X.env.scope x)(hd:(x == ("__debug__":af))=ag:=by decide)(ky:(x == ("__classdict__":af))=ag:=by decide):bX X (.Name x aR) (xr i):=by
 intro ak s ab H Q aa h
 obtain⟨v,e,h⟩:=h
 obtain⟨m,bo,aB⟩:=aa.loc
 obtain⟨u,r,l⟩:=aB i x v aX e bg
 have cZ:ik X ak ab Q u s:=⟨v,H,aa,r,h⟩
 rcases l with⟨hk,hm⟩|⟨hk,c,hc,O3⟩
 .exact wpAny_Name (wpAny_loadName_local aa.ok.kind hk bo hm cZ) hd
 ·rcases hk with hk|hk
  .exact wpAny_Name (wpAny_loadName_cell aa.ok.kind hk hc O3 cZ) hd
  .exact wpAny_Name (wpAny_loadName_free aa.ok.kind hk hc O3 cZ ky) hd
theorem aD{i j aR}:bX X (.Constant (.int i) j aR) (p4 (.int i)):=fun _ _ _ H _ aa h=>wpAny_Constant_int ⟨.int i,H,aa.tok _,⟨_,rfl⟩,h⟩
theorem hy{b j aR}:bX X (.Constant (.bool b) j aR) (p4 (.aN b)):=fun _ _ _ H _ aa h=>Constant_bool ⟨.aN b,H,aa,rfl,h⟩
theorem lN{j aR}:bX X (.Constant .none j aR) (p4 .bK):=fun _ _ _ H _ aa h=>Constant_none ⟨.bK,H,aa,rfl,h⟩
theorem cw{x j aR}:bX X (.Constant (.str x) j aR) (p4 (.str x)):=fun _ _ _ H _ aa h=>Calls.Constant_str ⟨.str x,H,aa.tok _,⟨_,rfl⟩,h⟩
def il(X:bz)(x:af):Prop:=X.env.kindOf x=J .globalImplicit
theorem rK{ab:St}{x:af}{Q:ao->aJ->Prop}(aa:Inv X ak ab H s)(aH:il X x)(hm:X.mg x=J u)(h:Q u s)
  (hd:(x == ("__debug__":af))=ag:=by decide):bM (model X.prog X.w) X.A (eval (.Name x aR) X.env) Q E s :=
 Calls.Name_function_global aa.ok.kind aH (Calls.loadGlobal_global (by rw[aa.ok.glob];exact aa.mod.glob.keeps aa.bk) hm h) hd
theorem pF{ab:St}{x:af}{Q:ao->aJ->Prop}(aa:Inv X ak ab H s)(aH:il X x)(hm:X.mg x=aw)(bg:kg x=J u)(h:Q u s)
  (bo:x≠"__name__":=by decide) (hd:(x == ("__debug__":af))=ag:=by decide):bM (model X.prog X.w) X.A (eval (.Name x aR) X.env) Q E s:=by
 obtain⟨nG,aj,aq⟩:=aa.mod.blt
 exact Calls.Name_function_global aa.ok.kind aH (Calls.loadGlobal_builtin (by rw[aa.ok.glob];exact aa.mod.glob.keeps aa.bk) hm (by rw[aa.ok.blt];exact aj.keeps aa.bk) ((aq x bo).trans bg) h) hd
theorem UY{x:af}(aH:il X x)(hm:X.mg x=J u)(r:RelV v u)(hd:(x == ("__debug__":af))=ag:=by decide):bX X (.Name x aR) (p4 v) :=
 fun _ _ _ H _ aa h=>rK aa aH hm ⟨v,H,aa,r,h⟩ hd
theorem m9{x:af}(aH:il X x)(hm:X.mg x=aw)(bg:kg x=J u)(r:RelV v u)(bo:x≠"__name__":=by decide)(hd:(x == ("__debug__":af))=ag:=by decide):bX X (.Name x aR) (p4 v) :=
 fun _ _ _ H _ aa h=>pF aa aH hm bg ⟨v,H,aa,r,h⟩ bo hd
variable {a b:b5} {b4 dg:TE} {aR:Pos}
def Tl(X:bz)(op:CmpOp)(a b:b5)(t:TE):Prop :=
 ∀(ak:List (ae×bw))(s:aJ)(ab:St)(H:au)(Q:bB),Inv X ak ab H s->t ab H Q->
  bM (model X.prog X.w) X.A (eval a X.env) (fun v dI=>bM (model X.prog X.w) X.A (eval b X.env) (fun u nO=>bM (model X.prog X.w) X.A (h0 op v u) (ik X ak ab Q) X.xe nO) X.xe dI) X.xe s
variable {nP DI:hl} {rest:List b5}
def ajt(t u:hl):hl:=fun ab H Q=>t ab H fun c H1=>if c=ah then u ab H1 Q else Q ag H1
def ajJ(t u:hl):hl:=fun ab H Q=>t ab H fun c H1=>if c=ah then Q ah H1 else u ab H1 Q
def ajI(t:hl):hl:=fun ab H Q=>t ab H fun c H1=>Q (!c) H1
theorem BL(bf:kJ X a nP):g9 X (.BoolOp .And [a] aR) nP:=by
 intro z1 ak s ab H Q aa h
 refine isTrue_and (cA (bf ak s ab H Q aa h) fun c s1 e=>?_)
 cases c with
 |true=>exact isTrue_and_nil e
 |false=>exact e
theorem k6(bf:kJ X a nP):g9 X (.BoolOp .Or [a] aR) nP:=by
 intro z1 ak s ab H Q aa h
 refine isTrue_or (cA (bf ak s ab H Q aa h) fun c s1 e=>?_)
 cases c with
 |false=>exact isTrue_or_nil e
 |true=>exact e
theorem B5(bf:kJ X a nP)(ar:g9 X (.BoolOp .And (b::rest) aR) DI):g9 X (.BoolOp .And (a::b::rest) aR) (ajt nP DI):=by
 intro z1 ak s ab H Q aa h
 refine isTrue_and (cA (bf ak s ab H _ aa h) fun c s1 bE=>?_)
 obtain⟨H1,aU,cm⟩:=bE
 cases c with
 |true=>exact ar z1 ak s1 ab H1 Q aU cm
 |false=>exact⟨H1,aU,cm⟩
theorem jb(bf:kJ X a nP)(ar:g9 X (.BoolOp .Or (b::rest) aR) DI):g9 X (.BoolOp .Or (a::b::rest) aR) (ajJ nP DI):=by
 intro z1 ak s ab H Q aa h
 refine isTrue_or (cA (bf ak s ab H _ aa h) fun c s1 bE=>?_)
 obtain⟨H1,aU,cm⟩:=bE
 cases c with
 |true=>exact⟨H1,aU,cm⟩
 |false=>exact ar z1 ak s1 ab H1 Q aU cm
theorem kp(bf:kJ X a nP):kJ X (.UnaryOp .Not a aR) (ajI nP):=by
 intro ak s ab H Q aa h
 exact isTrue_not (bf ak s ab H (fun c H1=>Q (!c) H1) aa h)
def aju(b4 dg:TE):TE:=fun ab H Q=>b4 ab H fun x H1=>∃c,x=.aN c/\if c=ah then dg ab H1 Q else Q (.aN ag) H1
def ajK(b4 dg:TE):TE:=fun ab H Q=>b4 ab H fun x H1=>∃c,x=.aN c/\if c=ah then Q (.aN ah) H1 else dg ab H1 Q
theorem kq{op}{t:TE}(h:bX X a t):bX X (.BoolOp op [a] aR) t:=fun ak s ab H Q aa hw=>BoolOp_one (h ak s ab H Q aa hw)
theorem jl(bf:bX X a b4)(ar:bX X (.BoolOp .And (b::rest) aR) dg):bX X (.BoolOp .And (a::b::rest) aR) (aju b4 dg):=by
 intro ak s ab H Q aa h
 refine BoolOp_and (cA (bf ak s ab H _ aa h) fun v s1 bE=>?_)
 obtain⟨x,H1,aU,cK,cm⟩:=bE
 obtain⟨c,rfl,cm⟩:=cm
 cases cK
 refine xC ?_
 cases c with
 |true=>exact ar ak s1 ab H1 Q aU cm
 |false=>exact⟨.aN ag,H1,aU,I,cm⟩
theorem LD(bf:bX X a b4)(ar:bX X (.BoolOp .Or (b::rest) aR) dg):bX X (.BoolOp .Or (a::b::rest) aR) (ajK b4 dg):=by
 intro ak s ab H Q aa h
 refine BoolOp_or (cA (bf ak s ab H _ aa h) fun v s1 bE=>?_)
 obtain⟨x,H1,aU,cK,cm⟩:=bE
 obtain⟨c,rfl,cm⟩:=cm
 cases cK
 refine xC ?_
 cases c with
 |false=>exact ar ak s1 ab H1 Q aU cm
 |true=>exact⟨.aN ah,H1,aU,I,cm⟩
def ajC(t:hl)(b4 dg:TE):TE:=fun ab H Q=>t ab H fun c H1=>if c=ah then b4 ab H1 Q else dg ab H1 Q
theorem om(hc:kJ X c nP)(bf:bX X a b4)(ar:bX X b dg):bX X (.IfExp c a b aR) (ajC nP b4 dg):=by
 intro ak s ab H Q aa h
 refine wpAny_IfExp (cA (hc ak s ab H _ aa h) fun d s1 bE=>?_)
 obtain⟨H1,aU,cm⟩:=bE
 cases d with
 |true=>exact bf ak s1 ab H1 Q aU cm
 |false=>exact ar ak s1 ab H1 Q aU cm
end
def dE(K:bN)(H:au)(a:ae)(xs:List V):Prop :=
 AQ H a (.lst xs)\/
  ∃(o:bw)(bq:Array ao)(n:Nat),K.lookup a=J o/\o.cls=.type "list"/\o.dict=aw/\o.data=.seq bq n/\bq.size<=bY/\Vals xs bq.toList
def jI(K:bN)(H:au)(a:ae)(xs:List V):Prop :=
 AQ H a (.tup xs)\/
  ∃(o:bw)(bq:Array ao)(n:Nat),K.lookup a=J o/\o.cls=.type "tuple"/\o.data=.seq bq n/\bq.size<=bY/\Vals xs bq.toList
noncomputable def aaU:ao->Option V
 |.none=>J .bK
 |.bool b=>J (.aN b)
 |.int i _=>J (.int i)
 |.str x _=>J (.str x)
 |.bytes b _=>J (.kN b)
 |.float b _=>J (.ud b)
 |.ref a=>J (.ref a)
 |.type n=>J (.ty n)
 |_=>aw
theorem RelV.abs{x:V}(r:RelV x u):aaU u=J x:=by
 cases x with
 |bK=>cases r;rfl
 |aN _=>cases r;rfl
 |int _=>obtain⟨t,rfl⟩:=r;rfl
 |str _=>obtain⟨t,rfl⟩:=r;rfl
 |kN _=>obtain⟨t,rfl⟩:=r;rfl
 |ud _=>obtain⟨t,rfl⟩:=r;rfl
 |ref _=>cases r;rfl
 |ty _=>cases r;rfl
variable {y:V}
theorem RelV.inj{x:V}(r:RelV x u)(q:RelV y u):x=y:=gX (r.abs.symm.trans q.abs)
theorem Vals.inj:∀{xs bb:List V}{us:List ao},Vals xs us->Vals bb us->xs=bb
 |_,_,_,.nil,.nil=>rfl
 |_,_,_,.cons r t,.cons fe t'=>by rw[r.inj fe,Vals.inj t t']
section
variable {X:bz} {ak:List (ae×bw)} {ab:St} {H:au} {s:aJ} {a:ae} {xs bb:List V}
theorem dE.of(h:H a=J (.lst xs)):dE K H a xs :=.inl (.inl h)
theorem jI.of(h:H a=J (.tup xs)):jI K H a xs :=.inl (.inl h)
theorem Inv.list(aa:Inv X ak ab H s)(h:dE X.K H a xs):∃bq:List ao,Vals xs bq/\PlainL s.heap a bq.toArray/\xs.length<=bY:=by
 rcases h with h|⟨o,bq,n,hk,hc,hd,hs,bC,r⟩
 ·obtain⟨z,bq,n,r,e⟩:=h.ok aa.aP
  exact⟨bq,r,⟨_,n,e,I,I,I⟩,z⟩
 ·refine⟨bq.toList,r,⟨o,n,aa.eI a o hk,hc,hd,by simpa using hs⟩,?_⟩
  have e:=r.length
  simp only[h5]at e
  omega
theorem Inv.tuple(aa:Inv X ak ab H s)(h:jI X.K H a xs):∃bq:List ao,Vals xs bq/\IsTup s.heap a bq.toArray/\xs.length<=bY:=by
 rcases h with h|⟨o,bq,n,hk,hc,hs,bC,r⟩
 ·obtain⟨z,bq,r,p⟩:=h.ok aa.aP
  exact⟨bq,r,p,z⟩
 ·refine⟨bq.toList,r,⟨o,aa.eI a o hk,hc,n,by simpa using hs⟩,?_⟩
  have e:=r.length
  simp only[h5]at e
  omega
theorem Inv.afG(aa:Inv X ak ab H s)(h:dE X.K H a xs)(h':dE X.K H a bb):xs=bb:=by
 obtain⟨bq,r,⟨o,n,e,_,_,d⟩,_⟩:=aa.list h
 obtain⟨its',fe,⟨ee,zq,e',_,_,d'⟩,_⟩:=aa.list h'
 rw[e]at e';cases e'
 rw[d]at d'
 injection d' with eY _
 have:bq=its':=by simpa using congrArg Array.toList eY
 subst this
 exact r.inj fe
end
noncomputable abbrev bz.nT(X:bz)(E:ao->aJ->Prop):bz:={X with xe:=E}
noncomputable abbrev bz.sy(X:bz):bz:=X.nT fun _ _=>False
theorem bz.Ok.nT(ok:X.Ok)(E:ao->aJ->Prop):(X.nT E).Ok :=
 ⟨ok.mod,ok.kind,ok.glob,ok.blt,ok.above,ok.inj,ok.has,ok.t6,ok.hd,ok.frames,ok.xn,ok.Cr,ok.bs,ok.ou,ok.uK,ok.wx,ok.l1,ok.qG⟩
theorem bz.Ok.mh(ok:(X.nT E).Ok):X.Ok :=
 ⟨ok.mod,ok.kind,ok.glob,ok.blt,ok.above,ok.inj,ok.has,ok.t6,ok.hd,ok.frames,ok.xn,ok.Cr,ok.bs,ok.ou,ok.uK,ok.wx,ok.l1,ok.qG⟩
section
variable {X:bz} {ak:List (ae×bw)} {ab:St} {H:au} {s:aJ} {E:ao->aJ->Prop}
theorem Inv.nT(aa:Inv X ak ab H s)(E:ao->aJ->Prop):Inv (X.nT E) ak ab H s:=⟨aa.ok.nT E,aa.os,aa.bare,aa.base,aa.loc,aa.cell,aa.free,aa.kx,aa.pin,aa.aP,aa.len⟩
theorem Inv.mh(aa:Inv (X.nT E) ak ab H s):Inv X ak ab H s:=⟨aa.ok.mh,aa.os,aa.bare,aa.base,aa.loc,aa.cell,aa.free,aa.kx,aa.pin,aa.aP,aa.len⟩
theorem vM.mh{D:Ends}{f:Flow}(h:vM (X.nT E) ak D f aF):vM X ak D f aF:=by
 cases f with
 |next=>obtain⟨bU,H',aa,q⟩:=h;exact⟨bU,H',aa.mh,q⟩
 |brk=>obtain⟨bU,H',aa,q⟩:=h;exact⟨bU,H',aa.mh,q⟩
 |cont=>obtain⟨bU,H',aa,q⟩:=h;exact⟨bU,H',aa.mh,q⟩
 |ret u=>obtain⟨v,bU,H',aa,r,q⟩:=h;exact⟨v,bU,H',aa.mh,r,q⟩
theorem ht.sy{st:List br}{t:e1}(h:ht X.sy st t):ht X st t:=fun ak s ab H D aa hw =>
 jD (h ak s ab H D (aa.nT _) hw) (fun _ _ q=>q.mh) fun _ _ z=>False.elim z
end
variable {gy:hl}
section
variable {X:bz} {st:br} {rest:List br} {t u:e1} {e:b5} {cG:TE} {aR:Pos}
def JV:e1:=fun D ab H=>D.nx ab H
def xp(t u:e1):e1:=fun D ab H=>t {D with nx:=u D} ab H
theorem cV:ht X [] JV:=fun _ _ ab H _ aa h=>wpAny_execs_nil ⟨ab,H,aa,h⟩
theorem aM(aj:j3 X st t)(aq:ht X rest u):ht X (st::rest) (xp t u):=by
 intro ak s ab H D aa h
 refine wpAny_execs_cons (cA (aj ak s ab H {D with nx:=u D} aa h) fun f s1 q=>?_)
 cases f with
 |next =>
  obtain⟨bU,H',gz,q⟩:=q
  exact aq ak s1 bU H' D gz q
 |ret v=>exact q
 |brk=>exact q
 |cont=>exact q
theorem aS(aj:j3 X st t):ht X [st] t:=by
 intro ak s ab H D aa h
 refine wpAny_execs_cons (cA (aj ak s ab H D aa h) fun f s1 q=>?_)
 cases f with
 |next=>exact wpAny_execs_nil q
 |ret v=>exact q
 |brk=>exact q
 |cont=>exact q
theorem Inv.quiet{ab:St}(aa:Inv X ak ab H s):interactive X.env=ag:=by simp[interactive,aa.ok.kind]
def ajz(cG:TE):e1:=fun D ab H=>cG ab H fun _ H1=>D.nx ab H1
theorem iO(he:bX X e cG)(hs:swapsWith e aw aR.line X.env=pure ag:=by rfl):j3 X (.Expr e aR) (ajz cG):=by
 intro ak s ab H D aa h
 refine wpAny_Expr_any (cA (he ak s ab H _ aa h) fun v s1 bE=>?_) aa.quiet hs
 obtain⟨x,H1,aU,cK,cm⟩:=bE
 exact ⟨ab,H1,aU,cm⟩
def ajN(cG:TE):e1:=fun D ab H=>cG ab H D.rt
theorem bG(he:bX X e cG):j3 X (.Return (J e) aR) (ajN cG):=by
 intro ak s ab H D aa h
 refine wpAny_Return_some (cA (he ak s ab H _ aa h) fun v s1 bE=>?_)
 obtain⟨x,H1,aU,cK,cm⟩:=bE
 exact ⟨x,ab,H1,aU,cK,cm⟩
def JT(c:hl)(t u:e1):e1:=fun D ab H=>c ab H fun b H1=>if b=ah then t D ab H1 else u D ab H1
theorem cW{a b:List br}(hc:kJ X c gy)(bf:ht X a t)(ar:ht X b u):j3 X (.If c a b aR) (JT gy t u):=by
 intro ak s ab H D aa h
 refine wpAny_If (cA (hc ak s ab H _ aa h) fun d s1 bE=>?_)
 obtain⟨H1,aU,cm⟩:=bE
 cases d with
 |true=>exact bf ak s1 ab H1 D aU cm
 |false=>exact ar ak s1 ab H1 D aU cm
def ajG:e1:=fun _ _ _=>False
theorem oj:j3 X st ajG:=fun _ _ _ _ _ _ h=>h.elim
end
noncomputable abbrev gW:=V->St->au->(St->au->Prop)->Prop
noncomputable abbrev tC:=List V->St->au->(St->au->Prop)->Prop
def oa(X:bz)(h1:b5)(t:gW):Prop :=
 ∀(ak:List (ae×bw))(s:aJ)(ab:St)(H:au)(v:V)(u:ao)(Q:St->au->Prop),Inv X ak ab H s->RelV v u->t v ab H Q->
  bM (model X.prog X.w) X.A (assign h1 X.env u) (fun _ aF=>∃bU H',Inv X ak bU H' aF/\Q bU H') X.xe s
def xU(X:bz)(jB:List b5)(t:tC):Prop :=
 ∀(ak:List (ae×bw))(s:aJ)(ab:St)(H:au)(vs:List V)(us:List ao)(Q:St->au->Prop),Inv X ak ab H s->Vals vs us->t vs ab H Q->
  bM (model X.prog X.w) X.A (assignInOrder ((assignEach jB X.env).map (·.2)) us) (fun _ aF=>∃bU H',Inv X ak bU H' aF/\Q bU H') X.xe s
noncomputable abbrev EK:=V->V->V->au->(au->Prop)->Prop
def KJ(X:bz)(t:EK):Prop :=
 ∀(ak:List (ae×bw))(s:aJ)(ab:St)(H:au)(o i v:V)(ov q1 u:ao)(Q:au->Prop),Inv X ak ab H s->RelV o ov->RelV i q1->RelV v u->t o i v H Q->
  bM (model X.prog X.w) X.A (setItem ov q1 u) (fun _ aF=>∃H',Inv X ak ab H' aF/\Q H') X.xe s
variable {g:gW}
section
variable {X:bz} {aR:Pos}
def wF(i:Nat):gW:=fun v ab H Q=>Q (ab.set i (J v)) H
theorem eF{x:af}(aX:X.N.Nodup)(aC:X.N[i]?=J x:=by rfl)(ay:Loc X.env.scope x:=by first|exact Or.inl I|exact Or.inr I)(aG:X.fn x=ah\/X.env.scope.names.lookup x=J .local:=by first|exact .inl I|exact .inr I|assumption):oa X (.Name x aR) (wF i):=by
 intro ak s ab H v u Q aa r h
 exact wpAny_assign_Name (Gj aa aX aC ay r (fun aF gz=>⟨_,H,gz,h⟩) aG)
noncomputable def acv:tC:=fun vs ab H Q=>vs=[]/\Q ab H
noncomputable def acu(t:gW)(u:tC):tC:=fun vs ab H Q=>∃v r,vs=v::r/\t v ab H fun bU H'=>u r bU H' Q
theorem pk:xU X [] acv:=by
 intro ak s ab H vs us Q aa r h
 obtain⟨e,h⟩:=h
 subst e
 cases r
 exact assignInOrder_nil ⟨ab,H,aa,h⟩
theorem ji{t:gW}{u:tC}(aj:oa X e t)(aq:xU X aZ u)
  (hs:(assignEach (e::aZ) X.env).map (·.2)=assign e X.env::(assignEach aZ X.env).map (·.2):=by rfl):xU X (e::aZ) (acu t u):=by
 intro ak s ab H vs us Q aa r h
 obtain⟨v,amI,aI,h⟩:=h
 subst aI
 cases r with
 |cons r mb =>
  rw[hs]
  refine assignInOrder_cons (cA (aj ak s ab H _ _ _ aa r h) fun _ s1 bE=>?_)
  obtain⟨cz,H1,aU,cm⟩:=bE
  exact aq ak s1 cz H1 _ _ Q aU mb cm
def acx(K:bN)(n:Nat)(t:tC):gW:=fun v ab H Q=>∃a xs,v=.ref a/\jI K H a xs/\xs.length=n/\t xs ab H Q
theorem pE{t:tC}(hc:X.calm=ah)(h:xU X aZ t)
  (bo:(assignEach aZ X.env).length=n:=by rfl) (jT:(assignEach aZ X.env).findIdx? (·.1)=aw:=by rfl):oa X (.Tuple aZ k aR) (acx X.K n t):=by
 intro ak s ab H v u Q aa r hw
 obtain⟨a,xs,aI,aW,aB,hw⟩:=hw
 subst aI
 cases r
 obtain⟨bq,dO,aT,bC⟩:=aa.tuple aW
 refine assign_Tuple_tuple (aa.ok.hd hc) aT (by simp[bo,<-aB,dO.length]) jT fun h' ay=>?_
 have aU:Inv X ak ab H {s with heap:=h'}:=aa.kept (t':=s.toks) fun b o e=>ay b o (fC (d9 e)) e
 exact h ak _ ab H xs _ Q aU (by simpa using dO) hw
def acw(to DN:TE)(t:EK):gW:=fun v ab H Q=>to ab H fun o H1=>DN ab H1 fun i ax=>t o i v ax fun bA=>Q ab bA
theorem VI{o i:b5}{to DN:TE}{t:EK}(aK:bX X o to)(aC:bX X i DN)(hs:KJ X t)
  (bf:∀v,assign (.Subscript o i aR) X.env v=(do
   let ov <-holding [v] (eval o X.env)
   let q1 <-holding [v,ov] (eval i X.env)
   standAt aR
   holding [v,ov,q1] (setItem ov q1 v)
   release [v,ov,q1] []):=by intro _;rfl):oa X (.Subscript o i aR) (acw to DN t):=by
 intro ak s ab H v u Q aa r h
 rw[bf]
 refine bH (wpAny_holding (cA (aK ak s ab H _ aa h) fun ov s1 bE=>?_))
 obtain⟨x,H1,aU,cK,cm⟩:=bE
 refine bH (wpAny_holding (cA (aC ak s1 ab H1 _ aU cm) fun q1 s2 bE=>?_))
 obtain⟨y,ax,bJ,ef,cN⟩:=bE
 refine bH (wpAny_standAt (bH (wpAny_holding (cA (hs ak s2 ab ax x y v ov q1 u _ bJ cK ef r cN) fun _ hE bE=>?_))))
 obtain⟨bA,h4,gq⟩:=bE
 exact wpAny_release ⟨ab,bA,h4,gq⟩
def xo(cG:TE)(g:gW):e1:=fun D ab H=>cG ab H fun x H1=>g x ab H1 D.nx
theorem yo{cG:TE}(he:bX X e cG)(aH:oa X eB g)(hs:swapsWithSole [eB] e aR.line X.env=pure ag:=by rfl)(hw:swappedStores [eB] e X.env=pure aw:=by rfl)
  (aj:(assignEach [eB] X.env).map (·.2)=[assign eB X.env]:=by rfl):j3 X (.Assign [eB] e aR) (xo cG g):=by
 intro ak s ab H D aa h
 refine wpAny_Assign_stores (cA (he ak s ab H _ aa h) fun v s1 bE=>?_) hs hw
 obtain⟨x,H1,aU,cK,cm⟩:=bE
 rw[aj]
 exact cA (aH ak s1 ab H1 x v _ aU cK cm) fun _ s2 q=>q
theorem VE{x:af}{cG:TE}(aX:X.N.Nodup)(aC:X.N[i]?=J x)(ay:Loc X.env.scope x)(he:bX X e cG)(hs:swapsWith e (J (.Name x pos')) aR.line X.env=pure ag:=by rfl)(aG:X.fn x=ah\/X.env.scope.names.lookup x=J .local:=by first|exact .inl I|exact .inr I|assumption):
  j3 X (.Assign [.Name x pos'] e aR) (xo cG (wF i)):=by
 intro ak s ab H D aa h
 refine wpAny_Assign_Name (cA (he ak s ab H _ aa h) fun v s1 bE=>?_) hs
 obtain⟨y,H1,aU,cK,cm⟩:=bE
 exact Gj aU aX aC ay cK (fun s2 bJ=>⟨_,H1,bJ,cm⟩) aG
end
section
variable {X:bz} {aR:Pos}
def ajS(c:hl)(dg:e1):e1:=fun D ab H=>∃W:Nat->St->au->Prop,(∃m,W m ab H)/\∀m ab H,W m ab H->
 c ab H fun b H1=>if b=ah then ∃N:St->au->Prop,(∀bU H',N bU H'->∃b8,b8<m/\W b8 bU H')/\dg {D with nx:=N,ct:=N,bk:=D.nx} ab H1 else D.nx ab H1
theorem rG{dg:e1}(bj:jC (model X.prog X.w) X.A X.env X.xe)(hc:kJ X c gy)(ar:ht X body dg):j3 X (.While c body [] aR) (ajS gy dg):=by
 intro ak s ab H D aa h
 obtain⟨W,⟨m0,jY⟩,turn⟩:=h
 refine wpAny_While (codeAny_whileLoop (fun n aF=>∃bU H',Inv X ak bU H' aF/\W n bU H') ?_ m0 ⟨ab,H,aa,jY⟩)
 rintro n s1 ⟨cz,H1,aU,zZ⟩
 refine vb bj (cA (hc ak s1 cz H1 _ aU (turn n cz H1 zZ)) fun b s2 bE=>?_)
 obtain⟨ax,bJ,cN⟩:=bE
 cases b with
 | true =>
  obtain⟨N,aX,cN⟩:=cN
  rw[if_pos rfl]
  refine vb bj (cA (ar ak s2 cz ax _ bJ cN) fun f hE gq=>?_)
  cases f with
  |next =>
   obtain⟨k1,bA,h4,I8⟩:=gq
   obtain⟨b8,hm,o3⟩:=aX k1 bA I8
   exact⟨b8,hm,k1,bA,h4,o3⟩
  |cont =>
   obtain⟨k1,bA,h4,I8⟩:=gq
   obtain⟨b8,hm,o3⟩:=aX k1 bA I8
   exact⟨b8,hm,k1,bA,h4,o3⟩
  |brk=>exact gq
  |ret v=>exact gq
 |false =>
  rw[if_neg hI]
  exact wpAny_execs_nil ⟨cz,ax,bJ,cN⟩
end
structure kH where
 go:Nat->au->Prop
 qa:Nat->au->V->au->Prop
 stop:Nat->au->Prop
def qo(X:bz)(ak:List (ae×bw))(H:au)(b:ae):Prop :=
 H b=aw/\b≠X.env.locals/\b∉X.fs/\(b∈X.ex\/X.dm.heap.objs.size<=b)/\(∀x c,X.env.cells.lookup x=J c->c≠b)/\∀p∈X.pn++ak,p.1≠b
theorem Inv.qF{ab:St}{H':au}{b:ae}(aa:Inv X ak ab H s)(ar:s.heap.objs.size<=b)(bo:H' b=aw):qo X ak H' b:=by
 refine⟨bo,Nat.ne_of_gt (fB aa.lt ar),aa.ago ar,.inr (eE aa.c0 ar),fun x c e z=>?_,fun p bj z=>?_⟩
 ·obtain⟨v,q⟩:=aa.cell x c e
  exact absurd (fB q.lt (by rw[z];exact ar)) (Nat.lt_irrefl _)
 .exact absurd (fB (d9 (aa.pin p bj).1) (by rw[z];exact ar)) (Nat.lt_irrefl _)
structure Turn(P:c1)(w:cH)(K:bN)(eB:b5)(dQ:kH)(bQ:List ae)(it:ae)(bV:Nat->bc->Prop):Prop where
 mem:it∈bQ
 obj:∀i h,bV i h->∀b∈bQ,∃o,h.get? b=J o/\∀v,o.data≠.cell v
 keep:∀i h h',bV i h->(∀b∈bQ,∀o,h.get? b=J o->h'.get? b=J o)->bV i h'
 item:∀(X:bz),X.prog=P->X.w=w->X.K=K->X.calm=ah->∀(i:Nat)(ak:List (ae×bw))(s:aJ)(ab:St)(H:au)(E:ao->aJ->Prop),Inv X ak ab H s->(∀b∈bQ,qo X ak H b)->bV i s.heap->dQ.go i H->
  bM (model P w) X.A (pyNext (.ref it)) (fun r s1=>∃u,r=J u/\
   bM (model P w) X.A (letOwnedTupleGo eB (.ref it) u) (fun _ s2=>∃x H',Inv X ak ab H' s2/\RelV x u/\dQ.qa i H x H'/\bV (i+1) s2.heap/\∀b∈bQ,H' b=aw) E s1) E s
 done:∀(X:bz),X.prog=P->X.w=w->X.K=K->X.calm=ah->∀(i:Nat)(ak:List (ae×bw))(s:aJ)(ab:St)(H:au)(E:ao->aJ->Prop),Inv X ak ab H s->(∀b∈bQ,qo X ak H b)->bV i s.heap->dQ.stop i H->
  bM (model P w) X.A (pyNext (.ref it)) (fun r s1=>r=aw/\Inv X ak ab H s1) E s
 self:∀(A:di)(i:Nat)(s:aJ)(Q:ao->aJ->Prop)(E:ao->aJ->Prop),bV i s.heap->Q (.ref it) s->bM (model P w) A (pyIter (.ref it)) Q E s
noncomputable abbrev d8:=St->au->(kH->au->Prop)->Prop
def EF(X:bz)(ak:List (ae×bw))(ab:St)(eB:b5)(R:kH->au->Prop)(I3:ao)(s2:aJ):Prop :=
 ∃(it:ae)(bQ:List ae)(bV:Nat->bc->Prop)(dQ:kH)(H':au),I3=.ref it/\Inv X ak ab H' s2/\Turn X.prog X.w X.K eB dQ bQ it bV/\bV 0 s2.heap/\(∀b∈bQ,qo X ak H' b)/\R dQ H'
def jd(X:bz)(eB iter:b5)(hZ:d8):Prop :=
 ∀(ak:List (ae×bw))(s:aJ)(ab:St)(H:au)(R:kH->au->Prop),Inv X ak ab H s->hZ ab H R->
  bM (model X.prog X.w) X.A (eval iter X.env) (fun v s1=>bM (model X.prog X.w) X.A (pyIter v) (EF X ak ab eB R) X.xe s1) X.xe s
theorem yv{n:String}{vs:Array ao}(aK:s.heap.get? it=J o)(hc:o.cls=.type n)(hd:o.data=.fields vs)
    (bo:["enumerate","zip","dict_itemiterator","dict_reverseitemiterator","odict_iterator","itertools.zip_longest","itertools.pairwise"].contains n=ag) (fY:Q () s):bM M A (letOwnedTupleGo eB (.ref it) u) Q E s:=by
  unfold letOwnedTupleGo
  cases eB<;>first
    |exact dD fY
    |(cases u<;>first
        |exact dD fY
        | (refine bH (wpAny_load aK ?_)
           rw[hc,hd]
           show bM M A (if(["enumerate","zip","dict_itemiterator","dict_reverseitemiterator","odict_iterator","itertools.zip_longest","itertools.pairwise"].contains n&&vs[0]? == J (rawInt _))=ah then _ else _) Q E s
           rw[if_neg (by intro h;rw[bo,Bool.false_and]at h;cases h)]
           exact dD fY))
noncomputable def rx(K:bN)(a:ae):kH :=
 ⟨fun i H=>∃xs x,dE K H a xs/\xs[i]?=J x,fun i H x H'=>H'=H/\∀xs,dE K H a xs->xs[i]?=J x,fun i H=>∃xs,dE K H a xs/\xs.length<=i⟩
noncomputable def vq(lo:Int)(n:Nat):kH:=⟨fun i _=>i<n,fun i H x H'=>H'=H/\x=.int (lo+i),fun i _=>n<=i⟩
theorem ZE(a it:ae):Turn P w K eB (rx K a) [it] it (fun i h=>h.IsListIter it a i) where
 mem:=by simp
 obj:=fun i h st b ar=>by
  have e:b=it:=by simpa using ar
  subst e
  obtain⟨o,e,c,d⟩:=st
  exact⟨o,e,fun v z=>by rw[d]at z;cases z⟩
 keep:=fun i h h' st k=>st.at fun o e=>k it (by simp) o e
 item:=by
  intro X ck hw g5 hc i ak s ab H E aa aG st aH
  subst ck hw g5
  obtain⟨xs,x,aW,ay⟩:=aH
  obtain⟨bq,dO,p,bC⟩:=aa.list aW
  obtain⟨u,dY,gS⟩:=dO.get ay
  obtain⟨f0,f1,f2,hq,f4,hR⟩:=aG it (by simp)
  refine wpAny_pyNext_list_item st p.isList (x:=u) (by simpa using dY) fun h' jz nN=>?_
  have aU:Inv X ak ab H {s with heap:=h'}:=aa.turned (t':=s.toks) (fun b o ar e=>(nN.2 b ar).trans e) f0 f1 hq f4 hR
  obtain⟨o,e,c,d⟩:=id jz
  exact⟨u,I,yv (s:={s with heap:=h'}) e c d (by decide) ⟨x,H,aU,gS,⟨I,fun bb bP=>by rw[aa.afG bP aW];exact ay⟩,jz,fun b ar=>(aG b ar).1⟩⟩
 done:=by
  intro X ck hw g5 hc i ak s ab H E aa aG st aH
  subst ck hw g5
  obtain⟨xs,aW,ay⟩:=aH
  obtain⟨bq,dO,p,bC⟩:=aa.list aW
  obtain⟨f0,f1,f2,hq,f4,hR⟩:=aG it (by simp)
  have aB:=dO.length
  exact wpAny_pyNext_list_end (aa.ok.hd hc) st p.isList (by simp;omega) fun h' hf=>⟨I,aa.turned (t':=s.toks) (fun b o ar e=>hf b o ar e) f0 f1 hq f4 hR⟩
 self:=fun _ _ _ _ _ st h=>wpAny_pyIter_listiter st h
theorem YZ(it:ae)(lo:Int)(n:Nat):Turn P w K eB (vq lo n) [it] it (fun i h=>IsRangeIter h it (lo+(i:Nat)*1) ((n:Int)-(i:Nat)) 1) where
 mem:=by simp
 obj:=fun i h st b ar=>by
  have e:b=it:=by simpa using ar
  subst e
  exact⟨_,st,fun v z=>by
   have o4:Data.fields _=Data.cell v:=z
   cases o4⟩
 keep:=fun i h h' st k=>k it (by simp) _ st
 item:=by
  intro X ck hw g5 hc i ak s ab H E aa aG st aH
  subst ck hw g5
  obtain⟨f0,f1,f2,hq,f4,hR⟩:=aG it (by simp)
  have W:=Walks.range (prog:=X.prog) (w:=X.w) (aa.ok.hd hc) it lo 1 n
  refine W.item i s _ _ aH st fun v h' cp bg jz fP=>?_
  obtain⟨t,rfl⟩:=bg
  have aU:Inv X ak ab H {s with heap:=h',toks:=cp}:=aa.turned (fun b o ar e=>fP b o (by simpa using ar) e) f0 f1 hq f4 hR
  refine⟨_,I,yv (s:={s with heap:=h',toks:=cp}) (n:="range_iterator") jz I I (by decide) ⟨.int (lo+i),H,aU,⟨t,?_⟩,⟨I,I⟩,jz,fun b ar=>(aG b ar).1⟩⟩
  rw[Int.mul_one]
 done:=by
  intro X ck hw g5 hc i ak s ab H E aa aG st aH
  subst ck hw g5
  obtain⟨f0,f1,f2,hq,f4,hR⟩:=aG it (by simp)
  exact wpAny_pyNext_range_end (aa.ok.hd hc) st (by have:n<=i:=aH;omega) fun h' hf=>⟨I,aa.turned (t':=s.toks) (fun b o ar e=>hf b o ar e) f0 f1 hq f4 hR⟩
 self:=fun _ _ _ _ _ st h=>wpAny_pyIter_rangeiter st h
section
variable {X:bz} {eB:b5}
def PC(K:bN)(eg:TE):d8:=fun ab H R=>eg ab H fun x H1=>∃a,x=.ref a/\(∃xs,dE K H1 a xs)/\R (rx K a) H1
theorem UT{l:b5}{eg:TE}(aB:bX X l eg):jd X eB l (PC X.K eg):=by
 intro ak s ab H R aa h
 refine cA (aB ak s ab H _ aa h) fun v s1 bE=>?_
 obtain⟨x,H1,aU,cK,cm⟩:=bE
 obtain⟨a,e,⟨xs,aW⟩,q⟩:=cm
 subst e
 cases cK
 obtain⟨bq,dO,p,bC⟩:=aU.list aW
 refine wpAny_pyIter_list p.isList ?_
 refine⟨s1.heap.objs.size,[s1.heap.objs.size],_,_,H1,I,aU.kept (t':=s1.toks) fun b o e=>er _ e,ZE a _,⟨_,ha _ I,I,I⟩,fun b ar=>?_,q⟩
 have e:b=s1.heap.objs.size:=by simpa using ar
 subst e
 exact aU.qF (cE _) (aU.aP.fresh (cE _))
theorem TN{ab:St}{R:kH->au->Prop}{aC:Int}{t u v:Tok}{cp:Nat}(aa:Inv X ak ab H s)(aj : -(2^62)<=lo)(aq:lo<2^62)(bl : -(2^62)<=aC)(bW:aC<2^62)
  (q:R (vq lo (aC-lo).toNat) H):bM (model X.prog X.w) X.A (pyIter (.ref s.heap.objs.size)) (EF X ak ab eB R) E {s with heap:=s.heap.push {cls :=.type "range",data :=.fields #[.int lo t,.int aC u,.int 1 v]},toks:=cp}:=by
 refine wpAny_pyIter_range (IsRange.new ..) (small_one aj aq bl bW) ?_
 have aU:Inv X ak ab H {s with heap:=s.heap.push {cls :=.type "range",data :=.fields #[.int lo t,.int aC u,.int 1 v]},toks:=cp}:=aa.kept fun b o e=>er _ e
 refine⟨(s.heap.push {cls :=.type "range",data :=.fields #[.int lo t,.int aC u,.int 1 v]}).objs.size,[(s.heap.push {cls :=.type "range",data :=.fields #[.int lo t,.int aC u,.int 1 v]}).objs.size],_,_,H,I,
  aU.kept (t':=cp) fun b o e=>er _ e,YZ _ lo (aC-lo).toNat,?_,fun b ar=>?_,q⟩
 ·have aI:lo+((0:Nat):Int)*1=lo:=by simp
  have aL:(((aC-lo).toNat:Nat):Int)-((0:Nat):Int)=c6.Range.rangeSize lo aC 1:=by rw[rangeSize_one];split<;>omega
  show IsRangeIter _ _ (lo+((0:Nat):Int)*1) ((((aC-lo).toNat:Nat):Int)-((0:Nat):Int)) 1
  rw[aI,aL]
  exact ha _ I
 ·have e:b=(s.heap.push {cls :=.type "range",data :=.fields #[.int lo t,.int aC u,.int 1 v]}).objs.size:=by simpa using ar
  subst e
  exact aU.qF (cE _) (aU.aP.fresh (cE _))
def aeF(b4:gL):d8:=fun ab H R=>b4 ab H fun vs H1=>∃j:Int,vs=[.int j]/\-(2^62)<=j/\j<2^62/\R (vq 0 j.toNat) H1
theorem rz{a:b5}{b4:gL}{p:Pos}(aH:il X "range")(hm:X.mg "range"=aw)(bf:hH X [a] b4)(hs:dt [a] X.env=[(ag,eval a X.env)]:=by rfl):jd X eB (.Call (.Name "range" p) [a] [] aR) (aeF b4):=by
 intro ak s ab H R aa h
 refine Call_ (pF aa aH hm boot_range (PyProof.Rows.callWith_type1 (cA (bf aR ak s ab H _ aa h) fun us s1 bE=>?_) hs I))
 obtain⟨vs,H1,aU,cK,cm⟩:=bE
 obtain⟨j,e,cm,cN,q⟩:=cm
 subst e
 cases cK with
 |cons r mb =>
  cases mb
  obtain⟨t,rfl⟩:=r
  exact call_range_1 (TN aU (by omega) (by omega) cm cN (by simpa using q))
def ajB(hZ:d8)(g:gW)(dg:e1):e1:=fun D ab H=>hZ ab H fun dQ H1=>∃W:Nat->Nat->St->au->Prop,(∃m,W 0 m ab H1)/\∀i m ab H,W i m ab H->
 (dQ.stop i H/\D.nx ab H)\/(dQ.go i H/\∃N:St->au->Prop,(∀bU H',N bU H'->∃b8,b8<m/\W (i+1) b8 bU H')/\∀x H',dQ.qa i H x H'->g x ab H' fun b7 ax=>dg {D with nx:=N,ct:=N,bk:=D.nx} b7 ax)
noncomputable def zE(bQ:List ae)(h:bc):List (ae×bw):=bQ.filterMap fun b=>(h.get? b).map fun o=>(b,o)
theorem Bs{b:ae}(ar:b∈bQ)(e:h.get? b=J o):(b,o)∈zE bQ h:=List.mem_filterMap.mpr ⟨b,ar,by rw[e];rfl⟩
theorem ZS{p:ae×bw}(bj:p∈zE bQ h):p.1∈bQ/\h.get? p.1=J p.2:=by
 obtain⟨b,ar,e⟩:=List.mem_filterMap.mp bj
 cases q:h.get? b with
 |none=>rw[q]at e;cases e
 |some o =>
  rw[q]at e
  have e':(b,o)=p:=gX e
  subst e'
  exact⟨ar,q⟩
theorem Inv.pinned{ab:St}(aa:Inv X ak ab H s)(aG:∀b∈bQ,qo X ak H b)(aK:∀b∈bQ,∃o,s.heap.get? b=J o/\∀v,o.data≠.cell v):Inv X (ak++zE bQ s.heap) ab H s :=
 aa.Jm fun p bj=>(List.mem_append.mp bj).elim (fun z=>aa.pin p (nf _ z)) fun z=>by
  obtain⟨ar,e⟩:=ZS z
  obtain⟨f0,f1,f2,_⟩:=aG p.1 ar
  obtain⟨o,e',d⟩:=aK p.1 ar
  rw[e]at e';cases e'
  exact⟨e,f0,f1,f2,d⟩
theorem Inv.DS{pl:List (ae×bw)}{ab:St}(aa:Inv X (ak++pl) ab H s):Inv X ak ab H s:=aa.Jm fun p bj=>aa.pin p (nf _ (List.mem_append_left _ bj))
theorem pD{hZ:d8}{dg:e1}(bj:jC (model X.prog X.w) X.A X.env X.xe)(hc:X.calm=ah)(aC:jd X eB iter hZ)(aH:oa X eB g)(ar:ht X body dg)
  (hs:∀x,foldedSetIterable iter X.env x=pure x:=by intro _;rfl):j3 X (.For eB iter body [] aR) (ajB hZ g dg):=by
 intro ak s ab H D aa h
 refine wpAny_For (cA (aC ak s ab H _ aa h) fun v s1 aj=>cA aj fun I3 s2 aq=>?_) hs
 obtain⟨it,bQ,bV,dQ,ax,e,bJ,T,kc,f2,W,⟨m0,jY⟩,turn⟩:=aq
 subst e
 have uX:∀{H':au},(∀b∈bQ,H' b=aw)->∀b∈bQ,qo X ak H' b:=fun bo b ar=>⟨bo b ar,(f2 b ar).2⟩
 refine codeAny_forLoop_any (fun n aF=>∃i bU H',Inv X ak bU H' aF/\bV i aF.heap/\(∀b∈bQ,H' b=aw)/\W i n bU H') ?_ m0 ⟨0,ab,ax,bJ,kc,fun b ar=>(f2 b ar).1,jY⟩
 rintro n hE ⟨i,k1,bA,h4,mc,yG,o3⟩
 rcases turn i n k1 bA o3 with⟨stop,uR⟩|⟨go,N,aX,step⟩
 ·refine vb bj (cA (T.done X I I I hc i ak hE k1 bA X.xe h4 (uX yG) mc stop) fun r rb bE=>?_)
  obtain⟨az,pg⟩:=bE
  subst az
  exact wpAny_execs_nil ⟨k1,bA,pg,uR⟩
 ·refine vb bj (cA (T.item X I I I hc i ak hE k1 bA X.xe h4 (uX yG) mc go) fun r rb bE=>?_)
  obtain⟨u,az,bW⟩:=bE
  subst az
  refine vb bj (cA bW fun _ xi bE=>?_)
  obtain⟨x,gb,n5,uS,Kb,k0,HH⟩:=bE
  have Et:=n5.pinned (uX HH) (T.obj _ _ k0)
  refine vb bj (cA (aH _ xi k1 gb x u _ Et uS (step x gb Kb)) fun _ uT bE=>?_)
  obtain⟨xx,fS,n6,Jn⟩:=bE
  refine vb bj (cA (ar _ uT xx fS _ n6 Jn) fun f p2 oX=>?_)
  have again:∀{k2:St}{iq:au},Inv X (ak++zE bQ xi.heap) k2 iq p2->N k2 iq->∃m,m<n/\∃i bU H',Inv X ak bU H' p2/\bV i p2.heap/\(∀b∈bQ,H' b=aw)/\W i m bU H':=fun{k2 iq}j2 su=>by
   obtain⟨b8,hm,z0⟩:=aX k2 iq su
   refine⟨b8,hm,i+1,k2,iq,j2.DS,T.keep _ _ _ k0 fun b ar o e=>(j2.pin (b,o) (nf _ (nf _ (Bs ar e)))).1,fun b ar=>?_,z0⟩
   obtain⟨o,e,d⟩:=T.obj _ _ k0 b ar
   exact(j2.pin (b,o) (nf _ (nf _ (Bs ar e)))).2.1
  cases f with
  |next=>obtain⟨k2,iq,j2,su⟩:=oX;exact again j2 su
  |cont=>obtain⟨k2,iq,j2,su⟩:=oX;exact again j2 su
  |brk=>obtain⟨k2,iq,j2,oX⟩:=oX;exact⟨k2,iq,j2.DS,oX⟩
  |ret v=>obtain⟨akw,k2,iq,j2,aiV,oX⟩:=oX;exact⟨akw,k2,iq,j2.DS,aiV,oX⟩
end
theorem Ug{xs:List V}{dg:e1}{D:Ends}{ab:St}(Pv:Nat->St->au->Prop)(bu:Pv 0 ab H)(aB:∀i ab H,i<=xs.length->Pv i ab H->dE K H a xs)
  (hs:∀i x ab H,xs[i]?=J x->Pv i ab H->g x ab H fun b7 ax=>dg {D with nx:=Pv (i+1),ct:=Pv (i+1),bk:=D.nx} b7 ax) (hd:∀ab H,Pv xs.length ab H->D.nx ab H) :
  ∃W:Nat->Nat->St->au->Prop,(∃m,W 0 m ab H)/\∀i m ab H,W i m ab H->
   ((rx K a).stop i H/\D.nx ab H)\/((rx K a).go i H/\∃N:St->au->Prop,(∀bU H',N bU H'->∃b8,b8<m/\W (i+1) b8 bU H')/\∀x H',(rx K a).qa i H x H'->g x ab H' fun b7 ax=>dg {D with nx:=N,ct:=N,bk:=D.nx} b7 ax):=by
 refine⟨fun i m ab H=>m=xs.length-i/\i<=xs.length/\Pv i ab H,⟨xs.length,by simp,UF _,bu⟩,?_⟩
 rintro i m ab H ⟨rfl,aC,p⟩
 have q:=aB i ab H aC p
 by_cases jv:i<xs.length
 ·refine .inr ⟨⟨xs,xs[i],q,by simp[jv]⟩,Pv (i+1),fun bU H' uO=>⟨xs.length-(i+1),by omega,rfl,jv,uO⟩,fun x H' y=>?_⟩
  obtain⟨e,y⟩:=y
  subst e
  exact hs i x ab _ (y xs q) p
 ·have e:i=xs.length:=by omega
  subst e
  exact .inl ⟨⟨xs,q,cE _⟩,hd ab H p⟩
theorem vX{dg:e1}{D:Ends}{ab:St}(Pv:Nat->St->au->Prop)(bu:Pv 0 ab H)
  (hs:∀i ab H,i<n->Pv i ab H->g (.int (lo+i)) ab H fun b7 ax=>dg {D with nx:=Pv (i+1),ct:=Pv (i+1),bk:=D.nx} b7 ax) (hd:∀ab H,Pv n ab H->D.nx ab H) :
  ∃W:Nat->Nat->St->au->Prop,(∃m,W 0 m ab H)/\∀i m ab H,W i m ab H->
   ((vq lo n).stop i H/\D.nx ab H)\/((vq lo n).go i H/\∃N:St->au->Prop,(∀bU H',N bU H'->∃b8,b8<m/\W (i+1) b8 bU H')/\∀x H',(vq lo n).qa i H x H'->g x ab H' fun b7 ax=>dg {D with nx:=N,ct:=N,bk:=D.nx} b7 ax):=by
 refine⟨fun i m ab H=>m=n-i/\i<=n/\Pv i ab H,⟨n,by simp,UF _,bu⟩,?_⟩
 rintro i m ab H ⟨rfl,aC,p⟩
 by_cases jv:i<n
 ·refine .inr ⟨jv,Pv (i+1),fun bU H' uO=>⟨n-(i+1),by omega,rfl,jv,uO⟩,fun x H' y=>?_⟩
  obtain⟨e,y⟩:=y
  subst e y
  exact hs i ab _ jv p
 ·have e:i=n:=by omega
  subst e
  exact .inl ⟨cE _,hd ab H p⟩
noncomputable abbrev ir:=V->V->au->bB->Prop
def d5(X:bz)(f:ao->ao->Sem ao)(r:ir):Prop :=
 ∀(ak:List (ae×bw))(s:aJ)(ab:St)(H:au)(x y:V)(v u:ao)(Q:bB),Inv X ak ab H s->RelV x v->RelV y u->r x y H Q->
  bM (model X.prog X.w) X.A (f v u) (ik X ak ab Q) X.xe s
def EN(X:bz)(f:ao->Sem ao)(r:V->au->bB->Prop):Prop :=
 ∀(ak:List (ae×bw))(s:aJ)(ab:St)(H:au)(x:V)(v:ao)(Q:bB),Inv X ak ab H s->RelV x v->r x H Q->
  bM (model X.prog X.w) X.A (f v) (ik X ak ab Q) X.xe s
def jE(X:bz)(f:ao)(r:List V->au->bB->Prop):Prop :=
 ∀(ak:List (ae×bw))(s:aJ)(ab:St)(H:au)(xs:List V)(us:List ao)(Q:bB),Inv X ak ab H s->Vals xs us->r xs H Q->
  bM (model X.prog X.w) X.A (call f us) (ik X ak ab Q) X.xe s
def Tz(X:bz)(r:V->au->(Bool->au->Prop)->Prop):Prop :=
 ∀(ak:List (ae×bw))(s:aJ)(ab:St)(H:au)(x:V)(v:ao)(Q:Bool->au->Prop),Inv X ak ab H s->RelV x v->r x H Q->
  bM (model X.prog X.w) X.A (truthy v) (AV X ak ab Q) X.xe s
def p5(r:ir)(b4 dg:TE):TE:=fun ab H Q=>b4 ab H fun x H1=>dg ab H1 fun y ax=>r x y ax Q
def ajR(r:V->au->bB->Prop)(b4:TE):TE:=fun ab H Q=>b4 ab H fun x H1=>r x H1 Q
inductive KN(C:Int->Int->Prop)(x y:V)(Q:Int->Int->Prop):Prop where
 |mk (i j:Int) (a:x=.int i) (b:y=.int j) (c:C i j) (h:Q i j):KN C x y Q
def q9(C:Int->Int->Prop)(g:Int->Int->V):ir:=fun x y H Q=>KN C x y fun i j=>Q (g i j) H
inductive KO(x y:V)(Q:Int->Int->Prop):Prop where
 |mk (i j:Int) (a:x=.int i) (b:y=.int j) (h:Q i j):KO x y Q
def mU(g:Int->Int->V):ir:=fun x y H Q=>KO x y fun i j=>Q (g i j) H
noncomputable def Qc(g:Int->V):V->au->bB->Prop:=fun x H Q=>∃i,x=.int i/\Q (g i) H
variable {f:ao->ao->Sem ao} {r:ir}
section
variable {X:bz} {a b c:b5} {b4 dg gy:TE} {aR:Pos}
theorem Ho(bf:bX X a b4)(ar:bX X b dg){ab:St}{R:V->V->au->Prop}(aa:Inv X ak ab H s)
  (h:b4 ab H fun x H1=>dg ab H1 fun y ax=>R x y ax) {Q:ao->aJ->Prop}
  (aG:∀v u s2 x y ax,Inv X ak ab ax s2->RelV x v->RelV y u->R x y ax->bM (model X.prog X.w) X.A (f v u) Q X.xe s2) :
  bM (model X.prog X.w) X.A (eval a X.env) (fun v dI=>bM (model X.prog X.w) X.A (eval b X.env) (fun u nO=>bM (model X.prog X.w) X.A (f v u) Q X.xe nO) X.xe dI) X.xe s:=by
 refine cA (bf ak s ab H _ aa h) fun v s1 bE=>?_
 obtain⟨x,H1,aU,cK,cm⟩:=bE
 refine cA (ar ak s1 ab H1 _ aU cm) fun u s2 bE=>?_
 obtain⟨y,ax,bJ,ef,cN⟩:=bE
 exact aG v u s2 x y ax bJ cK ef cN
theorem aO{op:Operator}(aK:d5 X (kE op) r)(bf:bX X a b4)(ar:bX X b dg):bX X (.BinOp a op b aR) (p5 r b4 dg):=by
 intro ak s ab H Q aa h
 exact wpAny_BinOp (Ho bf ar aa h fun v u s2 x y ax bJ bt cn q=>aK ak s2 ab ax x y v u Q bJ bt cn q)
theorem lh{op:UnaryOp}{r:V->au->bB->Prop}(aK:EN X (unaryOp op) r)(bf:bX X a b4):bX X (.UnaryOp op a aR) (ajR r b4):=by
 intro ak s ab H Q aa h
 refine UnaryOp_ (cA (bf ak s ab H _ aa h) fun v s1 bE=>?_)
 obtain⟨x,H1,aU,cK,cm⟩:=bE
 exact aK ak s1 ab H1 x v Q aU cK cm
theorem sA{C:Int->Int->Prop}{g:Int->Int->Int}
  (rule:∀(i j:Int)(t u:Tok)(s:aJ)(Q:ao->aJ->Prop)(E:ao->aJ->Prop),C i j->Q (.int (g i j) s.toks) {s with toks:=s.toks+1}->bM (model X.prog X.w) X.A (f (.int i t) (.int j u)) Q E s) :
  d5 X f (q9 C fun i j =>.int (g i j)):=by
 intro ak s ab H x y v u Q aa bt cn h
 obtain⟨i,j,rfl,rfl,hc,q⟩:=h
 obtain⟨t,rfl⟩:=bt
 obtain⟨t',rfl⟩:=cn
 exact rule i j t t' s _ _ hc ⟨.int (g i j),H,aa.tok _,⟨_,I⟩,q⟩
theorem Jk{g:Int->Int->Int}
  (rule:∀(i j:Int)(t u:Tok)(s:aJ)(Q:ao->aJ->Prop)(E:ao->aJ->Prop),Q (.int (g i j) s.toks) {s with toks:=s.toks+1}->bM (model X.prog X.w) X.A (f (.int i t) (.int j u)) Q E s) :
  d5 X f (mU fun i j =>.int (g i j)):=by
 intro ak s ab H x y v u Q aa bt cn h
 obtain⟨i,j,rfl,rfl,q⟩:=h
 obtain⟨t,rfl⟩:=bt
 obtain⟨t',rfl⟩:=cn
 exact rule i j t t' s _ _ ⟨.int (g i j),H,aa.tok _,⟨_,I⟩,q⟩
theorem Dp{g:Int->Int->Bool}
  (rule:∀(i j:Int)(t u:Tok)(s:aJ)(Q:ao->aJ->Prop)(E:ao->aJ->Prop),Q (.bool (g i j)) s->bM (model X.prog X.w) X.A (f (.int i t) (.int j u)) Q E s) :
  d5 X f (mU fun i j =>.aN (g i j)):=by
 intro ak s ab H x y v u Q aa bt cn h
 obtain⟨i,j,rfl,rfl,q⟩:=h
 obtain⟨t,rfl⟩:=bt
 obtain⟨t',rfl⟩:=cn
 exact rule i j t t' s _ _ ⟨.aN (g i j),H,aa,I,q⟩
def Sh(i j:Int):Prop:=0<j/\j<1073741824
def Ac(i j:Int):Prop:=0<=j/\j<=1000000/\i.natAbs<2^64
def Ab(i j:Int):Prop:=(-(2^64)<i/\i<2^64)\/(-(2^64)<j/\j<2^64)
theorem Ab.ok{i j:Int}(h:Ab i j):IntMulOk i j:=by
 rcases h with⟨aj,aq⟩|⟨aj,aq⟩
 .exact .of_left (intBits_le_64 aj aq)
 .exact .of_right (intBits_le_64 aj aq)
theorem YY(k:Nat):(0:Int)<=2^k:=by
 rw[two_pow_cast]
 exact Int.natCast_nonneg _
theorem VP:d5 X (kE .Add) (mU fun i j =>.int (i+j)):=Jk fun _ _ _ _ _ _ _ q=>add_int q
theorem VK:d5 X (kE .Sub) (mU fun i j =>.int (i-j)):=Jk fun _ _ _ _ _ _ _ q=>sub_int q
theorem VN:d5 X (kE .Mult) (q9 Ab fun i j =>.int (i*j)):=sA fun _ _ _ _ _ _ _ hc q=>mul_int q hc.ok
theorem hx:d5 X (kE .FloorDiv) (q9 Sh fun i j =>.int (i/j)):=sA fun i j _ _ _ _ _ hc q=>by
 have aj:(0:Int)<j:=hc.1
 have aq:j<1073741824:=hc.2
 exact floordiv_int (by omega) (by rw[Int.fdiv_eq_ediv_of_nonneg i (by omega)];exact q) (.inl (PyProof.noPylong_small (by omega)))
theorem dG:d5 X (kE .Mod) (q9 (fun _ j=>0<j) fun i j =>.int (i%j)):=sA fun i j _ _ _ _ _ hc q=>by
 have aj:(0:Int)<j:=hc
 exact mod_int' (by omega) (by rw[Int.fmod_eq_emod_of_nonneg i (by omega)];exact q)
theorem yq:d5 X (kE .Pow) (q9 Ac fun i j =>.int (i^j.toNat)):=sA fun _ _ _ _ _ _ _ hc q=>pow_int_small hc.1 hc.2.1 hc.2.2 q
theorem Hb:d5 X (kE .LShift) (q9 Ac fun i j =>.int (i*2^j.toNat)):=sA fun _ _ _ _ _ _ _ hc q=>lshift_int_small hc.1 hc.2.1 hc.2.2 q
theorem Le:d5 X (kE .RShift) (q9 (fun _ j=>0<=j) fun i j =>.int (i/2^j.toNat)):=sA fun i j _ _ _ _ _ hc q =>
 rshift_int hc (by rw[Int.fdiv_eq_ediv_of_nonneg i (YY _)];exact q)
theorem VO:d5 X (kE .BitAnd) (mU fun i j =>.int (c6.bitAnd i j)):=Jk fun _ _ _ _ _ _ _ q=>and_int q
theorem aku{f:ao->Sem ao}{g:Int->Int}
  (rule:∀(i:Int)(t:Tok)(s:aJ)(Q:ao->aJ->Prop)(E:ao->aJ->Prop),Q (.int (g i) s.toks) {s with toks:=s.toks+1}->bM (model X.prog X.w) X.A (f (.int i t)) Q E s) :
  EN X f (Qc fun i =>.int (g i)):=by
 intro ak s ab H x v Q aa bt h
 obtain⟨i,rfl,q⟩:=h
 obtain⟨t,rfl⟩:=bt
 exact rule i t s _ _ ⟨.int (g i),H,aa.tok _,⟨_,I⟩,q⟩
theorem k5:EN X (unaryOp .USub) (Qc fun i =>.int (-i)):=aku fun _ _ _ _ _ q=>neg_int q
end
noncomputable def Ql:V->V->Bool
 |.bK,.bK=>ah|.bK,.int _=>ah|.int _,.bK=>ah|.bK,.aN _=>ah|.aN _,.bK=>ah|.bK,.str _=>ah|.str _,.bK=>ah
 |.int _,.int _=>ah|.aN _,.aN _=>ah|.str _,.str _=>ah|.kN _,.kN _=>ah
 |.int _,.str _=>ah|.str _,.int _=>ah|.aN _,.str _=>ah|.str _,.aN _=>ah
 |_,_=>ag
def Ds:ir:=fun x y H Q=>Ql x y=ah/\Q (.aN (decide (x=y))) H
def Qb:ir:=fun x y H Q=>Ql x y=ah/\Q (.aN (!decide (x=y))) H
theorem yi{i j:Int}:decide (V.int i=V.int j)=(i == j):=by
 rw[Bool.eq_iff_iff]
 simp
theorem Li{i j:Bool}:decide (V.aN i=V.aN j)=(i == j):=by
 rw[Bool.eq_iff_iff]
 simp
theorem NH{i j:af}:decide (V.str i=V.str j)=(i == j):=by
 rw[Bool.eq_iff_iff]
 simp
theorem NI{i j:Array UInt8}:decide (V.kN i=V.kN j)=(i.toList == j.toList):=by
 rw[Bool.eq_iff_iff]
 cases i
 cases j
 simp
section
variable {X:bz} {a b c:b5} {b4 dg gy:TE} {aR:Pos}
theorem eX{ab:St}{Q:bB}{k eH:Bool}(aa:Inv X ak ab H s)(q:Q (.aN k) H)(e:k=eH):ik X ak ab Q (.bool eH) s:=by
 subst e
 exact⟨.aN k,H,aa,I,q⟩
theorem Wh:d5 X (h0 .Eq) Ds:=by
 intro ak s ab H x y v u Q aa bt cn h
 obtain⟨hs,q⟩:=h
 cases x with
 |bK =>
  cases bt
  cases y with
  |bK=>cases cn;exact PySem.EqNone.eq_none_none (eX aa q (by simp))
  |aN j=>cases cn;exact PySem.EqNone.eq_none_bool (eX aa q (by simp))
  |int j=>obtain⟨t',rfl⟩:=cn;exact PySem.EqNone.eq_none_int (eX aa q (by simp))
  |str j=>obtain⟨t',rfl⟩:=cn;exact PySem.EqNone.eq_none_str (eX aa q (by simp))
  |_=>exact absurd (show ag=ah from hs) hI
 |aN i =>
  cases bt
  cases y with
  |bK=>cases cn;exact PySem.EqNone.eq_bool_none (eX aa q (by simp))
  |aN j=>cases cn;exact eq_bool (eX aa q Li)
  |str j=>obtain⟨t',rfl⟩:=cn;exact PySem.EqMixed.eq_bool_str (eX aa q (by simp))
  |_=>exact absurd (show ag=ah from hs) hI
 |int i =>
  obtain⟨t,rfl⟩:=bt
  cases y with
  |bK=>cases cn;exact PySem.EqNone.eq_int_none (eX aa q (by simp))
  |int j=>obtain⟨t',rfl⟩:=cn;exact eq_int (eX aa q yi)
  |str j=>obtain⟨t',rfl⟩:=cn;exact PySem.EqMixed.eq_int_str (eX aa q (by simp))
  |_=>exact absurd (show ag=ah from hs) hI
 |str i =>
  obtain⟨t,rfl⟩:=bt
  cases y with
  |bK=>cases cn;exact PySem.EqNone.eq_str_none (eX aa q (by simp))
  |aN j=>cases cn;exact PySem.EqMixed.eq_str_bool (eX aa q (by simp))
  |int j=>obtain⟨t',rfl⟩:=cn;exact PySem.EqMixed.eq_str_int (eX aa q (by simp))
  |str j=>obtain⟨t',rfl⟩:=cn;exact eq_str (eX aa q NH)
  |_=>exact absurd (show ag=ah from hs) hI
 |kN i =>
  obtain⟨t,rfl⟩:=bt
  cases y with
  |kN j=>obtain⟨t',rfl⟩:=cn;exact PySem.W.eq_bytes (eX aa q NI)
  |_=>exact absurd (show ag=ah from hs) hI
 |_=>cases y<;>exact absurd (show ag=ah from hs) hI
theorem Wc:d5 X (h0 .NotEq) Qb:=by
 intro ak s ab H x y v u Q aa bt cn h
 obtain⟨hs,q⟩:=h
 cases x with
 |bK =>
  cases bt
  cases y with
  |bK=>cases cn;exact PySem.EqNone.ne_none_none (eX aa q (by simp))
  |aN j=>cases cn;exact PySem.EqNone.ne_none_bool (eX aa q (by simp))
  |int j=>obtain⟨t',rfl⟩:=cn;exact PySem.EqNone.ne_none_int (eX aa q (by simp))
  |str j=>obtain⟨t',rfl⟩:=cn;exact PySem.EqNone.ne_none_str (eX aa q (by simp))
  |_=>exact absurd (show ag=ah from hs) hI
 |aN i =>
  cases bt
  cases y with
  |bK=>cases cn;exact PySem.EqNone.ne_bool_none (eX aa q (by simp))
  |aN j=>cases cn;exact ne_bool (eX aa q (congrArg not Li))
  |str j=>obtain⟨t',rfl⟩:=cn;exact PySem.EqMixed.ne_bool_str (eX aa q (by simp))
  |_=>exact absurd (show ag=ah from hs) hI
 |int i =>
  obtain⟨t,rfl⟩:=bt
  cases y with
  |bK=>cases cn;exact PySem.EqNone.ne_int_none (eX aa q (by simp))
  |int j=>obtain⟨t',rfl⟩:=cn;exact ne_int (eX aa q (congrArg not yi))
  |str j=>obtain⟨t',rfl⟩:=cn;exact PySem.EqMixed.ne_int_str (eX aa q (by simp))
  |_=>exact absurd (show ag=ah from hs) hI
 |str i =>
  obtain⟨t,rfl⟩:=bt
  cases y with
  |bK=>cases cn;exact PySem.EqNone.ne_str_none (eX aa q (by simp))
  |aN j=>cases cn;exact PySem.EqMixed.ne_str_bool (eX aa q (by simp))
  |int j=>obtain⟨t',rfl⟩:=cn;exact PySem.EqMixed.ne_str_int (eX aa q (by simp))
  |str j=>obtain⟨t',rfl⟩:=cn;exact ne_str (eX aa q (congrArg not NH))
  |_=>exact absurd (show ag=ah from hs) hI
 |kN i =>
  obtain⟨t,rfl⟩:=bt
  cases y with
  |kN j=>obtain⟨t',rfl⟩:=cn;exact PySem.W.ne_bytes (eX aa q (congrArg not NI))
  |_=>exact absurd (show ag=ah from hs) hI
 |_=>cases y<;>exact absurd (show ag=ah from hs) hI
theorem Wd:d5 X (h0 .Lt) (mU fun i j =>.aN (decide (i<j))):=Dp fun _ _ _ _ _ _ _ q=>lt_int q
theorem We:d5 X (h0 .LtE) (mU fun i j =>.aN (decide (i<=j))):=Dp fun _ _ _ _ _ _ _ q=>le_int q
theorem Wf:d5 X (h0 .Gt) (mU fun i j =>.aN (decide (j<i))):=Dp fun _ _ _ _ _ _ _ q=>gt_int q
theorem Wg:d5 X (h0 .GtE) (mU fun i j =>.aN (decide (j<=i))):=Dp fun _ _ _ _ _ _ _ q=>ge_int q
inductive EH(x y:V)(Q:af->af->Prop):Prop where
 |mk (i j:af) (a:x=.str i) (b:y=.str j) (h:Q i j):EH x y Q
theorem ZP:d5 X (h0 .Lt) (fun x y H Q=>EH x y fun i j=>Q (.aN (decide (i.cps.toList<j.cps.toList))) H):=by
 intro ak s ab H x y v u Q aa bt cn h
 obtain⟨i,j,rfl,rfl,q⟩:=h
 obtain⟨t,rfl⟩:=bt
 obtain⟨t',rfl⟩:=cn
 exact lt_str (eX aa q I)
theorem ZQ:d5 X (h0 .In) (fun x y H Q=>EH x y fun i j=>Q (.aN (!(c6.Str.occurrences j i 0 j.length 1).isEmpty)) H):=by
 intro ak s ab H x y v u Q aa bt cn h
 obtain⟨i,j,rfl,rfl,q⟩:=h
 obtain⟨t,rfl⟩:=bt
 obtain⟨t',rfl⟩:=cn
 exact in_str (eX aa q I)
theorem yr:d5 X (h0 .Is) (fun x y H Q=>y=.bK/\Q (.aN (decide (x=.bK))) H):=by
 intro ak s ab H x y v u Q aa bt cn h
 obtain⟨rfl,q⟩:=h
 cases cn
 refine is_none_gen (eX aa q ?_)
 cases x<;>first
  |(cases bt;rfl)
  |(obtain⟨t,rfl⟩:=bt;rfl)
theorem GN:d5 X (h0 .IsNot) (fun x y H Q=>y=.bK/\Q (.aN (!decide (x=.bK))) H):=by
 intro ak s ab H x y v u Q aa bt cn h
 obtain⟨rfl,q⟩:=h
 cases cn
 refine isnot_none_gen (eX aa q ?_)
 cases x<;>first
  |(cases bt;rfl)
  |(obtain⟨t,rfl⟩:=bt;rfl)
theorem d5.or{fe:ir}(h:d5 X f r)(h':d5 X f fe):d5 X f (fun x y H Q=>r x y H Q\/fe x y H Q):=by
 intro ak s ab H x y v u Q aa bt cn q
 rcases q with q|q
 .exact h ak s ab H x y v u Q aa bt cn q
 .exact h' ak s ab H x y v u Q aa bt cn q
theorem Lf(b:b5)(h:op≠.In:=by decide)(aq:op≠.NotIn:=by decide):behindInMarks op b=ag:=by
 have aI:(op == CmpOp.In)=ag:=by cases op<;>first|rfl|exact absurd I h
 have aL:(op == CmpOp.NotIn)=ag:=by cases op<;>first|rfl|exact absurd I aq
 cases b<;>simp[behindInMarks,aI,aL]
theorem NB(aK:d5 X (h0 op) r)(bf:bX X a b4)(ar:bX X b dg)(hm:behindInMarks op b=ag):bX X (.Compare a [op] [b] aR) (p5 r b4 dg):=by
 intro ak s ab H Q aa h
 exact wpAny_Compare1 (Ho bf ar aa h fun v u s2 x y ax bJ bt cn q=>aK ak s2 ab ax x y v u Q bJ bt cn q) hm
inductive KV(x:V)(Q:Bool->Prop):Prop where
 |mk (k:Bool) (a:x=.aN k) (h:Q k):KV x Q
def DM(t:TE):hl:=fun ab H Q=>t ab H fun x H'=>KV x fun k=>Q k H'
theorem GI(aK:d5 X (h0 op) r)(bf:bX X a b4)(ar:bX X b dg)(hm:behindInMarks op b=ag):kJ X (.Compare a [op] [b] aR) (DM (p5 r b4 dg)):=by
 intro ak s ab H Q aa h
 refine wpAny_isTrue_Compare1 (cA (bf ak s ab H _ aa h) fun v s1 ⟨x,H1,aU,cK,cm⟩=>cA (ar ak s1 ab H1 _ aU cm) fun u s2 ⟨y,ax,bJ,ef,cN⟩ =>
  cA (aK ak s2 ab ax x y v u _ bJ cK ef cN) fun c hE ⟨z,bA,h4,zF,k,e,gq⟩=>?_) hm
 subst e
 cases zF
 exact xC ⟨bA,h4,gq⟩
def AX(K:bN)(x:V)(H:au)(k:Bool):Prop :=
 match x with
 |.bK=>k=ag
 |.aN b=>k=b
 |.int i=>k=(i != 0)
 |.str y=>y.length<=bY/\k=((y.length:Int) != 0)
 |.kN y=>y.size<=bY/\k=((y.size:Int) != 0)
 |.ref p=>(∃xs,dE K H p xs/\k=!xs.isEmpty)\/(∃xs,jI K H p xs/\k=!xs.isEmpty)\/∃fZ,H p=J (.mA fZ)/\k=!fZ.isEmpty
 |_=>False
theorem Zp{u6:Type}{fZ:List (u6×V)}{vs:List (u6×ao)}(r:Ew fZ vs):(!vs.isEmpty)=!fZ.isEmpty:=by
 cases r<;>rfl
theorem Mt{xs:List V}(r:Vals xs bq):(!bq.toArray.isEmpty)=!xs.isEmpty:=by
 cases r<;>simp
theorem uF:(bY:Nat)<2^63:=by rw[sizeLine_eq];decide
theorem NX:Tz X (fun x H Q=>∃k,AX X.K x H k/\Q k H):=by
 intro ak s ab H x v Q aa bt h
 obtain⟨k,e,q⟩:=h
 have aB:=uF
 have hs:bY=16777216:=sizeLine_eq
 cases x with
 |bK =>
  cases bt
  have e':k=ag:=e
  subst e'
  exact truthy_none ⟨H,aa,q⟩
 |aN b =>
  cases bt
  have e':k=b:=e
  subst e'
  exact xC ⟨H,aa,q⟩
 |int i =>
  obtain⟨t,rfl⟩:=bt
  have e':k=(i != 0):=e
  subst e'
  exact PySem.P.truthy_int ⟨H,aa,q⟩
 |str y =>
  obtain⟨t,rfl⟩:=bt
  obtain⟨bP,e'⟩:y.length<=bY/\k=((y.length:Int) != 0):=e
  subst e'
  exact PySem.P.truthy_str (by omega) ⟨H,aa.tok _,q⟩
 |kN y =>
  obtain⟨t,rfl⟩:=bt
  obtain⟨bP,e'⟩:y.size<=bY/\k=((y.size:Int) != 0):=e
  subst e'
  exact PySem.W.truthy_bytes (by omega) ⟨H,aa.tok _,q⟩
 | ref p =>
  cases bt
  have e':(∃xs,dE X.K H p xs/\k=!xs.isEmpty)\/(∃xs,jI X.K H p xs/\k=!xs.isEmpty)\/∃fZ,H p=J (.mA fZ)/\k=!fZ.isEmpty:=e
  rcases e' with⟨xs,ay,e'⟩|⟨xs,ay,e'⟩|⟨fZ,ay,e'⟩
  ·subst e'
   obtain⟨bq,r,pl,bC⟩:=aa.list ay
   have cL:=r.length
   exact wpAny_truthy_list pl.isList (by simp only[fW];omega) ⟨H,aa.tok _,by rw[Mt r];exact q⟩
  ·subst e'
   obtain⟨bq,r,pl,bC⟩:=aa.tuple ay
   have cL:=r.length
   exact truthy_tuple pl (by simp only[fW];omega) ⟨H,aa.tok _,by rw[Mt r];exact q⟩
  ·subst e'
   obtain⟨bC,b2,vs,r,m⟩:fZ.length<=bY/\(p == sysModules)=ag/\∃vs,Ew fZ vs/\s.heap.DictOf (PR X.prog X.w) p vs:=aa.aP p _ ay
   have cL:fZ.length=vs.length:=Paired.length r
   exact wpAny_truthy_dict b2 m (by omega) ⟨H,aa.tok _,by rw[Zp r];exact q⟩
 |_=>exact(show False from e).elim
theorem TP(bf:bX X a b4)(he:∀whole,isTrue a X.env whole=(do let v <-whole;standAt a.pos;holding [v] (truthy v))):
  kJ X a (fun ab H Q=>b4 ab H fun x H'=>∃k,AX X.K x H' k/\Q k H'):=by
 intro ak s ab H Q aa h
 refine isTrue_plain (cA (bf ak s ab H _ aa h) fun v s1 bE=>?_) (he _)
 obtain⟨x,H1,aU,cK,cm⟩:=bE
 exact NX ak s1 ab H1 x v Q aU cK cm
inductive KP(x y:V)(Q:af->af->Prop):Prop where
 |mk (i j:af) (a:x=.str i) (b:y=.str j) (c:i.length+j.length<=bY) (h:Q i j):KP x y Q
theorem Zd:d5 X (kE .Add) (fun x y H Q=>KP x y fun i j=>Q (.str (i++j)) H):=by
 intro ak s ab H x y v u Q aa bt cn h
 obtain⟨i,j,rfl,rfl,bC,q⟩:=h
 obtain⟨t,rfl⟩:=bt
 obtain⟨t',rfl⟩:=cn
 exact add_str (fun t' cp=>⟨.str (i++j),H,aa.tok _,⟨_,I⟩,q⟩) bC
theorem vals1{x:V}(r:Vals [x] us):∃u,us=[u]/\RelV x u:=by
 cases r with
 |cons cK ef=>cases ef;exact⟨_,I,cK⟩
theorem vals2{x:V}(r:Vals [x,y] us):∃u hY,us=[u,hY]/\RelV x u/\RelV y hY:=by
 cases r with
 |cons cK ef =>
  cases ef with
  |cons zF Jo=>cases Jo;exact⟨_,_,I,cK,zF⟩
theorem Uv:jE X (.builtin "abs") (fun xs H Q=>∃i,xs=[.int i]/\Q (.int (if i<0 then -i else i)) H):=by
 intro ak s ab H xs us Q aa r h
 obtain⟨i,rfl,q⟩:=h
 obtain⟨u,rfl,t,rfl⟩:=vals1 r
 exact call_abs_int fun u cp=>⟨.int (if i<0 then -i else i),H,aa.tok _,⟨_,rfl⟩,q⟩
theorem Gf(hc:X.calm=ah):jE X (.builtin "min") (fun xs H Q=>∃i j,xs=[.int i,.int j]/\Q (.int (if j<i then j else i)) H):=by
 intro ak s ab H xs us Q aa r h
 obtain⟨i,j,rfl,q⟩:=h
 obtain⟨u,hY,rfl,⟨t,rfl⟩,⟨t',rfl⟩⟩:=vals2 r
 refine min_two_ints (aa.ok.hd hc) fun h' cp k=>⟨_,H,aa.kept k,?_,q⟩
 by_cases cv:j<i
 .rw[if_pos cv,if_pos cv];exact⟨_,I⟩
 .rw[if_neg cv,if_neg cv];exact⟨_,I⟩
theorem aap:jE X (.type "int") (fun xs H Q=>(∃i,xs=[.int i]/\Q (.int i) H)\/∃k,xs=[.aN k]/\Q (.int (if k then 1 else 0)) H):=by
 intro ak s ab H xs us Q aa r h
 rcases h with⟨i,rfl,q⟩|⟨k,rfl,q⟩
 ·obtain⟨u,rfl,t,rfl⟩:=vals1 r
  exact call_int_int ⟨.int i,H,aa,⟨_,I⟩,q⟩
 ·obtain⟨u,rfl,cK⟩:=vals1 r
  cases cK
  exact call_int_bool ⟨.int (if k then 1 else 0),H,aa.tok _,⟨_,rfl⟩,q⟩
def Th(K:bN)(x:V)(H:au)(n:Nat):Prop :=
 match x with
 |.str y=>y.length<=bY/\n=y.length
 |.kN y=>y.size<=bY/\n=y.size
 |.ref p=>(∃xs,dE K H p xs/\n=xs.length)\/∃xs,jI K H p xs/\n=xs.length
 |_=>False
inductive Ey(K:bN)(xs:List V)(H:au)(Q:Nat->Prop):Prop where
 |mk (x:V) (n:Nat) (a:xs=[x]) (b:Th K x H n) (h:Q n):Ey K xs H Q
theorem d7:jE X (.builtin "len") (fun xs H Q=>Ey X.K xs H fun n=>Q (.int n) H):=by
 intro ak s ab H xs us Q aa r h
 obtain⟨x,n,rfl,e,q⟩:=h
 obtain⟨u,rfl,bt⟩:=vals1 r
 have aB:=uF
 have hs:bY=16777216:=sizeLine_eq
 cases x with
 |str y =>
  obtain⟨t,rfl⟩:=bt
  obtain⟨bP,e'⟩:y.length<=bY/\n=y.length:=e
  subst e'
  exact len_str (by omega) ⟨.int _,H,aa.tok _,⟨_,I⟩,q⟩
 |kN y =>
  obtain⟨t,rfl⟩:=bt
  obtain⟨bP,e'⟩:y.size<=bY/\n=y.size:=e
  subst e'
  exact PySem.W.len_bytes (by omega) ⟨.int _,H,aa.tok _,⟨_,I⟩,q⟩
 | ref p =>
  cases bt
  have e':(∃xs,dE X.K H p xs/\n=xs.length)\/∃xs,jI X.K H p xs/\n=xs.length:=e
  rcases e' with⟨xs,ay,e'⟩|⟨xs,ay,e'⟩
  ·subst e'
   obtain⟨bq,fe,pl,bC⟩:=aa.list ay
   have cL:=fe.length
   exact Calls.call_len_list pl.isList (by simp only[fW];omega) ⟨.int xs.length,H,aa.tok _,⟨_,by simp only[fW];rw[cL]⟩,q⟩
  ·subst e'
   obtain⟨bq,fe,pl,bC⟩:=aa.tuple ay
   have cL:=fe.length
   exact len_tuple pl (by simp only[fW];omega) ⟨.int xs.length,H,aa.tok _,⟨_,by simp only[fW];rw[cL]⟩,q⟩
 |_=>exact(show False from e).elim
end
structure tr(h:bc)(x al C:ae)(fc:af->Option ao):Prop where
 obj:h.get? x=J (mZ C al)
 ns:h.Ns1 al fc
 ne:al≠x
theorem MK{al:ae}(n:h.Ns1 al fc):∃od,h.get? al=J od/\∀name,Kh name od=J (fc name):=by
 obtain⟨o,aZ,fE,aK,hd,hk,_,hm⟩:=n
 refine⟨o,aK,fun name=>?_⟩
 have e:=hm name
 unfold nsFind findBy at e
 rw[<-Array.find?_toList]at e
 unfold Kh
 rw[hd]
 dsimp only
 split
 ·rename_i y q
  rw[q]at e
  exact congrArg J e
 ·rename_i q
  rw[q]at e
  have a:aZ.toList.any (·.refKey)=ag:=by
   rw[List.any_eq_false]
   intro y bP
   obtain⟨z,t,ady⟩:=hk y (Array.mem_toList_iff.mp bP)
   simp[DictEntry.refKey,ady]
  have aaG:¬aZ.toList.any (·.refKey)=ah:=by rw[a];exact hI
  rw[if_neg aaG]
  exact congrArg J e
theorem tr.look{x al:ae}(aa:tr h x al C fc):∃od,PySem.W.InstAt h x (mZ C al) C (J od)/\∀name,Kh name od=J (fc name) :=
 let ⟨od,aK,aB⟩:=MK aa.ns
 ⟨od,⟨aa.obj,rfl,rfl,aK⟩,aB⟩
section
variable {prog:c1} {w:cH} {A:di} {E:ao->aJ->Prop} {s:aJ} {K:bN} {x al C f:ae} {fc:af->Option ao} {name:af} {v:ao}
theorem Vf{Q:ao->aJ->Prop}(X:K.In s.heap)(aa:tr s.heap x al C fc)(aH:D2 K C name=ah)(fN:va K C=ah)
  (bf:d4 K (.ref C) name=J aw) (bg:fc name=J v) (uD:PySem.W.handedIn v=ah) (h:Q v {s with toks:=s.toks+1}) :
  bM (model prog w) A (getAttr (.ref x) name expr) Q E s:=by
 obtain⟨od,dQ,aB⟩:=aa.look
 exact PySem.W.get_value X dQ (PySem.W.plainGet_of aH).1 (PySem.W.findObj_own fN bf I (by rw[aB,bg])) uD h
theorem Ua{pl:Sem Bool}{Q:ao×List ao->aJ->Prop}(X:K.In s.heap)(aa:tr s.heap x al C fc)(aH:D2 K C name=ah)
  (aG:d4 K (.ref C) name=J (J (.ref f))) (aT:Kg K (.ref f)=ah) (bg:fc name=aw) (h:Q (.ref f,[.ref x]) s) :
  bM (model prog w) A (getMethod (.ref x) name pl) Q E s:=by
 obtain⟨od,dQ,aB⟩:=aa.look
 exact PySem.W.method_fn X dQ (PySem.W.plainGet_of aH).1 (PySem.W.plainGet_of aH).2 aG (beq_iff_eq.mp aT) (by show(Kh name od).map (·.isSome)=J ag;rw[aB,bg];rfl) h
theorem UN(X:K.In s.heap)(aa:tr s.heap x al C fc)
  (hs:d4 K (.ref C) "__setattr__"=J (J (.builtin "object.__setattr__"))) (bj:PySem.W.plainOver K C=ah) (aT:s5 K C name=J aw) (fN:va K C=ah)
  (hw:PySem.Within fc ns) (f5:ns.length<=bY)
  (h:∀h',tr h' x al C (fun y=>if y=name then J v else fc y)->bc.SameBut al s.heap h'->Q () {s with heap:=h',toks:=s.toks+2}) :
  bM (model prog w) A (setAttr (.ref x) name v) Q E s:=by
 obtain⟨od,dQ,aB⟩:=aa.look
 refine PySem.W.set_plain X dQ hs (PySem.W.osa_open (s:={s with toks:=s.toks+1}) (r:=aw) X dQ bj aT fun b=>?_)
 obtain⟨c9,hc,Io⟩:=PySem.W.any_some fN
 have ay:s.heap.get? x=J ⟨.ref C,J al,.plain,#[]⟩:=aa.obj
 refine bH (dD (bH (bH (wpAny_loadPart ay (bH (PySem.W.Looks.here (s:={s with toks:=s.toks+1}) (PySem.W.looks_clsIn X hc) ?_))))))
 rw[Io]
 refine dD (a:=J al) (bH (dD (bH ?_)))
 refine wpAny_nsSet1 (s:={s with toks:=s.toks+1}) aa.ns fun h' ly hS=>?_
 obtain⟨xd,abR,abP,CT,Iq,lu⟩:=ly.count (PySem.Within.cons name v hw)
 refine bH (wpAny_lookBehind CT (by rw[Iq];exact pastItsLine_dict (eE lu (by rw[dZ];omega))) ?_)
 exact dD (h _ ⟨(hS.2 _ (ea aa.ne)).trans aa.obj,ly,aa.ne⟩ hS)
theorem T7{R:Result->aJ->Prop}{vs:List ao}(X:K.In s.heap)(hm:z6 K C=ah)
  (aC:d4 K (.ref C) "__init__"=J (J (.ref f))) (aG:rk K (.ref f)=J (.type "function"))
  (h:k3 (model prog w) (A.under (.builtin "type.__call__" ⟨.ref C::vs,kw⟩)) (.call (.ref f) ⟨.ref (s.heap.objs.size+1)::vs,kw⟩) (PySem.W.InitBack (s.heap.objs.size+1) R)
   {s with heap:=(s.heap.push mY).push (mZ C s.heap.objs.size)}) :
  k3 (model prog w) A (.call (.ref C) ⟨vs,kw⟩) R s:=by
 obtain⟨fN,g,d,t,os⟩:=s
 exact PySem.W.make_core (PySem.W.makes_of X hm) (PySem.W.looks_findIn X aC) (fun self=>PySem.W.bind_fn X self aG) (.inl I) h
theorem ZV{R:Result->aJ->Prop}(X:K.In s.heap)(hm:z6 K C=ah)
  (aC:d4 K (.ref C) "__init__"=J (J (.builtin "object.__init__")))
  (ar:∀self,PySem.W.Looks (model prog w) s.heap (bindSpecial (.builtin "object.__init__") self) (.builtin "object.__init__",[self]))
  (h:k3 (model prog w) (A.under (.builtin "type.__call__" ⟨[.ref C],[]⟩)) (.call (.builtin "object.__init__") ⟨[.ref (s.heap.objs.size+1)],[]⟩) (PySem.W.InitBack (s.heap.objs.size+1) R)
   {s with heap:=(s.heap.push mY).push (mZ C s.heap.objs.size)}) :
  k3 (model prog w) A (.call (.ref C) ⟨[],[]⟩) R s:=by
 obtain⟨fN,g,d,t,os⟩:=s
 exact PySem.W.make_core (PySem.W.makes_of X hm) (PySem.W.looks_findIn X aC) ar (.inr ⟨I,I⟩) h
end
noncomputable def ft(f:af)(v:V):List (af×V)->List (af×V)
 |[]=>[(f,v)]
 |(g,x)::r=>if g=f then(g,v)::r else(g,x)::ft f v r
theorem Mk(f g:af)(v:V):∀fs:List (af×V),(ft f v fs).lookup g=if g=f then J v else fs.lookup g
 | []=>by
  show List.lookup g [(f,v)]=_
  by_cases h:g=f
  ·have ar:(g == f)=ah:=beq_iff_eq.mpr h
   simp only[List.lookup,ar,if_pos h]
  ·have ar:(g == f)=ag:=beq_eq_false_iff_ne.mpr h
   simp only[List.lookup,ar,if_neg h]
 | (k,x)::r=>by
  have cM:=Mk f g v r
  rw[show ft f v ((k,x)::r)=(if k=f then(k,v)::r else(k,x)::ft f v r)from rfl]
  by_cases hk:k=f
  ·rw[if_pos hk]
   by_cases h:g=k
   ·have ar:(g == k)=ah:=beq_iff_eq.mpr h
    simp only[List.lookup,ar,if_pos (h.trans hk)]
   ·have ar:(g == k)=ag:=beq_eq_false_iff_ne.mpr h
    simp only[List.lookup,ar,if_neg (fun e:g=f=>h (e.trans hk.symm))]
  ·rw[if_neg hk]
   by_cases h:g=k
   ·have ar:(g == k)=ah:=beq_iff_eq.mpr h
    simp only[List.lookup,ar,if_neg (fun e:g=f=>hk (h.symm.trans e))]
   ·have ar:(g == k)=ag:=beq_eq_false_iff_ne.mpr h
    simp only[List.lookup,ar]
    exact cM
theorem Gd(f:af)(v:V):∀fs:List (af×V),f∈(ft f v fs).map (·.1)/\∀g,g∈fs.map (·.1)->g∈(ft f v fs).map (·.1)
 |[]=>⟨by simp[ft],fun g h=>by simp at h⟩
 | (k,x)::r=>by
  obtain⟨ew,eA⟩:=Gd f v r
  rw[show ft f v ((k,x)::r)=(if k=f then(k,v)::r else(k,x)::ft f v r)from rfl]
  by_cases hk:k=f
  ·rw[if_pos hk]
   subst hk
   exact⟨by simp,fun g h=>by simpa using h⟩
  ·rw[if_neg hk]
   refine⟨?_,fun g h=>?_⟩
   ·rw[je]
    exact fD _ ew
   ·rw[je]at h ⊢
    rcases dz.mp h with e|e
    .exact dz.mpr (.inl e)
    .exact fD _ (eA g e)
theorem Mm(f:af)(v:V):∀fs:List (af×V),(ft f v fs).length<=fs.length+1
 |[]=>by simp[ft]
 |(k,x)::r=>by
  have cM:=Mm f v r
  rw[show ft f v ((k,x)::r)=(if k=f then(k,v)::r else(k,x)::ft f v r)from rfl]
  by_cases hk:k=f
  .rw[if_pos hk,dZ,dZ];omega
  .rw[if_neg hk,dZ,dZ];omega
theorem ob.ajo{o:Option ao}(r:ob (J v) o):∃u,o=J u/\RelV v u:=by
 cases o with
 |none=>exact(show False from r).elim
 |some u=>exact⟨u,I,r⟩
theorem ob.none_of{o:Option ao}(r:ob aw o):o=aw:=by
 cases o with
 |none=>rfl
 |some u=>exact(show False from r).elim
theorem Z1(r:RelV v u):PySem.W.handedIn u=ah:=by
 cases v with
 |bK=>cases(show u=ao.none from r);rfl
 |aN b=>cases(show u=ao.bool b from r);rfl
 |int i=>obtain⟨t,e⟩:=(show ∃t,u=ao.int i t from r);cases e;rfl
 |str x=>obtain⟨t,e⟩:=(show ∃t,u=ao.str x t from r);cases e;rfl
 |kN b=>obtain⟨t,e⟩:=(show ∃t,u=ao.bytes b t from r);cases e;rfl
 |ud b=>obtain⟨t,e⟩:=(show ∃t,u=ao.float b t from r);cases e;rfl
 |ref a=>cases(show u=ao.ref a from r);rfl
 |ty n=>cases(show u=ao.type n from r);rfl
section
variable {P:c1} {w:cH} {H H':au} {h h':bc} {a C al:ae} {fs uf:List (af×V)}
theorem BP(aP:fA P w H h)(e:H a=J (.ins C al fs)):∃fc,tr h a al C fc/\(∀f,ob (fs.lookup f) (fc f))/\PySem.Within fc (fs.map (·.1))/\fs.length<=1000/\H al=J (.own a):=by
 obtain⟨d,z,ne,dN,fc,n,r,q⟩:=(show gs P w H h a (.ins C al fs)from aP a _ e)
 exact⟨fc,⟨dN,n,ne⟩,r,q,z,d⟩
end
structure fz(K:bN)(C:ae):Prop where
 agQ:D2 K C af.empty=ah
 hd:va K C=ah
 po:PySem.W.plainOver K C=ah
 sa:d4 K (.ref C) "__setattr__"=J (J (.builtin "object.__setattr__"))
theorem fz.get(c:fz K C)(f:af):D2 K C f=ah:=c.agQ
def kk(K:bN)(C:ae)(f:af):Prop:=d4 K (.ref C) f=J aw
theorem kk.ajZ{f:af}(n:kk K C f):s5 K C f=J aw:=by
 unfold s5
 rw[show d4 K (.ref C) f=J aw from n]
 rfl
structure tp(K:bN)(C:ae)(m:af)(f:ae):Prop where
 at_:d4 K (.ref C) m=J (J (.ref f))
 fn:Kg K (.ref f)=ah
 iD:kD K (.ref f)=ah
section
variable {X:bz} {ak:List (ae×bw)} {ab:St} {H:au} {s:aJ} {a C al:ae} {fs:List (af×V)} {f:af} {v:V} {A:di} {E:ao->aJ->Prop}
theorem Zs{b:Bool}{Q:ao->aJ->Prop}(aa:Inv X ak ab H s)(e:H a=J (.ins C al fs))(c:fz X.K C)(n:kk X.K C f)(l:fs.lookup f=J v)
  (h:∀u aF,Inv X ak ab H aF->RelV v u->Q u aF):bM (model X.prog X.w) A (getAttr (.ref a) f b) Q E s:=by
 obtain⟨fc,O,r,_,_,_⟩:=BP aa.aP e
 obtain⟨u,dY,gS⟩:=ob.ajo (v:=v) (o:=fc f) (by rw[<-l];exact r f)
 exact Vf aa.eI O (c.get f) c.hd n dY (Z1 gS) (h u _ (aa.tok _) gS)
theorem x5{m:af}{g:ae}{pl:Sem Bool}{Q:ao×List ao->aJ->Prop}(aa:Inv X ak ab H s)(e:H a=J (.ins C al fs))(c:fz X.K C)(k:tp X.K C m g)(l:fs.lookup m=aw)
  (h:Q (.ref g,[.ref a]) s):bM (model X.prog X.w) A (getMethod (.ref a) m pl) Q E s:=by
 obtain⟨fc,O,r,_,_,_⟩:=BP aa.aP e
 have bo:fc m=aw:=ob.none_of (by rw[<-l];exact r m)
 exact Ua aa.eI O (c.get m) k.at_ k.fn bo h
theorem Y4(aa:Inv X ak ab H s)(e:H a=J (.ins C al fs))(c:fz X.K C)(n:kk X.K C f)(aB:fs.length<1000)(cn:RelV y u)
  (h:∀aF,Inv X ak ab (upd H a (.ins C al (ft f y fs))) aF->Q () aF):bM (model X.prog X.w) A (setAttr (.ref a) f u) Q E s:=by
 obtain⟨fc,O,r,hZ,_,aK⟩:=BP aa.aP e
 have bC:(fs.map (·.1)).length<=bY:=by rw[cC,sizeLine_eq];omega
 refine UN aa.eI O c.sa c.po n.ajZ c.hd hZ bC fun h' ED nN=>h _ ?_
 have hd:∃o,h'.get? al=J o:=let ⟨o,_,_,e',_⟩:=ED.ns;⟨o,e'⟩
 refine aa.write (x:=a) (e:=al) (by rw[e];exact True.intro) (.inr aK) (fun b q ar z=>(nN.2 b ar).trans z) hd ?_
 refine⟨by rw[bO O.ne];exact aK,?_,O.ne,ED.obj,_,ED.ns,fun g=>?_,fun g aH=>?_⟩
 .have:=Mm f y fs;omega
 ·show ob ((ft f y fs).lookup g) (if g=f then J u else fc g)
  rw[Mk]
  by_cases q:g=f
  .rw[if_pos q,if_pos q];exact cn
  .rw[if_neg q,if_neg q];exact r g
 ·by_cases q:g=f
  .rw[q];exact(Gd f y fs).1
  ·refine(Gd f y fs).2 g (hZ g fun z=>aH ?_)
   show(if g=f then J u else fc g)=aw
   rw[if_neg q];exact z
theorem Inv.made(aa:Inv X ak ab H s):Inv X ak ab (upd (upd H s.heap.objs.size (.own (s.heap.objs.size+1))) (s.heap.objs.size+1) (.ins C s.heap.objs.size []))
  {s with heap:=(s.heap.push mY).push (mZ C s.heap.objs.size)}:=by
 have aI:(s.heap.push mY).get? s.heap.objs.size=J mY:=ha s.heap rfl
 have aL:((s.heap.push mY).push (mZ C s.heap.objs.size)).get? (s.heap.objs.size+1)=J (mZ C s.heap.objs.size):=by
  have:=ha (s.heap.push mY) (o:=mZ C s.heap.objs.size) rfl
  rwa [bc.size_push]at this
 have dS:(s.heap.push mY).Ns s.heap.objs.size (fun _=>aw):=⟨mY,#[],_,aI,rfl,(fun e he=>absurd he (by simp)),fun _=>rfl⟩
 have aU:=aa.laid (a:=s.heap.objs.size) (o :=.own (s.heap.objs.size+1)) (h':=s.heap.push mY) (t':=s.toks) (fun b u q=>er _ q) (cE _) ⟨_,aI⟩
 refine aU.laid (a:=s.heap.objs.size+1) (o :=.ins C s.heap.objs.size []) (t':=s.toks) (fun b u q=>er _ q) (Nat.le_of_eq (bc.size_push _ _)) ?_
 have ne:s.heap.objs.size≠s.heap.objs.size+1:=fC (Nat.lt_succ_self _)
 refine⟨by rw[bO ne,aQ],UF _,ne,aL,fun _=>aw,(bc.Ns1.of_empty dS).at fun o q=>er _ q,fun _=>True.intro,fun y bP=>absurd rfl bP⟩
theorem NU{f:af}{s:aJ}{Q:ao->aJ->Prop}(ar:attributeBase e f env (eval e env)=eval e env)
  (h:bM (model prog w) A (eval e env) (fun o dI=>bM (model prog w) A (getAttr o f ah) Q E dI) E s):bM (model prog w) A (eval (.Attribute e f aR) env) Q E s :=
 Attribute_any_ h (by rw[arm_eval_Attribute,ar])
end
inductive Kp(K:bN)(f:af)(x:V)(H:au)(Q:V->Prop):Prop where
 |mk (a C al:ae) (fs:List (af×V)) (v:V) (e:x=.ref a) (h:H a=J (.ins C al fs)) (c:fz K C) (n:kk K C f) (l:fs.lookup f=J v) (q:Q v):Kp K f x H Q
def ajA(K:bN)(b4:TE)(f:af):TE:=fun ab H Q=>b4 ab H fun x H1=>Kp K f x H1 fun v=>Q v H1
def ajd(K:bN)(b4 nQ:TE)(f:af):e1:=fun D ab H=>nQ ab H fun y H1=>b4 ab H1 fun x ax=>∃a C al fs,x=.ref a/\ax a=J (.ins C al fs)/\fz K C/\kk K C f/\fs.length<1000/\
 D.nx ab (upd ax a (.ins C al (ft f y fs)))
section
variable {X:bz} {o e value:b5} {f:af} {aR pos' xt:Pos} {b4 nQ:TE}
theorem et(he:bX X e b4)(ar:attributeBase e f X.env (eval e X.env)=eval e X.env):bX X (.Attribute e f aR) (ajA X.K b4 f):=by
 intro ak s ab H Q aa h
 refine NU ar (cA (he ak s ab H _ aa h) fun u s1 bE=>?_)
 obtain⟨x,H1,aU,bt,a,C,al,fs,v,ex,dd,c,n,l,q⟩:=bE
 subst ex
 obtain rfl:u=ao.ref a:=bt
 exact Zs aU dd c n l fun sV s2 bJ gS=>⟨v,H1,bJ,gS,q⟩
theorem jk(bf:bX X o b4)(bg:bX X value nQ)(hs:swapsWith value (J (.Attribute o f pos')) aR.line X.env=pure ag):j3 X (.Assign [.Attribute o f pos'] value aR) (ajd X.K b4 nQ f):=by
 intro ak s ab H D aa h
 refine plainObj_wpAny_Assign_Attribute (cA (bg ak s ab H _ aa h) fun u s1 ⟨y,H1,aU,cn,q⟩=>cA (bf ak s1 ab H1 _ aU q) fun ov s2 bE=>?_) hs
 obtain⟨x,ax,bJ,bt,a,C,al,fs,ex,dd,c,n,l,cN⟩:=bE
 subst ex
 obtain rfl:ov=ao.ref a:=bt
 exact Y4 bJ dd c n l cn fun hE h4=>⟨ab,_,h4,cN⟩
end
section
variable {X:bz} {ak:List (ae×bw)} {ab:St} {H:au} {s:aJ} {A:di} {E:ao->aJ->Prop} {Q:ao->aJ->Prop} {c:ao} {b:Bool}
inductive k8 (K:bN) (H:au):V->ao->Prop where
 |bK:k8 K H .bK (.type "NoneType")
 |aN (x:Bool):k8 K H (.aN x) (.type "bool")
 |int (i:Int):k8 K H (.int i) (.type "int")
 |str (x:af):k8 K H (.str x) (.type "str")
 |ud (x:UInt64):k8 K H (.ud x) (.type "float")
 |lst {a:ae} {xs:List V} (e:H a=J (.lst xs)):k8 K H (.ref a) (.type "list")
 |i1 {a:ae} {o:bw} {xs:List V} (e:H a=J (.i1 o (.lst xs))):k8 K H (.ref a) (.type "list")
 |tup {a:ae} {xs:List V} (e:H a=J (.tup xs)):k8 K H (.ref a) (.type "tuple")
 |mA {a:ae} {fZ:List (Key×V)} (e:H a=J (.mA fZ)):k8 K H (.ref a) (.type "dict")
 |pI {a:ae} {fZ:List (List Key×V)} (e:H a=J (.pI fZ)):k8 K H (.ref a) (.type "dict")
 | ins {a C al:ae} {fs:List (af×V)} (e:H a=J (.ins C al fs)) (cl:fz K C) (bf:d4 K (.ref C) "__class__"=J (J (.builtin "object.__class__")))
   (bo:Ki K (.builtin "object.__class__") "__get__"=J (J (.builtin "getset_descriptor.__get__"))) (ze:PySem.W.takesIn K (.builtin "object.__class__")=J ah)
   (hm:kf K C (.type "object")=J ah):k8 K H (.ref a) (.ref C)
theorem MP{x:V}{t:ao}(aa:Inv X ak ab H s)(bt:RelV x u)(ty:k8 X.K H x t)(e:dn X.K t c=J b)(h:∀cp,Q (.bool b) {s with toks:=cp}):
  bM (model X.prog X.w) A (call (.builtin "isinstance") [u,c]) Q E s:=by
 cases ty with
 |bK=>cases(show u=ao.none from bt);exact qb PySem.W.kitx_none aa.eI True.intro e (fun z=>nomatch z) h
 |aN y=>cases(show u=ao.bool y from bt);exact qb PySem.W.kitx_bool aa.eI True.intro e (fun z=>nomatch z) h
 |int i=>obtain⟨t,q⟩:=(show ∃t,u=ao.int i t from bt);cases q;exact qb PySem.W.kitx_int aa.eI True.intro e (fun z=>nomatch z) h
 |str y=>obtain⟨t,q⟩:=(show ∃t,u=ao.str y t from bt);cases q;exact qb PySem.W.kitx_str aa.eI True.intro e (fun z=>nomatch z) h
 |ud y=>obtain⟨t,q⟩:=(show ∃t,u=ao.float y t from bt);cases q;exact qb PySem.W.kitx_float aa.eI True.intro e (fun z=>nomatch z) h
 | @lst a xs dd =>
  cases(show u=ao.ref a from bt)
  obtain⟨_,_,n,_,aj⟩:=(show gs X.prog X.w H s.heap a (.lst xs)from aa.aP a _ dd)
  exact qb PySem.W.kitx_list aa.eI ⟨_,aj,I⟩ e (fun z=>nomatch z) h
 | @i1 a dN xs dd =>
  cases(show u=ao.ref a from bt)
  obtain⟨_,_,_,n,_,aj⟩:=(show gs X.prog X.w H s.heap a (.i1 dN (.lst xs))from aa.aP a _ dd)
  exact qb PySem.W.kitx_list aa.eI ⟨_,aj,I⟩ e (fun z=>nomatch z) h
 | @tup a xs dd =>
  cases(show u=ao.ref a from bt)
  obtain⟨_,_,_,p⟩:=(show gs X.prog X.w H s.heap a (.tup xs)from aa.aP a _ dd)
  obtain⟨o,aj,aq,_⟩:=p
  exact qb PySem.W.kitx_tuple aa.eI ⟨o,aj,aq⟩ e (fun z=>nomatch z) h
 | @mA a fZ dd =>
  cases(show u=ao.ref a from bt)
  obtain⟨_,_,vs,_,p⟩:=(show gs X.prog X.w H s.heap a (.mA fZ)from aa.aP a _ dd)
  obtain⟨o,aZ,fE,aj,aq,_⟩:=p
  exact qb PySem.W.kitx_dict aa.eI ⟨o,aj,aq.1⟩ e (fun z=>nomatch z) h
 | @pI a fZ dd=>exact(show False from aa.aP a _ dd).elim
 | @ins a C al fs dd cl bf bo ze hm =>
  cases(show u=ao.ref a from bt)
  obtain⟨fc,O,_⟩:=BP aa.aP dd
  obtain⟨od,dQ,_⟩:=O.look
  exact qb (PySem.W.kitx_own (cl.get _) cl.hd bf bo ze hm) aa.eI dQ e (fun z=>nomatch z) h
end
structure fj(k:Nat)(A:di):Prop where
 hd:A.handled=aw
 oz:A.depth+3*k+5<recursionLimit
 un:A.units+16*k+200<cLine
theorem fj.mono(r:fj k A)(h:j<=k):fj j A:=⟨r.hd,by have:=r.oz;omega,by have:=r.un;omega⟩
theorem fj.deeper(r:fj (k+1) A)(env:Env):fj k (A.deeper env) :=
 ⟨r.hd,by have:=r.oz;show A.depth+1+3*k+5<_;omega,by have:=r.un;show A.units+3+16*k+200<_;omega⟩
theorem Zm:(A.under (.builtin "type.__call__" ⟨.ref C::us,kw⟩)).depth=A.depth+1:=by
 first|rfl|simp[di.under,Code.weight,Code.isCreation,Code.isGuard,Code.isCaller,Code.frames,Code.isFrame,guardIds]
theorem Zl:(A.under (.builtin "type.__call__" ⟨.ref C::us,kw⟩)).units=A.units+1:=by
 first|rfl|simp[di.under,Code.cUnits,Code.frames,Code.isFrame]
theorem fj.make(r:fj (k+1) A)(C:ae)(us:List ao)(kw:List (af×ao)):fj k (A.under (.builtin "type.__call__" ⟨.ref C::us,kw⟩)) :=
 ⟨r.hd,by have:=r.oz;rw[Zm];omega,by have:=r.un;rw[Zl];omega⟩
theorem fj.depth(r:fj k A):A.depth<recursionLimit:=by have:=r.oz;omega
noncomputable def DL:gL:=fun _ H Q=>Q [] H
noncomputable def RO(b4:TE)(akm:gL):gL:=fun ab H Q=>b4 ab H fun x H1=>akm ab H1 fun xs ax=>Q (x::xs) ax
section
variable {X:bz} {e:b5} {aZ:List b5} {cG:TE} {t:gL} {aR:Pos}
theorem aA:hH X [] DL:=fun _ _ _ _ H Q aa h=>Calls.spliced_nil ⟨[],H,aa,.nil,h⟩
theorem av(bf:bX X e cG)(az:hH X aZ t)(hs:dt (e::aZ) X.env=(ag,eval e X.env)::dt aZ X.env:=by rfl):hH X (e::aZ) (RO cG t):=by
 intro aR ak s ab H Q aa h
 rw[hs]
 show bM _ _ (spliced ((ag,eval e X.env)::backTo aR (dt aZ X.env))) _ _ s
 refine Calls.spliced_cons (cA (bf ak s ab H _ aa h) fun u s1 bE=>?_)
 obtain⟨x,H1,aU,cK,cm⟩:=bE
 refine cA (az aR ak s1 ab H1 _ aU cm) fun us s2 bE=>?_
 obtain⟨xs,ax,bJ,ef,cN⟩:=bE
 exact ⟨x::xs,ax,bJ,.cons cK ef,cN⟩
def ajQ(t:gL):TE:=fun ab H Q=>t ab H fun xs H1=>xs.length<=bY/\∀p,H1 p=aw->Q (.ref p) (upd H1 p (.tup xs))
def ajE(t:gL):TE:=fun ab H Q=>t ab H fun xs H1=>xs.length<=bY/\∀p,H1 p=aw->Q (.ref p) (upd H1 p (.lst xs))
theorem jM{iH}(h:hH X aZ t):bX X (.Tuple aZ iH aR) (ajQ t):=by
 intro ak s ab H Q aa aW
 refine wpAny_Tuple_spliced (cA (h aR ak s ab H _ aa aW) fun us s1 bE=>?_)
 obtain⟨xs,H1,aU,r,z,q⟩:=bE
 refine ⟨by rw[<-r.length];exact z,?_⟩
 have aG:H1 s1.heap.objs.size=aw:=aU.aP.fresh (cE _)
 refine⟨.ref s1.heap.objs.size,upd H1 s1.heap.objs.size (.tup xs),aU.laid (t':=s1.toks) (fun b u e=>er _ e) (cE _) ?_,I,q _ aG⟩
 exact⟨z,us,r,⟨_,ha _ I,I,_,I⟩⟩
theorem gC(h:hH X aZ t):bX X (.List aZ aR) (ajE t):=by
 intro ak s ab H Q aa aW
 refine wpAny_List_spliced (cA (h aR ak s ab H _ aa aW) fun us s1 bE=>?_)
 obtain⟨xs,H1,aU,r,z,q⟩:=bE
 refine ⟨by rw[<-r.length];exact z,?_⟩
 have aG:H1 s1.heap.objs.size=aw:=aU.aP.fresh (cE _)
 refine⟨.ref s1.heap.objs.size,upd H1 s1.heap.objs.size (.lst xs),aU.laid (t':=s1.toks) (fun b u e=>er _ e) (cE _) ?_,I,q _ aG⟩
 exact⟨z,us,0,r,ha _ I⟩
end
noncomputable abbrev b3:=List V->au->bB->bR->Prop
noncomputable abbrev lG:=List Env->au->aJ->bR->ao->aJ->Prop
structure tf(P:c1)(w:cH)(K:bN)(mg:af->Option ao)(base:bc)(A:di)(outer:List Env)(s:aJ)(H:au):Prop where
 frames:A.frames=J outer
 mod:Mod K mg base
 bs:∀b o,base.get? b=J o->s.heap.get? b=J o/\H b=aw
 ou:base.objs.size<=s.heap.objs.size
 l1:s.heap.FunFrames base outer
 qG:∀b∈iS outer,H b=aw
 aP:fA P w H s.heap
 bare:AllBare s.gens
def D7(outer:List Env)(P:c1)(w:cH)(H:au)(s:aJ)(Q:bB)(u:ao)(aF:aJ):Prop :=
 ∃v H',aF.os=s.os/\AllBare aF.gens/\fV (iS outer) [] H H' s.heap aF.heap/\fA P w H' aF.heap/\RelV v u/\Q v H'
def Si(CX:lG)(outer:List Env)(P:c1)(w:cH)(H:au)(s:aJ)(Q:bB)(E:bR)(r:Result)(aF:aJ):Prop :=
 match r with
 |.ok (.ret u)=>D7 outer P w H s Q u aF
 |.ok _=>False
 |.error e=>CX outer H s E e aF
structure cq(P:c1)(w:cH)(K:bN)(mg:af->Option ao)(base:bc)(CX:lG)(k:Nat)(f:ae)(fd:fG)(ps:List af)(sp:b3):Prop where
 len:∀vs H Q E,sp vs H Q E->vs.length=ps.length
 run:∀(A:di)(outer:List Env)(s:aJ)(H:au)(args:Args)(us:List ao)(vs:List V)(Q:bB)(E:bR),fj k A->tf P w K mg base A outer s H->BindsTo s fd args (ps.zip us)->Vals vs us->sp vs H Q E->
  k3 (model P w) A (.call (.ref f) args) (Si CX outer P w H s Q E) s
theorem cq.mono{CX:lG}{f:ae}{sp:b3}(F:cq P w K mg base CX j f fd ps sp)(h:j<=k):
  cq P w K mg base CX k f fd ps sp:=⟨F.len,fun A outer s H args us vs Q E az=>F.run A outer s H args us vs Q E (az.mono h)⟩
theorem tf.make(e:tf P w K mg base A outer s H)(C:ae)(us:List ao)(kw:List (af×ao)):
  tf P w K mg base (A.under (.builtin "type.__call__" ⟨.ref C::us,kw⟩)) outer s H:=⟨by first|exact e.frames|(simpa [di.under,Code.envs,Code.isFrame,pushEnvs] using e.frames),e.mod,e.bs,e.ou,e.l1,e.qG,e.aP,e.bare⟩
section
variable {X:bz} {ak:List (ae×bw)} {ab:St} {H:au} {s aF:aJ}
theorem Inv.wu(aa:Inv X ak ab H s):tf X.prog X.w X.K X.mg X.base X.A X.stack s H :=
 ⟨aa.ok.frames,aa.ok.mod,aa.bs,eE aa.ok.ou aa.c0,aa.stack,aa.zX,aa.aP,aa.bare⟩
theorem Inv.after{Q:bB}(aa:Inv X ak ab H s)(h:D7 X.stack X.prog X.w H s Q u aF):ik X ak ab Q u aF:=by
 obtain⟨v,H',os,bare,un,aP,r,q⟩:=h
 obtain⟨fN,g,d,t,zC⟩:=aF
 obtain rfl:zC=s.os:=os
 exact⟨v,H',aa.call (h':=fN) (g':=g) (d':=d) (t':=t) (ch:=[]) un aP bare (fun b z=>absurd z (by simp)),r,q⟩
end
def JS(sp:b3)(dvs:List V)(E:bR)(t:gL):TE:=fun ab H Q=>t ab H fun vs H1=>sp (vs++dvs) H1 Q E
inductive EA(C:ae)(m:af)(x:V)(H:au)(R:Prop):Prop where
 |mk (a al:ae) (fs:List (af×V)) (e:x=.ref a) (h:H a=J (.ins C al fs)) (l:fs.lookup m=aw) (q:R):EA C m x H R
def DK(C:ae)(m:af)(sp:b3)(dvs:List V)(E:bR)(b4:TE)(t:gL):TE:=fun ab H Q=>b4 ab H fun x H1=>EA C m x H1 (
 t ab H1 fun vs ax=>sp (x::(vs++dvs)) ax Q E)
def RP(C:ae)(sp:b3)(dvs:List V)(E:bR)(t:gL):TE:=fun ab H Q=>t ab H fun vs H1=>∀x al,H1 x=aw->H1 al=aw->al≠x->
 sp (.ref x::(vs++dvs)) (upd (upd H1 al (.own x)) x (.ins C al [])) (fun v ax=>v=.bK/\Q (.ref x) ax) E
def Binds(K:bN)(fd:fG)(ps:List af)(ds:List ao):Prop :=
 ∀(s:aJ)(us:List ao),K.In s.heap->(us++ds).length=ps.length->BindsTo s fd ⟨us,[]⟩ (ps.zip (us++ds))
theorem Binds.all(h:∀us:List ao,us.length=ps.length->bindArgs fd ⟨us,[]⟩=pure (ps.zip us)):Binds K fd ps []:=fun s us _ aB=>by
 rw[List.append_nil]at aB ⊢
 exact .of_eq (h us aB)
def Passes(CX:lG)(X:bz)(E:bR):Prop:=∀(ak:List (ae×bw))(ab:St)(H:au)(s:aJ)(e:ao)(aF:aJ),Inv X ak ab H s->CX X.stack H s E e aF->X.xe e aF
section
variable {X:bz} {CX:lG} {k:Nat} {f C:ae} {fd:fG} {ps:List af} {sp:b3} {dvs:List V} {ds:List ao} {E:bR} {x m:af} {p aR apos:Pos} {e o:b5} {aZ:List b5} {b4:TE} {t:gL}
theorem BY{ab:St}{Q:bB}{vs:List V}(F:cq X.prog X.w X.K X.mg X.base CX k f fd ps sp)(az:fj k X.A)(ar:Binds X.K fd ps ds)(hd:Vals dvs ds)(ay:Passes CX X E)
  (aa:Inv X ak ab H s) (r:Vals vs us) (h:sp (vs++dvs) H Q E):bM (model X.prog X.w) X.A (call (.ref f) us) (ik X ak ab Q) X.xe s:=by
 have ef:Vals (vs++dvs) (us++ds):=r.append hd
 have aB:(us++ds).length=ps.length:=by rw[<-ef.length];exact F.len _ _ _ _ h
 refine qc (mi (F.run X.A X.stack s H ⟨us,[]⟩ (us++ds) (vs++dvs) Q E az aa.wu (ar s us aa.eI aB) ef h) fun r aF aW=>?_)
 cases r with
 |error e=>exact ay ak ab H s e aF aa aW
 |ok dB =>
  cases dB with
  |ret u=>exact aa.after aW
  |next=>exact False.elim aW
  |brk=>exact False.elim aW
  |cont=>exact False.elim aW
theorem UZ(F:cq X.prog X.w X.K X.mg X.base CX k f fd ps sp)(az:fj k X.A)(aH:il X x)(hm:X.mg x=J (.ref f))(hk:kD X.K (.ref f)=ah)(ar:Binds X.K fd ps ds)(hd:Vals dvs ds)(ay:Passes CX X E)
  (bf:hH X (e::aZ) t) (i4:(x == ("__debug__":af))=ag:=by decide) (he:dt (e::aZ) X.env=(ag,eval e X.env)::dt aZ X.env:=by rfl) (gk:(backTo aR (dt aZ X.env)).any (·.1)=ag:=by rfl) :
  bX X (.Call (.Name x p) (e::aZ) [] aR) (JS sp dvs E t):=by
 intro ak s ab H Q aa h
 refine rm (rK aa aH hm ?_ i4)
 refine xy (h₀:=X.base) aa.ok.mod.q4 hk (cA (bf aR ak s ab H _ aa h) fun us s1 bE=>?_) he gk
 obtain⟨vs,H1,aU,r,q⟩:=bE
 refine ⟨aU.eI,?_⟩
 exact BY F az ar hd ay aU r q
theorem UW{pl:Sem Bool}(he:bX X o b4)(c:fz X.K C)(hm:tp X.K C m f)(F:cq X.prog X.w X.K X.mg X.base CX k f fd ps sp)(az:fj k X.A)(ar:Binds X.K fd ps ds)(hd:Vals dvs ds)(ay:Passes CX X E)(bf:hH X (e::aZ) t)
  (jT:dt (e::aZ) X.env=(ag,eval e X.env)::dt aZ X.env:=by rfl) (gk:(backTo aR (dt aZ X.env)).any (·.1)=ag:=by rfl)
  (aT:eval (.Call (.Attribute o m apos) (e::aZ) [] aR) X.env=(do
   let ov <-eval o X.env
   standAt apos.atName
   let (f,first) <-holding [ov] (getMethod ov m pl)
   callWith aR f first (backTo aR (dt (e::aZ) X.env)) (backToKw aR (rl [] X.env))):=by rfl) :
  bX X (.Call (.Attribute o m apos) (e::aZ) [] aR) (DK C m sp dvs E b4 t):=by
 intro ak s ab H Q aa h
 refine z7 (pl:=pl) (cA (he ak s ab H _ aa h) fun u s1 bE=>?_) aT
 obtain⟨x,H1,aU,bt,a,al,fs,ex,dd,l,q⟩:=bE
 subst ex
 obtain rfl:u=ao.ref a:=bt
 refine x5 aU dd c hm l ?_
 refine xy (first:=[.ref a]) (h₀:=X.base) aa.ok.mod.q4 hm.iD (cA (bf aR ak s1 ab H1 _ aU q) fun us s2 bE=>?_) jT gk
 obtain⟨vs,ax,bJ,r,cN⟩:=bE
 refine ⟨bJ.eI,?_⟩
 exact BY (us :=.ref a::us) (vs :=.ref a::vs) F az ar hd ay bJ (.cons I r) cN
theorem TQ{pl:Sem Bool}(he:bX X o b4)(c:fz X.K C)(hm:tp X.K C m f)(F:cq X.prog X.w X.K X.mg X.base CX k f fd ps sp)(az:fj k X.A)(ar:Binds X.K fd ps ds)(hd:Vals dvs ds)(ay:Passes CX X E)
  (aT:eval (.Call (.Attribute o m apos) [] [] aR) X.env=(do
   let ov <-eval o X.env
   standAt apos.atName
   let (f,first) <-holding [ov] (getMethod ov m pl)
   callWith aR f first (backTo aR (dt [] X.env)) (backToKw aR (rl [] X.env))):=by rfl) :
  bX X (.Call (.Attribute o m apos) [] [] aR) (DK C m sp dvs E b4 DL):=by
 intro ak s ab H Q aa h
 refine z7 (pl:=pl) (cA (he ak s ab H _ aa h) fun u s1 bE=>?_) aT
 obtain⟨x,H1,aU,bt,a,al,fs,ex,dd,l,q⟩:=bE
 subst ex
 obtain rfl:u=ao.ref a:=bt
 refine x5 aU dd c hm l ?_
 exact PySem.W.callWith_K0 (first:=[.ref a]) aU.eI hm.iD (BY (us:=[.ref a]) (vs:=[.ref a]) F az ar hd ay aU (.cons I .nil) q)
structure EC(K:bN)(C f:ae):Prop where
 makes:z6 K C=ah
 init:d4 K (.ref C) "__init__"=J (J (.ref f))
 fn:Kg K (.ref f)=ah
 iD:kD K (.ref C)=ah
theorem TK{ab:St}{Q:bB}{vs:List V}(M:EC X.K C f)(F:cq X.prog X.w X.K X.mg X.base CX k f fd ps sp)(az:fj (k+1) X.A)(ar:Binds X.K fd ps ds)(hd:Vals dvs ds)
  (ay:Passes CX X E) (aa:Inv X ak ab H s) (r:Vals vs us)
  (h:∀x al,H x=aw->H al=aw->al≠x->sp (.ref x::(vs++dvs)) (upd (upd H al (.own x)) x (.ins C al [])) (fun v ax=>v=.bK/\Q (.ref x) ax) E) :
  bM (model X.prog X.w) X.A (call (.ref C) us) (ik X ak ab Q) X.xe s:=by
 have aW:=h (s.heap.objs.size+1) s.heap.objs.size (aa.aP.fresh (Nat.le_succ _)) (aa.aP.fresh (cE _)) (fC (Nat.lt_succ_self _))
 have bJ:=Inv.made (C:=C) aa
 have ef:Vals (V.ref (s.heap.objs.size+1)::(vs++dvs)) (ao.ref (s.heap.objs.size+1)::(us++ds)) :=.cons rfl (r.append hd)
 have aB:(ao.ref (s.heap.objs.size+1)::us++ds).length=ps.length:=by
  have e:=ef.length
  rw[F.len _ _ _ _ aW]at e
  exact e.symm
 refine qc (T7 (f:=f) aa.eI M.makes M.init (beq_iff_eq.mp M.fn) (mi (F.run _ X.stack _ _ ⟨ao.ref (s.heap.objs.size+1)::us,[]⟩ (ao.ref (s.heap.objs.size+1)::(us++ds)) _ _ E (az.make C us [])
  (bJ.wu.make C us []) (ar _ (ao.ref (s.heap.objs.size+1)::us) bJ.eI aB) ef aW) fun r aF oN=>?_))
 cases r with
 |error e=>exact ay ak ab _ _ e aF bJ oN
 | ok dB =>
  cases dB with
  |ret u =>
   obtain⟨v,H',h4,dO,ev,gq⟩:=bJ.after oN
   subst ev
   exact⟨dO,⟨V.ref (s.heap.objs.size+1),H',h4,I,gq⟩⟩
  |next=>exact False.elim oN
  |brk=>exact False.elim oN
  |cont=>exact False.elim oN
theorem UX(M:EC X.K C f)(F:cq X.prog X.w X.K X.mg X.base CX k f fd ps sp)(az:fj (k+1) X.A)(aH:il X x)(hm:X.mg x=J (.ref C))(ar:Binds X.K fd ps ds)(hd:Vals dvs ds)(ay:Passes CX X E)
  (bf:hH X (e::aZ) t) (i4:(x == ("__debug__":af))=ag:=by decide) (he:dt (e::aZ) X.env=(ag,eval e X.env)::dt aZ X.env:=by rfl) (gk:(backTo aR (dt aZ X.env)).any (·.1)=ag:=by rfl) :
  bX X (.Call (.Name x p) (e::aZ) [] aR) (RP C sp dvs E t):=by
 intro ak s ab H Q aa h
 refine rm (rK aa aH hm ?_ i4)
 refine xy (h₀:=X.base) aa.ok.mod.q4 M.iD (cA (bf aR ak s ab H _ aa h) fun us s1 bE=>?_) he gk
 obtain⟨vs,H1,aU,r,q⟩:=bE
 refine ⟨aU.eI,?_⟩
 exact TK M F az ar hd ay aU r q
end
structure bZ(N P:List af)(sc:Scope):Prop where
 kind:sc.kind=.function
 co:sc.isCoroutine=ag
 gen:sc.isGenerator=ag
 bp:N.Nodup
 pre:N.take P.length=P
 par:∀x∈P,sc.names.lookup x=J .local\/sc.names.lookup x=J .cell
 Jg:∀y∈sc.names,y.2≠.free
theorem b9{P:List af}(kind:sc.kind=.function:=by first|rfl|decide+kernel)(co:sc.isCoroutine=ag:=by first|rfl|decide+kernel)(gen:sc.isGenerator=ag:=by first|rfl|decide+kernel)(bp:N.Nodup:=by first|rfl|decide+kernel)(pre:N.take P.length=P:=by first|rfl|decide+kernel)(par:∀x∈P,sc.names.lookup x=J .local\/sc.names.lookup x=J .cell:=by first|rfl|decide+kernel)(Jg:∀y∈sc.names,y.2≠.free:=by first|rfl|decide+kernel):bZ N P sc:=⟨kind,co,gen,bp,pre,par,Jg⟩
theorem MX{kindOf:af->Option jZ}{x:af}:∀{binds:List (af×ao)}{m:af->Option ao},(∀v,(x,v)∉binds)->bindL kindOf binds m x=m x
 |[],_,_=>rfl
 | (n,v)::r,m,h=>by
  unfold bindL
  rw[MX fun w hw=>h w (fD _ hw)]
  split
  ·have:x≠n:=by rintro rfl;exact h v hM
   simp[this]
  .rfl
theorem MZ{kindOf:af->Option jZ}{x:af}:∀{binds:List (af×ao)}{m:af->Option ao},(∀v,(x,v)∉binds)->bindC kindOf binds m x=m x
 |[],_,_=>rfl
 | (n,v)::r,m,h=>by
  unfold bindC
  rw[MZ fun w hw=>h w (fD _ hw)]
  split
  .rfl
  ·have:x≠n:=by rintro rfl;exact h v hM
   simp[this]
theorem MY{kindOf:af->Option jZ}{x:af}{v:ao}:∀{P:List af}{vs:List ao}{i:Nat}{m:af->Option ao},P.Nodup->P[i]?=J x->vs[i]?=J v->kindOf x=J .local->
  bindL kindOf (P.zip vs) m x=J v
 |[],_,_,_,_,h,_,_=>by simp at h
 |_::_,[],_,_,_,_,h,_=>by simp at h
 |p::P,w::vs,0,m,bp,aj,aq,hk=>by
  simp at aj aq;subst aj;subst aq
  show bindL kindOf ((p,w)::P.zip vs) m p=_
  unfold bindL
  rw[MX fun v bg=>(List.nodup_cons.mp bp).1 (List.of_mem_zip bg).1,if_pos hk]
  simp
 |p::P,w::vs,i+1,m,bp,aj,aq,hk=>by
  show bindL kindOf ((p,w)::P.zip vs) m x=_
  unfold bindL
  exact MY (i:=i) (List.nodup_cons.mp bp).2 (by simpa using aj) (by simpa using aq) hk
theorem M0{kindOf:af->Option jZ}{x:af}{v:ao}:∀{P:List af}{vs:List ao}{i:Nat}{m:af->Option ao},P.Nodup->P[i]?=J x->vs[i]?=J v->kindOf x≠J .local->
  bindC kindOf (P.zip vs) m x=J v
 |[],_,_,_,_,h,_,_=>by simp at h
 |_::_,[],_,_,_,_,h,_=>by simp at h
 |p::P,w::vs,0,m,bp,aj,aq,hk=>by
  simp at aj aq;subst aj;subst aq
  show bindC kindOf ((p,w)::P.zip vs) m p=_
  unfold bindC
  rw[MZ fun v bg=>(List.nodup_cons.mp bp).1 (List.of_mem_zip bg).1,if_neg hk]
  simp
 |p::P,w::vs,i+1,m,bp,aj,aq,hk=>by
  show bindC kindOf ((p,w)::P.zip vs) m x=_
  unfold bindC
  exact M0 (i:=i) (List.nodup_cons.mp bp).2 (by simpa using aj) (by simpa using aq) hk
noncomputable def start(N:List af)(vs:List V):St:=vs.map J++List.replicate (N.length-vs.length) aw
noncomputable def kt(CX:lG)(P:c1)(w:cH)(K:bN)(mg:af->Option ao)(base:bc)(N:List af)(dJ:af)(cX:Scope)(f:ae)(c9:ao)(A:di)(outer:List Env)(s:aJ)(H:au)(E:bR):bz where
 prog:=P
 w:=w
 K:=K
 mg:=mg
 base:=base
 A:=A.deeper (envOfC dJ cX s.heap.objs.size f c9)
 N:=N
 dm:=s
 hi:=H
 env:=envOfC dJ cX s.heap.objs.size f c9
 outer:=outer
 stack:=envOfC dJ cX s.heap.objs.size f c9::outer
 ex:=[]
 calm:=ah
 fn:=fun _=>ah
 pn:=[]
 xe:=fun e aF=>bM (model P w) (A.deeper (envOfC dJ cX s.heap.objs.size f c9)) (leaving (envOfC dJ cX s.heap.objs.size f c9) e) (fun _ oY=>CX outer H s E e oY) (fun e' oY=>CX outer H s E e' oY) aF
theorem Nv{x:af}(h:sc.names.lookup x=J .cell):∃c,(cellsFrom n sc.names []).lookup x=J c:=by
 have q:=PySem.W.cellsFrom_some sc.names n [] (.inl h)
 exact Option.isSome_iff_exists.mp q
theorem ZX{CX:lG}{f:ae}{c9:ao}{s1:aJ}{E:bR}{vs:List V}
  (S:bZ N ps cX) (hd:A.handled=aw) (eP:tf P w K mg base A outer s H) (aB:vs.length=ps.length) (r:Vals vs us)
  (x:InCallC s s.heap.objs.size (bindL (envOfC dJ cX s.heap.objs.size f c9).kindOf (ps.zip us) fun _=>aw) (cellsFrom (s.heap.objs.size+1) cX.names []) (bindC (envOfC dJ cX s.heap.objs.size f c9).kindOf (ps.zip us) fun _=>aw) s1) :
  Inv (kt CX P w K mg base N dJ cX f c9 A outer s H E) [] (start N vs) H s1:=by
 have gk:ps.length<=N.length:=by have:=congrArg List.length S.pre;rw[hb]at this;omega
 obtain⟨aj,cp,rfl,hk⟩:=x.done
 have zw:∀b:ae,b∉(kt CX P w K mg base N dJ cX f c9 A outer s H E).ex:=fun b z=>absurd (show b∈([]:List ae)from z) (by simp)
 refine⟨⟨eP.mod,S.kind,I,I,cE _,fun y z c aj aq=>?_,fun y bP=>?_,fun y c _ h=>?_,fun _=>hd,di.frames_deeper eP.frames,.inr ⟨I,I⟩,fun b z=>absurd z (zw b),eP.bs,eP.ou,fun b _ _=>zw b,fun b z=>absurd z (zw b),eP.l1,eP.qG⟩,
  rfl,eP.bare,fV.kept hk,⟨_,x.toInCall.ns,fun i y v aj aq bl=>?_⟩,fun y c h=>⟨_,x.cell y c h⟩,eP.aP.fresh (cE _),fun y c h=>?_,fun p bj=>absurd (show p∈([]:List (ae×bw))from bj) (by simp),eP.aP.kept hk,?_⟩
 .exact name_of_addr x.apart (PySem.mem_of_lookup aj) (PySem.mem_of_lookup aq)
 ·have bP:cX.names.lookup y=J .cell\/cX.names.lookup y=J .free:=bP
  rcases bP with bP|bP
  .exact Nv bP
  .exact absurd I (S.Jg _ (PySem.mem_of_lookup bP))
 .exact Nat.le_of_lt (x.above y c (PySem.mem_of_lookup h))
 ·have aC:i<vs.length:=by
   unfold start at aq
   by_cases aC:i<vs.length
   .exact aC
   ·rw[List.getElem?_append_right (by simpa using aC)]at aq
    rw[List.getElem?_replicate]at aq
    split at aq<;>cases aq
  have bf:vs[i]?=J v:=by
   unfold start at aq
   rw[List.getElem?_append_left (by simpa using aC),gf]at aq
   cases e:vs[i]? with
   |none=>rw[e]at aq;cases aq
   |some a=>rw[e]at aq;cases aq;rfl
  obtain⟨u,dY,dO⟩:=r.get bf
  have bj:ps[i]?=J y:=by
   rw[<-S.pre,List.getElem?_take_of_lt (by omega)];exact aj
  have PW:ps.Nodup:=by rw[<-S.pre];exact S.bp.sublist (List.take_sublist _ _)
  refine⟨u,dO,?_⟩
  rcases S.par y (kl bj)with k|k
  .exact .inl ⟨k,MY PW bj dY k⟩
  ·obtain⟨c,e⟩:=Nv (n:=s.heap.objs.size+1) k
   refine .inr ⟨.inl k,c,e,?_⟩
   have q:=x.cell y c e
   rw[M0 PW bj dY (by show cX.names.lookup y≠_;rw[k];decide)]at q
   exact q
 .exact eP.aP.fresh (Nat.le_of_lt (x.above y c (PySem.mem_of_lookup h)))
 ·unfold start
  show _=N.length
  rw[cD,cC,List.length_replicate]
  omega
theorem LF{CX:lG}{f:ae}{name:af}{params:Arguments}{Ci gm:ao}
  {sp:b3} (pU:K.lookup f=J ⟨iE,od,.func (lE name dJ params body cX Ci gm doc pm an bh ct),mS⟩) (ky:u9 K bh dJ=ah) (S:bZ N ps cX)
  (len:∀vs H Q E,sp vs H Q E->vs.length=ps.length)
  (jR:∀(A:di)(outer:List Env)(s:aJ)(H:au)(vs:List V)(Q:bB)(E:bR),fj k (A.deeper (envOfC dJ cX s.heap.objs.size f bh))->sp vs H Q E->
   ∃t,ht (kt CX P w K mg base N dJ cX f bh A outer s H E) body t/\t {nx:=fun _ H'=>Q .bK H',rt:=Q} (start N vs) H) :
  cq P w K mg base CX (k+1) f (lE name dJ params body cX Ci gm doc pm an bh ct) ps sp:=by
 refine⟨len,fun A outer s H args us vs Q E az eP ar r oP=>?_⟩
 have aB:=len _ _ _ _ oP
 have KX:K.In s.heap:=eP.mod.q4.keeps fun b o e=>(eP.bs b o e).1
 have lim:s.heap.NoLimit:=eP.mod.nolimit.keeps fun b o e=>(eP.bs b o e).1
 have adz:∀y∈ps.zip us,cX.names.lookup y.1=J .local\/(cX.names.lookup y.1=J .cell/\((cellsFrom (s.heap.objs.size+1) cX.names []).lookup y.1).isSome=ah):=fun⟨n,v⟩ bP=>by
  rcases S.par n (List.of_mem_zip bP).1 with q|q
  .exact .inl q
  .exact .inr ⟨q,PySem.W.cellsFrom_some _ _ _ (.inl q)⟩
 refine codeAny_call_function az.depth (KX _ _ pU) I S.co S.gen I (PySem.W.codeRec_of KX ky) (ar _ _ _ _ ?_)
 refine wpAny_newFunctionEnv_cells S.kind adz fun env he s1 x=>?_
 subst he
 refine⟨lim.keeps x.toInCall.keep,codeAny_func ?_⟩
 obtain⟨t,aT,aW⟩:=jR A outer s H vs Q E (az.deeper _) oP
 have aa:Inv (kt CX P w K mg base N dJ cX f bh A outer s H E) [] (start N vs) H s1:=ZX S az.hd eP aB r x
 refine jD (aT [] s1 (start N vs) H _ aa aW) (fun dB aF hs=>?_) fun e aF hs=>hs
 have cZ:∀{bU:St}{H':au}{v:V}{u:ao},Inv (kt CX P w K mg base N dJ cX f bh A outer s H E) [] bU H' aF->RelV v u->Q v H'->D7 outer P w H s Q u aF :=
  fun{bU H' v u}dQ dO q=>⟨v,H',dQ.os,dQ.bare,dQ.base,dQ.aP,dO,q⟩
 cases dB with
 |ret u =>
  obtain⟨v,bU,H',dQ,dO,q⟩:=hs
  exact cZ dQ dO q
 |next =>
  obtain⟨bU,H',dQ,q⟩:=hs
  exact cZ (v:=V.bK) (u:=ao.none) dQ I q
 |brk =>
  obtain⟨_,_,_,q⟩:=hs
  exact False.elim q
 |cont =>
  obtain⟨_,_,_,q⟩:=hs
  exact False.elim q
section
variable {X:bz} {x:af} {p aR:Pos} {e:b5} {aZ:List b5} {t:gL} {id T:String} {r:List V->au->bB->Prop}
def RN(r:List V->au->bB->Prop)(t:gL):TE:=fun ab H Q=>t ab H fun vs H1=>r vs H1 Q
theorem cy(hc:jE X (.builtin id) r)(aH:il X x)(hm:X.mg x=aw)(bg:kg x=J (.builtin id))(bf:hH X (e::aZ) t)(bo:x≠"__name__":=by decide)(i4:(x == ("__debug__":af))=ag:=by decide)
  (he:dt (e::aZ) X.env=(ag,eval e X.env)::dt aZ X.env:=by rfl) (gk:(backTo aR (dt aZ X.env)).any (·.1)=ag:=by rfl):bX X (.Call (.Name x p) (e::aZ) [] aR) (RN r t):=by
 intro ak s ab H Q aa h
 refine rm (pF aa aH hm bg ?_ bo i4)
 refine PyProof.Rows.callWith_builtin1 (cA (bf aR ak s ab H _ aa h) fun us s1 bE=>?_) he gk
 obtain⟨vs,H1,aU,cK,cm⟩:=bE
 exact hc ak s1 ab H1 vs us Q aU cK cm
theorem qu(hc:jE X (.type T) r)(aH:il X x)(hm:X.mg x=aw)(bg:kg x=J (.type T))(bf:hH X (e::aZ) t)(bo:x≠"__name__":=by decide)(i4:(x == ("__debug__":af))=ag:=by decide)
  (he:dt (e::aZ) X.env=(ag,eval e X.env)::dt aZ X.env:=by rfl) (gk:(backTo aR (dt aZ X.env)).any (·.1)=ag:=by rfl):bX X (.Call (.Name x p) (e::aZ) [] aR) (RN r t):=by
 intro ak s ab H Q aa h
 refine rm (pF aa aH hm bg ?_ bo i4)
 refine PyProof.Rows.callWith_type1 (cA (bf aR ak s ab H _ aa h) fun us s1 bE=>?_) he gk
 obtain⟨vs,H1,aU,cK,cm⟩:=bE
 exact hc ak s1 ab H1 vs us Q aU cK cm
end
end dT
namespace ek
open PySem PyProof.Rows
section
open PySem.SeqAt
open PySem.AutoSeq1 (wpAny_loadPart')
open PySem.MeetsSeq PySem.MeetsSeq2 PySem.MeetsSeq3
end
section
variable {prog:c1} {w:cH} {A:di} {E:ao->aJ->Prop} {s:aJ}
noncomputable def fi(n d:Nat):Option Int->Nat
 |none=>d
 |some v=>if v<0 then(v+(n:Int)).toNat else min v.toNat n
theorem zL(n d:Nat):fi n d aw=d:=rfl
theorem zK(n d k:Nat):fi n d (J (k:Int))=min k n:=by
 show(if(k:Int)<0 then((k:Int)+(n:Int)).toNat else min (k:Int).toNat n)=min k n
 rw[if_neg (by omega),Int.toNat_natCast]
theorem Qk(n d:Nat)(hd:d<=n)(o:Option Int):fi n d o<=n:=by
 cases o with
 |none=>exact hd
 |some v =>
  show(if v<0 then(v+(n:Int)).toNat else min v.toNat n)<=n
  by_cases bg:v<0
  .rw[if_pos bg];omega
  .rw[if_neg bg];exact Nat.min_le_right _ _
end
end ek
variable {p:ae} {ab:dT.St} {H:dT.au} {xs bb:List dT.V} {its':List ao} {v:ao}
namespace dT
open PySem PySem.Spec PyProof.Rows
noncomputable abbrev dK:=St->au->(Option Int->au->Prop)->Prop
def xV(X:bz)(e:Option b5)(t:dK):Prop :=
 ∀(ak:List (ae×bw))(s:aJ)(ab:St)(H:au)(Q:Option Int->au->Prop),Inv X ak ab H s->t ab H Q->
  bM (model X.prog X.w) X.A (evalPart e X.env) (fun u aF=>∃o H',Inv X ak ab H' aF/\IsPart u o/\Q o H') X.xe s
noncomputable def ajH:dK:=fun _ H Q=>Q aw H
noncomputable def ajL(t:TE):dK:=fun ab H Q=>t ab H fun x H1=>∃i,x=.int i/\Q (J i) H1
variable {r:V->Option Int->Option Int->au->bB->Prop}
section
variable {X:bz} {e:b5} {cG:TE} {lo aC:Option b5} {eg p6:dK} {aR iU:Pos}
theorem iP:xV X aw ajH:=by
 intro ak s ab H Q aa h
 rw[evalPart_none]
 exact dD ⟨aw,H,aa,.none,h⟩
theorem h8(h:bX X e cG):xV X (J e) (ajL cG):=by
 intro ak s ab H Q aa hw
 rw[evalPart_some]
 refine cA (h ak s ab H _ aa hw) fun u s1 bE=>?_
 obtain⟨x,H1,aU,cK,cm⟩:=bE
 obtain⟨i,rfl,q⟩:=cm
 obtain⟨t,rfl⟩:=cK
 exact⟨J i,H1,aU,.int i t,q⟩
def rB(X:bz)(r:V->Option Int->Option Int->au->bB->Prop):Prop :=
 ∀(ak:List (ae×bw))(s:aJ)(ab:St)(H:au)(x:V)(v nR nS:ao)(lo aC:Option Int)(df:ae)(Q:bB),Inv X ak ab H s->RelV x v->s.heap.IsSliceOf df nR nS .none->IsPart nR lo->IsPart nS aC->r x lo aC H Q->
  ∃T id,typeLookup (.type T) "__getitem__"=pure (J (.builtin id))/\s.TypeIs v T/\bM (model X.prog X.w) X.A (getItem v (.ref df)) (ik X ak ab Q) X.xe s
theorem rB.or{fe:V->Option Int->Option Int->au->bB->Prop}(h:rB X r)(h':rB X fe):rB X (fun x lo aC H Q=>r x lo aC H Q\/fe x lo aC H Q):=by
 intro ak s ab H x v nR nS lo aC df Q aa bt hs pl pu q
 rcases q with q|q
 .exact h ak s ab H x v nR nS lo aC df Q aa bt hs pl pu q
 .exact h' ak s ab H x v nR nS lo aC df Q aa bt hs pl pu q
def ajO(r:V->Option Int->Option Int->au->bB->Prop)(cG:TE)(eg p6:dK):TE:=fun ab H Q=>cG ab H fun x H1=>eg ab H1 fun l ax=>p6 ab ax fun u bA=>r x l u bA Q
theorem iw(az:rB X r)(he:bX X e cG)(aB:xV X lo eg)(dY:xV X aC p6):bX X (.Subscript e (.Slice lo aC aw iU) aR) (ajO r cG eg p6):=by
 intro ak s ab H Q aa h
 refine Subscript_ (cA (he ak s ab H _ aa h) fun v s1 bE=>?_)
 obtain⟨x,H1,aU,cK,cm⟩:=bE
 refine wpAny_Slice (cA (aB ak s1 ab H1 _ aU cm) fun nR s2 ⟨l,ax,bJ,pl,cN⟩=>cA (dY ak s2 ab ax _ bJ cN) fun nS hE bE=>?_)
 obtain⟨u,bA,h4,pu,gq⟩:=bE
 rw[evalPart_none]
 refine dD ?_
 have pg:Inv X ak ab bA {hE with heap:=hE.heap.push {cls :=.type "slice",data :=.fields #[nR,nS,.none]}}:=h4.kept (t':=hE.toks) fun b dN q=>er _ q
 obtain⟨T,id,cf,aT,aH⟩:=az ak {hE with heap:=hE.heap.push {cls :=.type "slice",data :=.fields #[nR,nS,.none]}} ab bA x v nR nS l u hE.heap.objs.size Q pg cK (bc.IsSliceOf.new ..) pl pu gq
 show bM (model X.prog X.w) X.A (subscriptTail e (.Slice lo aC aw iU) v (.ref hE.heap.objs.size)) (ik X ak ab Q) X.xe {hE with heap:=hE.heap.push {cls :=.type "slice",data :=.fields #[nR,nS,.none]}}
 exact tail_any (ops:=[.ref hE.heap.objs.size,v]) aT cf aH (by with_unfolding_all rfl)
noncomputable def kO(xs:List V)(lo aC:Option Int):List V:=(xs.drop (ek.fi xs.length 0 lo)).take (ek.fi xs.length xs.length aC-ek.fi xs.length 0 lo)
theorem YU(xs:List V)(lo aC:Option Int):(kO xs lo aC).length<=xs.length:=by
 unfold kO
 rw[hb,kn]
 omega
end
noncomputable def oT(n:Nat)(i:Int):Option Nat:=if 0<=i then(if i<n then J i.toNat else aw)else if -(n:Int)<=i then J (i+n).toNat else aw
noncomputable def eG{α:Type}(xs:List α)(i:Int):Option α:=(oT xs.length i).bind fun j=>xs[j]?
theorem NF{i:Int}(h:oT n i=J j):seqIndex? i n=J j/\j<n/\-(n:Int)<=i/\i<n:=by
 unfold oT at h
 by_cases bu:0<=i
 ·rw[if_pos bu]at h
  by_cases aj:i<n
  ·rw[if_pos aj]at h
   have e:i.toNat=j:=gX h
   exact⟨by rw[seqIndex_of bu aj,e],by omega,by omega,aj⟩
  .rw[if_neg aj]at h;cases h
 ·rw[if_neg bu]at h
  by_cases aj : -(n:Int)<=i
  ·rw[if_pos aj]at h
   have e:(i+n).toNat=j:=gX h
   exact⟨by rw[seqIndex_neg (by omega) aj,e],by omega,aj,by omega⟩
  .rw[if_neg aj]at h;cases h
theorem BW{xs:List α}{i:Int}{v:α}(h:eG xs i=J v):∃j,seqIndex? i xs.length=J j/\xs[j]?=J v/\j<xs.length/\-(xs.length:Int)<=i/\i<xs.length:=by
 unfold eG at h
 cases e:oT xs.length i with
 |none=>rw[e]at h;cases h
 |some j =>
  rw[e]at h
  obtain⟨aj,aq,bl,bW⟩:=NF e
  exact⟨j,aj,h,aq,bl,bW⟩
theorem dA{xs:List α}{v:α}(h:xs[j]?=J v):eG xs (j:Int)=J v:=by
 have cv:j<xs.length:=(km.mp h).1
 have e:oT xs.length (j:Int)=J j:=by
  unfold oT
  rw[if_pos (by omega),if_pos (by omega)];simp
 unfold eG;rw[e];exact h
theorem Uz(xs:List α)(v:α):eG (xs++[v]) (-1)=J v:=by
 have aB:(xs++[v]).length=xs.length+1:=by simp
 have e:oT (xs++[v]).length (-1)=J xs.length:=by
  unfold oT
  rw[aB,if_neg (by decide),if_pos (by omega)]
  congr 1
  omega
 unfold eG
 rw[e]
 show(xs++[v])[xs.length]?=J v
 simp
def KL(b:b5):Prop:=∀o i,subscripted b ag o i=operate [o,i] (getItem o i)
def n7(X:bz)(r:ir):Prop :=
 ∀(value slice:b5)(ak:List (ae×bw))(s:aJ)(ab:St)(H:au)(x y:V)(v u:ao)(Q:bB),Inv X ak ab H s->RelV x v->RelV y u->r x y H Q->
  subscripted slice ag v u=operate [v,u] (getItem v u)->bM (model X.prog X.w) X.A (subscriptTail value slice v u) (ik X ak ab Q) X.xe s
def tq(X:bz)(id:String)(r:V->List V->au->bB->Prop):Prop :=
 ∀(ak:List (ae×bw))(s:aJ)(ab:St)(H:au)(x:V)(xs:List V)(v:ao)(us:List ao)(Q:bB),Inv X ak ab H s->RelV x v->Vals xs us->r x xs H Q->
  bM (model X.prog X.w) X.A (call (.builtin id) (v::us)) (ik X ak ab Q) X.xe s
section
variable {X:bz} {a b:b5} {b4 dg:TE} {aR:Pos}
theorem n7.or{r fe:ir}(h:n7 X r)(h':n7 X fe):n7 X (fun x y H Q=>r x y H Q\/fe x y H Q):=by
 intro value slice ak s ab H x y v u Q aa bt cn q hs
 rcases q with q|q
 .exact h value slice ak s ab H x y v u Q aa bt cn q hs
 .exact h' value slice ak s ab H x y v u Q aa bt cn q hs
theorem Wb{r:ir}(az:n7 X r)(bf:bX X a b4)(ar:bX X b dg)(hs:KL b):bX X (.Subscript a b aR) (p5 r b4 dg):=by
 intro ak s ab H Q aa h
 exact Subscript_ (Ho bf ar aa h fun v u s2 x y ax bJ bt cn q=>az a b ak s2 ab ax x y v u Q bJ bt cn q (hs _ _))
inductive Kz(K:bN)(x y:V)(H:au)(Q:V->Prop):Prop where
 |mk (p:ae) (xs:List V) (i:Int) (v:V) (a:x=.ref p) (b:y=.int i) (c:dE K H p xs) (d:eG xs i=J v) (h:Q v):Kz K x y H Q
def Jp(K:bN):ir:=fun x y H Q=>Kz K x y H fun v=>Q v H
inductive KB(K:bN)(x y:V)(H:au)(Q:V->Prop):Prop where
 |mk (p:ae) (xs:List V) (i:Int) (v:V) (a:x=.ref p) (b:y=.int i) (c:jI K H p xs) (d:eG xs i=J v) (h:Q v):KB K x y H Q
def Jr(K:bN):ir:=fun x y H Q=>KB K x y H fun v=>Q v H
def Jq:ir:=fun x y H Q=>∃z i c,x=.str z/\y=.int i/\z.length<=bY/\eG z.cps.toList i=J c/\Q (.str ⟨#[c]⟩) H
theorem Vd:n7 X (Jp X.K):=by
 intro value slice ak s ab H x y v u Q aa bt cn h hs
 obtain⟨p,xs,i,z,rfl,rfl,aW,he,q⟩:=h
 cases bt
 obtain⟨t,rfl⟩:=cn
 obtain⟨bq,r,pl,bC⟩:=aa.list aW
 obtain⟨j,aj,aq,bl,bW,d0⟩:=BW he
 obtain⟨w,pK,zJ⟩:=r.get aq
 have aB:=r.length
 have bo:=uF
 have cZ:ik X ak ab Q w s:=⟨z,H,aa,zJ,q⟩
 by_cases bu:0<=i
 ·have cv:i.toNat=j:=by
   rw[seqIndex_of bu d0]at aj
   exact gX aj
  exact item_listR pl.isList bu (by omega) (by rw[cv];simpa using pK) cZ hs
 ·have cv:(i+(bq.toArray.size:Int)).toNat=j:=by
   rw[seqIndex_neg (by omega) bW]at aj
   rw[fW,<-aB]
   exact gX aj
  exact subscriptTail_builtinR (x:=w) pl.isList.typeIs slot_list_getitem.lookup
   (wpAny_getItem_list_neg (Q:=fun r aF=>r=w/\ik X ak ab Q r aF) pl.isList (by omega) (by rw[fW]<;>omega) (by omega) (by rw[cv];simpa using pK) ⟨rfl,cZ⟩) hs
theorem VV:n7 X (Jr X.K):=by
 intro value slice ak s ab H x y v u Q aa bt cn h hs
 obtain⟨p,xs,i,z,rfl,rfl,aW,he,q⟩:=h
 cases bt
 obtain⟨t,rfl⟩:=cn
 obtain⟨bq,r,pl,bC⟩:=aa.tuple aW
 obtain⟨j,aj,aq,bl,bW,d0⟩:=BW he
 obtain⟨w,pK,zJ⟩:=r.get aq
 have aB:=r.length
 have bo:=uF
 have cZ:ik X ak ab Q w s:=⟨z,H,aa,zJ,q⟩
 exact subscriptTail_builtinR (x:=w) pl.typeIs slot_tuple_getitem.lookup
  (getItem_tuple (j:=j) (Q:=fun r aF=>r=w/\ik X ak ab Q r aF) pl (by omega) (by omega) (by rw[fW,<-aB];exact aj) (by simpa using pK) ⟨rfl,cZ⟩) hs
theorem VW:n7 X Jq:=by
 intro value slice ak s ab H x y v u Q aa bt cn h hs
 obtain⟨z,i,c,rfl,rfl,bC,he,q⟩:=h
 obtain⟨t,rfl⟩:=bt
 obtain⟨t',rfl⟩:=cn
 obtain⟨j,aj,aq,bl,bW,d0⟩:=BW he
 have aB:z.cps.toList.length=z.length:=by simp[af.length]
 rw[aB]at aj bW d0
 have bo:=uF
 exact tail_any (typeIs_str s z t) slot_str_getitem.lookup (getItem_str (c:=c) (by
  have aI:decide (i < -(2^63:Int))=ag:=gu (by omega)
  have aL:decide (i>=2^63)=ag:=gu (by omega)
  rw[aI,aL,Bool.or_false]) (by rw[aj];simpa using aq) ⟨.str ⟨#[c]⟩,H,aa.tok _,⟨_,rfl⟩,q⟩) hs
theorem Zk(bq:List ao)(n j:Nat)(u:ao):bw.mapSeq (·.setIfInBounds j u) {cls :=.type "list",data :=.seq bq.toArray n}={cls :=.type "list",data :=.seq (bq.set j u).toArray n}:=by
 simp[bw.mapSeq]
theorem Inv.lst(aa:Inv X ak ab H s)(h:H p=J (.lst xs)):
  ∃(bq:List ao)(n:Nat),Vals xs bq/\s.heap.get? p=J {cls :=.type "list",data :=.seq bq.toArray n}/\xs.length<=bY:=by
 obtain⟨z,bq,n,r,e⟩:=aa.aP p _ h
 exact⟨bq,n,r,e,z⟩
theorem Inv.afJ{zq:Nat}{f:bw->bw}(aa:Inv X ak ab H s)(h:H p=J (.lst xs))
  (aK:s.heap.get? p=J {cls :=.type "list",data :=.seq bq.toArray n}) (aG:f {cls :=.type "list",data :=.seq bq.toArray n}={cls :=.type "list",data :=.seq its'.toArray zq}) (r:Vals bb its') (bC:bb.length<=bY) (t:Nat) :
  Inv X ak ab (upd H p (.lst bb)) {s with heap:=s.heap.update p f,toks:=t}:=by
 have e:(s.heap.update p f).get? p=J {cls :=.type "list",data :=.seq its'.toArray zq}:=by
  rw[bc.get?_update_self f aK (by rw[aG]<;>rfl),aG]
 refine aa.write (x:=p) (e:=p) (by rw[h];trivial) (.inl I) (fun b u ar q=>(bc.get?_update_other _ _ (ea ar)).trans q) ⟨_,e⟩ ?_
 exact⟨bC,its',zq,r,e⟩
noncomputable def ai5:V->V->V->au->(au->Prop)->Prop:=fun o i v H Q=>∃p xs k j,o=.ref p/\i=.int k/\H p=J (.lst xs)/\oT xs.length k=J j/\Q (upd H p (.lst (xs.set j v)))
theorem TI:KJ X ai5:=by
 intro ak s ab H o i v ov q1 u Q aa aja ai9 dO h
 obtain⟨p,xs,k,j,rfl,rfl,bj,cv,q⟩:=h
 cases aja
 obtain⟨t,rfl⟩:=ai9
 obtain⟨bq,n,r,aK,bC⟩:=aa.lst bj
 obtain⟨aj,aq,bl,bW⟩:=NF cv
 have aB:=r.length
 have bo:=uF
 have gz:Inv X ak ab (upd H p (.lst (xs.set j v))) {s with heap:=s.heap.update p (bw.mapSeq (·.setIfInBounds j u))} :=
  aa.afJ bj aK (Zk bq n j u) (r.set dO j) (by rw[List.length_set];exact bC) s.toks
 by_cases bu:0<=k
 ·have hk:k.toNat=j:=by
   rw[seqIndex_of bu bW]at aj
   exact gX aj
  exact PySem.W.ki_setAt aK bu (by omega) (by rw[fW,<-aB];exact bW) (by rw[hk];exact⟨_,gz,q⟩)
 ·have hk:(k+(bq.toArray.size:Int)).toNat=j:=by
   rw[seqIndex_neg (by omega) bl]at aj
   rw[fW,<-aB]
   exact gX aj
  exact PySem.W.ki_setBack aK (by omega) (by rw[fW,<-aB];exact bl) (by omega) (by rw[hk];exact⟨_,gz,q⟩)
theorem XR(lo aC:Option Int)(n:Nat):(sliceBounds lo aC aw n).1=((ek.fi n 0 lo:Nat):Int)/\(sliceBounds lo aC aw n).2.1=((ek.fi n n aC:Nat):Int)/\(sliceBounds lo aC aw n).2.2=1:=by
 refine⟨?_,?_,I⟩
 ·cases lo with
  |none=>simp[sliceBounds,ek.fi]
  |some i =>
   simp only[sliceBounds,ek.fi,Option.getD_none,show(1:Int) > 0 by decide,if_true]
   by_cases h:i<0
   .simp only[h,if_true]<;>omega
   .simp only[h,if_false]<;>omega
 ·cases aC with
  |none=>simp[sliceBounds,ek.fi]
  |some i =>
   simp only[sliceBounds,ek.fi,Option.getD_none,show(1:Int) > 0 by decide,if_true]
   by_cases h:i<0
   .simp only[h,if_true]<;>omega
   .simp only[h,if_false]<;>omega
theorem Xn(bq:List ao)(lo aC:Option Int):slicePick bq.toArray lo aC aw=((bq.drop (ek.fi bq.length 0 lo)).take (ek.fi bq.length bq.length aC-ek.fi bq.length 0 lo)).toArray:=by
 obtain⟨aj,aq,bl⟩:=XR lo aC bq.toArray.size
 unfold slicePick
 rw[aj,aq,bl]
 simp only[sliceRange_one,pick_run,fW]<;>rfl
inductive KS(K:bN)(x:V)(H:au)(Q:List V->Prop):Prop where
 |mk (a:ae) (xs:List V) (e:x=.ref a) (h:dE K H a xs) (q:Q xs):KS K x H Q
noncomputable def ai6(K:bN):V->Option Int->Option Int->au->bB->Prop:=fun x lo aC H Q=>KS K x H fun xs=>∀p,H p=aw->Q (.ref p) (upd H p (.lst (kO xs lo aC)))
theorem UM:rB X (ai6 X.K):=by
 intro ak s ab H x v nR nS lo aC df Q aa bt hs pl pu h
 obtain⟨a,xs,rfl,ay,q⟩:=h
 cases bt
 obtain⟨bq,r,aT,bC⟩:=aa.list ay
 have cL:=r.length
 refine⟨"list",_,slot_list_getitem.lookup,aT.isList.typeIs,?_⟩
 refine wpAny_getItem_list_slice aT.isList hs pl pu .none (by simp) ?_ (by rw[fW]<;>omega)
 rw[Xn,<-cL]
 refine⟨.ref s.heap.objs.size,_,aa.laid (t':=s.toks) (o :=.lst (kO xs lo aC)) (fun b dN q=>er _ q) (cE _) ?_,I,q _ (aa.aP.fresh (cE _))⟩
 exact⟨eE (YU xs lo aC) bC,_,0,(r.drop (ek.fi xs.length 0 lo)).take (ek.fi xs.length xs.length aC-ek.fi xs.length 0 lo),ha _ I⟩
noncomputable def r0:V->Bool
 |.bK=>ah
 |.aN _=>ah
 |.int _=>ah
 |.str _=>ah
 |_=>ag
noncomputable def nr:V->V->Bool
 |.bK,.bK=>ah
 |.aN a,.aN b=>a == b
 |.aN a,.int b=>(if a then 1 else 0) == b
 |.int a,.aN b=>a == (if b then 1 else 0)
 |.int a,.int b=>a == b
 |.str a,.str b=>a == b
 |_,_=>ag
theorem VZ{y x:V}(cn:RelV y u)(bt:RelV x v)(ab6:r0 y=ah)(pN:r0 x=ah):SeqAt.EqAt A s u v (nr y x):=by
 cases y with
 |bK =>
  cases cn
  cases x with
  |bK=>cases bt;exact SeqAt.EqAt.same _
  |aN b=>cases bt;exact SeqAt.EqAt.none_bool b
  |int b=>obtain⟨t,rfl⟩:=bt;exact SeqAt.EqAt.none_int b t
  |str b=>obtain⟨t,rfl⟩:=bt;exact SeqAt.EqAt.none_str b t
  |_=>exact absurd (show ag=ah from pN) hI
 |aN a =>
  cases cn
  cases x with
  |bK=>cases bt;exact SeqAt.EqAt.bool_none a
  |aN b=>cases bt;exact SeqAt.EqAt.bool_bool a b
  |int b=>obtain⟨t,rfl⟩:=bt;exact SeqAt.EqAt.bool_int a b t
  |str b=>obtain⟨t,rfl⟩:=bt;exact SeqAt.EqAt.bool_str a b t
  |_=>exact absurd (show ag=ah from pN) hI
 |int a =>
  obtain⟨t',rfl⟩:=cn
  cases x with
  |bK=>cases bt;exact SeqAt.EqAt.int_none a t'
  |aN b=>cases bt;exact SeqAt.EqAt.int_bool a t' b
  |int b=>obtain⟨t,rfl⟩:=bt;exact SeqAt.EqAt.int_int a t' b t
  |str b=>obtain⟨t,rfl⟩:=bt;exact SeqAt.EqAt.int_str a t' b t
  |_=>exact absurd (show ag=ah from pN) hI
 |str a =>
  obtain⟨t',rfl⟩:=cn
  cases x with
  |bK=>cases bt;exact SeqAt.EqAt.str_none a t'
  |aN b=>cases bt;exact SeqAt.EqAt.str_bool a t' b
  |int b=>obtain⟨t,rfl⟩:=bt;exact SeqAt.EqAt.str_int a t' b t
  |str b=>obtain⟨t,rfl⟩:=bt;exact SeqAt.EqAt.str_str a t' b t
  |_=>exact absurd (show ag=ah from pN) hI
 |_=>exact absurd (show ag=ah from ab6) hI
noncomputable def qE(x:V)(u:ao):Bool:=match u with
 |.none=>nr .bK x
 |.bool b=>nr (.aN b) x
 |.int i _=>nr (.int i) x
 |.str z _=>nr (.str z) x
 |_=>ag
theorem Lh{x y:V}(r:RelV y u)(f:r0 y=ah):qE x u=nr y x:=by
 cases y with
 |bK=>cases r;rfl
 |aN b=>cases r;rfl
 |int i=>obtain⟨t,rfl⟩:=r;rfl
 |str z=>obtain⟨t,rfl⟩:=r;rfl
 |_=>exact absurd (show ag=ah from f) hI
theorem G3{x:V}:∀{xs:List V}{us:List ao},Vals xs us->xs.all r0=ah->us.any (qE x)=xs.any fun y=>nr y x
 |_,_,.nil,_=>rfl
 |y::xs,u::us,.cons r t,f=>by
  rw[List.all_cons,hK]at f
  rw[List.any_cons,List.any_cons,Lh r f.1,G3 t f.2]
theorem Gr{A:di}{s:aJ}{x:V}{v:ao}(bt:RelV x v)(pN:r0 x=ah):∀{xs:List V}{us:List ao},Vals xs us->xs.all r0=ah->∀u∈us,SeqAt.EqAt A s u v (qE x u)
 |_,_,.nil,_=>fun u dY=>by cases dY
 |y::xs,u::us,.cons r t,f=>fun sV dY=>by
  rw[List.all_cons,hK]at f
  rcases dz.mp dY with rfl|dY
  .rw[Lh r f.1];exact VZ r bt f.1 pN
  .exact Gr bt pN t f.2 sV dY
noncomputable def C6(x:V)(xs:List V):Bool:=xs.any fun y=>nr y x
def ai0(K:bN)(neg:Bool):ir:=fun x y H Q=>∃p xs,y=.ref p/\(dE K H p xs\/jI K H p xs)/\r0 x=ah/\xs.all r0=ah/\Q (.aN (if neg then !C6 x xs else C6 x xs)) H
theorem ZR:d5 X (h0 .In) (ai0 X.K ag):=by
 intro ak s ab H x y v u Q aa bt cn h
 obtain⟨p,xs,rfl,aW,pN,fs,q⟩:=h
 cases cn
 rcases aW with aW|aW
 ·obtain⟨bq,r,pl,bC⟩:=aa.list aW
  refine SeqAt.in_listAt (qE x) pl.isList (fun w hw=>Gr bt pN r fs w (by simpa using hw)) ⟨.aN _,H,aa,I,?_⟩
  rw[show bq.toArray.any (qE x)=bq.any (qE x) by simp,G3 r fs]
  exact q
 ·obtain⟨bq,r,pl,bC⟩:=aa.tuple aW
  refine SeqAt.in_tupleAt (qE x) pl (fun w hw=>Gr bt pN r fs w (by simpa using hw)) ⟨.aN _,H,aa,I,?_⟩
  rw[show bq.toArray.any (qE x)=bq.any (qE x) by simp,G3 r fs]
  exact q
theorem L4:jE X (.type "tuple") (fun xs H Q=>∃p bb,xs=[.ref p]/\((dE X.K H p bb/\∀l,H l=aw->Q (.ref l) (upd H l (.tup bb)))\/(jI X.K H p bb/\Q (.ref p) H))):=by
 intro ak s ab H xs us Q aa r h
 obtain⟨p,bb,rfl,h⟩:=h
 obtain⟨u,rfl,bt⟩:=vals1 r
 cases bt
 rcases h with⟨aW,q⟩|⟨aW,q⟩
 ·obtain⟨bq,fe,pl,bC⟩:=aa.list aW
  have cL:=fe.length
  refine call_tuple_list pl.isList (fun h' iD=>?_) (by simp only[fW]<;>omega)
  have aU:Inv X ak ab H {s with heap:=h'}:=aa.kept (t':=s.toks) iD
  have bJ:Inv X ak ab (upd H h'.objs.size (.tup bb)) {s with heap:=h'.push {cls :=.type "tuple",data :=.seq bq.toArray}} :=
   aU.laid (t':=s.toks) (fun b o e=>er _ e) (cE _) (show gs X.prog X.w _ _ _ (.tup bb)from⟨bC,bq,fe,IsTup.new _ _⟩)
  exact⟨.ref h'.objs.size,_,bJ,I,q _ (aU.aP.fresh (cE _))⟩
 ·obtain⟨bq,fe,pl,bC⟩:=aa.tuple aW
  exact call_tuple_same pl ⟨.ref p,H,aa,I,q⟩
def JZ(K:bN)(T:String)(x:V)(H:au):Prop:=match x with
 |.str _=>T="str"
 |.int _=>T="int"
 | .ref p=>(T="list"/\∃xs,dE K H p xs)\/(T="tuple"/\∃o,K.lookup p=J o/\o.cls=.type "tuple"/\o.dict=aw)\/
   (T="dict"/\((∃fZ,H p=J (.mA fZ))\/∃fZ,H p=J (.pI fZ)))\/(T="set"/\∃S n,H p=J (.set S n))
 |_=>False
theorem NW{T:String}{x:V}(aa:Inv X ak ab H s)(r:RelV x v)(ty:JZ X.K T x H):
  s.TypeIs v T/\∀a,v=.ref a->∃dN,s.heap.get? a=J dN/\dN.dict=aw:=by
 cases x with
 |str z =>
  obtain⟨t,rfl⟩:=r
  cases(show T="str" from ty)
  exact⟨typeIs_str s z t,fun _ e=>nomatch e⟩
 |int i =>
  obtain⟨t,rfl⟩:=r
  cases(show T="int" from ty)
  exact⟨typeIs_int s i t,fun _ e=>nomatch e⟩
 | ref p =>
  cases r
  rcases ty with⟨rfl,xs,aW⟩|⟨rfl,o,hk,hc,hd⟩|⟨rfl,hk⟩|⟨rfl,S,n,hk⟩
  ·obtain⟨bq,_,pl,_⟩:=aa.list aW
   refine⟨pl.isList.typeIs,fun a e=>?_⟩
   cases e
   obtain⟨o,n,e,c,hd,_⟩:=pl
   exact⟨o,e,hd⟩
  ·refine⟨⟨o,aa.eI p o hk,hc⟩,fun a e=>?_⟩
   cases e
   exact⟨o,aa.eI _ o hk,hd⟩
  ·have z:∃o,s.heap.get? p=J o/\o.ExactDict:=by
    rcases hk with⟨fZ,hk⟩|⟨fZ,hk⟩
    ·obtain⟨_,_,_,_,o,_,_,e,ex,_⟩:=aa.aP p _ hk
     exact⟨o,e,ex⟩
    .exact(show False from aa.aP p _ hk).elim
   obtain⟨o,e,ex⟩:=z
   refine⟨⟨o,e,ex.1⟩,fun a aL=>?_⟩
   cases aL
   exact⟨o,e,ex.2.1⟩
  ·obtain⟨o,_,_,_,e,ex,_⟩:=aa.aP p _ hk
   refine⟨⟨o,e,ex.1⟩,fun a aL=>?_⟩
   cases aL
   exact⟨o,e,ex.2.1⟩
 |_=>exact False.elim ty
def ajw(K:bN)(T:String)(r:V->List V->au->bB->Prop)(to:TE):TE:=fun ab H Q=>to ab H fun x H1=>JZ K T x H1/\r x [] H1 Q
def ajv(K:bN)(T:String)(r:V->List V->au->bB->Prop)(to:TE)(t:gL):TE:=fun ab H Q=>to ab H fun x H1=>JZ K T x H1/\t ab H1 fun xs ax=>r x xs ax Q
variable {o e:b5} {aZ:List b5} {to:TE} {t:gL} {name:af} {apos lW:Pos} {T id:String} {r:V->List V->au->bB->Prop}
theorem yp(nM:PlainAttrs T)(slot:Slot T name id)(zf:typeOf (.builtin id)=pure (.type "method_descriptor"))(hm:tq X id r)(aK:bX X o to)
  (Ie:attributeBase o name X.env (eval o X.env)=eval o X.env:=by rfl) (IH:(apos.endLine == lW.line)=ah:=by rfl):bX X (.Call (.Attribute o name apos) [] [] lW) (ajw X.K T r to):=by
 intro ak s ab H Q aa h
 refine wpAny_Call_method0_late Ie IH (cA (aK ak s ab H _ aa h) fun v s1 bE=>?_)
 obtain⟨x,H1,aU,cK,ty,cm⟩:=bE
 obtain⟨aj,aq⟩:=NW aU cK ty
 exact⟨T,id,nM,slot,zf,aj,aq,Calls.callWith_builtin I (PySem.evalArgs_none (hm ak s1 ab H1 x [] v [] Q aU cK .nil cm))⟩
theorem jG(nM:PlainAttrs T)(slot:Slot T name id)(zf:typeOf (.builtin id)=pure (.type "method_descriptor"))(hm:tq X id r)(aK:bX X o to)(bf:hH X (e::aZ) t)
  (Ie:attributeBase o name X.env (eval o X.env)=eval o X.env:=by rfl)
  (adj:((backTo lW (dt (e::aZ) X.env)).all (fun x=>!x.1)&&(backToKw lW (rl [] X.env)).all (fun x=>x.1.isSome)
   && decide ((e::aZ).length+([]:List Keyword).length+(if([]:List Keyword).isEmpty then 0 else 1)<30))=ah:=by rfl)
  (IH:(apos.endLine == lW.line)=ah:=by rfl) (hs:dt (e::aZ) X.env=(ag,eval e X.env)::dt aZ X.env:=by rfl) (ad3:(backTo lW (dt aZ X.env)).any (·.1)=ag:=by rfl) :
  bX X (.Call (.Attribute o name apos) (e::aZ) [] lW) (ajv X.K T r to t):=by
 intro ak s ab H Q aa h
 refine wpAny_Call_method_late Ie adj IH I (cA (aK ak s ab H _ aa h) fun v s1 bE=>?_)
 obtain⟨x,H1,aU,cK,ty,cm⟩:=bE
 obtain⟨aj,aq⟩:=NW aU cK ty
 refine⟨T,id,nM,slot,zf,aj,aq,?_⟩
 have lr:=bf lW ak s1 ab H1 _ aU cm
 rw[hs]at lr ⊢
 refine Calls.callWith_builtin (by show(ag||(backTo lW (dt aZ X.env)).any (·.1))=ag;rw[ad3]<;>rfl) (Calls.evalArgs_plain ?_)
 refine cA lr fun us s2 bE=>?_
 obtain⟨vs,ax,bJ,ef,cN⟩:=bE
 exact hm ak s2 ab ax x vs v us Q bJ cK ef cN
end
def KH(X:bz)(id:String)(r:V->List V->au->bB->Prop):Prop :=
 ∀(ak:List (ae×bw))(s:aJ)(ab:St)(H:au)(x:V)(xs:List V)(v:ao)(us:List ao)(Q:bB),Inv X ak ab H s->RelV x v->Vals xs us->r x xs H Q->
  bM (model X.prog X.w) X.A (call (.builtin id) (v::us)) (ik X ak ab Q) X.xe s
theorem Vals.one:∀{x:V}{us:List ao},Vals [x] us->∃u,us=[u]/\RelV x u
 |_,_,.cons r .nil=>⟨_,rfl,r⟩
theorem Vals.eraseIdx:∀{xs:List V}{us:List ao}(i:Nat),Vals xs us->Vals (xs.eraseIdx i) (us.eraseIdx i)
 |_,_,_,.nil =>.nil
 |_,_,0,.cons _ t=>t
 |_,_,i+1,.cons r t =>.cons r (Vals.eraseIdx i t)
theorem Vals.rep{xs:List V}{us:List ao}(h:Vals xs us):∀k:Nat,Vals (List.replicate k xs).flatten (List.replicate k us).flatten
 |0 =>.nil
 |k+1=>by
  rw[List.replicate_succ,List.replicate_succ,nh,nh]
  exact Vals.append h (Vals.rep h k)
theorem MM{α:Type}:∀(l:List α)(i:Nat),(l.eraseIdx i).length<=l.length
 |[],_=>cE _
 |_::_,0=>Nat.le_succ _
 |_::r,i+1=>Nat.succ_le_succ (MM r i)
theorem MR(bq:List ao):∀(k:Nat)(acc:List ao),
  List.foldl (fun iH hr=>iH++hr) acc.toArray (List.replicate k bq.toArray)=(acc++(List.replicate k bq).flatten).toArray
 |0,acc=>by simp
 | k+1,acc=>by
  have e:acc.toArray++bq.toArray=(acc++bq).toArray:=by simp
  have aL:(acc++bq)++(List.replicate k bq).flatten=acc++(List.replicate (k+1) bq).flatten:=by
   rw[List.replicate_succ,nh,e2]
  rw[<-aL,<-MR bq k (acc++bq),<-e,List.replicate_succ,List.foldl_cons]
section
variable {X:bz} {ak:List (ae×bw)} {ab:St} {H:au} {s:aJ} {l b:ae} {xs bb zs:List V}
theorem Inv.PO{f:Array ao->Array ao}(aa:Inv X ak ab H s)(g4:H l=J (.lst xs))
  (e:s.heap.get? l=J {cls :=.type "list",data :=.seq bq.toArray n}) (aG:f bq.toArray=its'.toArray) (bg:Vals bb its') (bC:bb.length<=bY) :
  Inv X ak ab (upd H l (.lst bb)) {s with heap:=s.heap.update l (bw.mapSeq f),toks:=t'}:=by
 have q:=PySem.IsL.update e f
 rw[aG]at q
 refine aa.write (x:=l) (e:=l) (by rw[g4];exact trivial) (.inl I) (fun alD u ar dY=>(bc.get?_update_other s.heap (bw.mapSeq f) (ea ar)).trans dY) ⟨_,q⟩ ?_
 exact⟨bC,its',_,bg,q⟩
theorem Inv.PN(aa:Inv X ak ab H s)(bg:Vals bb bq)(bC:bb.length<=bY):
  Inv X ak ab (upd H s.heap.objs.size (.lst bb)) {s with heap:=s.heap.push {cls :=.type "list",data :=.seq bq.toArray},toks:=t'} :=
 aa.laid (fun _ _ q=>er _ q) (cE _) ⟨bC,bq,0,bg,ha _ rfl⟩
theorem Inv.fresh(aa:Inv X ak ab H s):H s.heap.objs.size=aw:=aa.aP.fresh (cE _)
theorem Inv.sr(aa:Inv X ak ab H s)(g4:H l=J (.lst xs)):xs.length<=bY/\∃(bq:List ao)(n:Nat),Vals xs bq/\xs.length=bq.length/\s.heap.get? l=J {cls :=.type "list",data :=.seq bq.toArray n}:=by
 obtain⟨z,bq,n,r,e⟩:=aa.aP l _ g4
 exact⟨z,bq,n,r,r.length,e⟩
theorem agp(h:n<=bY):c6.List.listTooLong n=ag:=by
 unfold c6.List.listTooLong
 exact gu (by omega)
end
section
variable {X:bz}
inductive Kj(x:V)(vs:List V)(H:au)(Q:ae->List V->V->Prop):Prop where
 |mk (l:ae) (xs:List V) (y:V) (e:x=.ref l) (a:vs=[y]) (h:H l=J (.lst xs)) (c:xs.length<bY) (q:Q l xs y):Kj x vs H Q
noncomputable def aiX:V->List V->au->bB->Prop:=fun x vs H Q=>Kj x vs H fun l xs y=>Q .bK (upd H l (.lst (xs++[y])))
theorem tu:KH X "list.append" aiX:=by
 intro ak s ab H x vs v us Q aa bt dO h
 obtain⟨l,xs,y,rfl,rfl,g4,bC,q⟩:=h
 cases bt
 obtain⟨u,rfl,gS⟩:=dO.one
 obtain⟨z,bq,n,r,aB,e⟩:=aa.sr g4
 refine call_meets F.slot_list_append ⟨_,e,I⟩ F.entry_list_append (F.args_list_append_2 _ _) (PySem.list_append l bq.toArray n u (by rw[fW];omega)) ⟨e,?_⟩
 refine⟨.bK,_,aa.PO (its':=bq++[u]) g4 e (by simp) (r.append (.cons gS .nil)) ?_,I,q⟩
 rw[cD,hL]
 omega
noncomputable def ai3:V->List V->au->bB->Prop:=fun x vs H Q=>∃l xs i k y,x=.ref l/\vs=[.int i]/\H l=J (.lst xs)/\-(2^63)<=i/\i<2^63/\seqIndex? i xs.length=J k/\xs[k]?=J y/\Q y (upd H l (.lst (xs.eraseIdx k)))
theorem T5:KH X "list.pop" ai3:=by
 intro ak s ab H x vs v us Q aa bt dO h
 obtain⟨l,xs,i,k,y,rfl,rfl,g4,aj,aq,hk,bP,q⟩:=h
 cases bt
 obtain⟨u,rfl,gS⟩:=dO.one
 obtain⟨t,rfl⟩:=gS
 obtain⟨z,bq,n,r,aB,e⟩:=aa.sr g4
 obtain⟨w,hw,zJ⟩:=r.get bP
 refine call_meets F.slot_list_pop ⟨_,e,I⟩ F.entry_list_pop (F.args_list_pop_2 _ _)
  (MeetsSeq.list_pop_at l bq.toArray n i t k w (fitsIndex_both aj aq) (by rw[fW,<-aB];exact hk) (by rw[<-Array.getElem?_toList];exact hw) (by rw[fW];omega)) ⟨e,?_⟩
 refine⟨y,_,aa.PO (its':=bq.eraseIdx k) g4 e ?_ (r.eraseIdx k) ?_,zJ,q⟩
 ·show bq.toArray.eraseIdxIfInBounds k=(bq.eraseIdx k).toArray
  rw[List.eraseIdxIfInBounds_toArray]
 ·have:=MM xs k
  omega
def aiZ:ir:=fun x y H Q=>∃l b xs zs,x=.ref l/\y=.ref b/\H l=J (.lst xs)/\H b=J (.lst zs)/\xs.length+zs.length<=bY/\∀p,H p=aw->Q (.ref p) (upd H p (.lst (xs++zs)))
theorem B6:d5 X (kE .Add) aiZ:=by
 intro ak s ab H x y v u Q aa bt cn h
 obtain⟨l,b,xs,zs,rfl,rfl,g4,nw,bC,q⟩:=h
 cases bt
 cases cn
 obtain⟨z,bq,n,r,aB,e⟩:=aa.sr g4
 obtain⟨de,q0,en,ef,ju,aL⟩:=aa.sr nw
 refine PySem.P.add_list e aL ?_ (by rw[fW,fW];omega)
 have dd:bq.toArray++q0.toArray=(bq++q0).toArray:=by simp
 rw[dd]
 exact⟨.ref _,_,aa.PN (t':=s.toks) (r.append ef) (by rw[cD];omega),I,q _ aa.fresh⟩
def ai4:ir:=fun x y H Q=>∃l k xs,x=.ref l/\y=.int k/\H l=J (.lst xs)/\-(2^63)<=k/\k<2^63/\xs.length*k.toNat<=bY/\
 ∀p,H p=aw->Q (.ref p) (upd H p (.lst (List.replicate k.toNat xs).flatten))
theorem Vb(xs:List α)(k:Nat):(List.replicate k xs).flatten.length=k*xs.length:=by
 induction k with
 |zero=>simp
 |succ k cM=>rw[List.replicate_succ,nh,cD,cM,Nat.succ_mul,Nat.add_comm]
theorem VL:d5 X (kE .Mult) ai4:=by
 intro ak s ab H x y v u Q aa bt cn h
 obtain⟨l,k,xs,rfl,rfl,g4,aj,aq,bC,q⟩:=h
 cases bt
 obtain⟨t,rfl⟩:=cn
 obtain⟨z,bq,n,r,aB,e⟩:=aa.sr g4
 have cL:bq.toArray.size*k.toNat<=bY:=by rw[fW,<-aB];exact bC
 have qR:¬bq.toArray.size*k.toNat > (2^63-1)/8:=by
  have:(bY:Nat)<=(2^63-1)/8:=by decide
  omega
 have jt:¬(!c6.List.listFitsIndex k)=ah:=by
  rw[fitsIndex_both aj aq]
  exact hI
 have adG:¬c6.List.listTooLong (bq.toArray.size*k.toNat)=ah:=by
  rw[agp cL]
  exact hI
 have adR:List.foldl (fun iH hr=>iH++hr) #[] (List.replicate (if bq.toArray.isEmpty=ah then 0 else k.toNat) bq.toArray)=(List.replicate k.toNat bq).flatten.toArray:=by
  have f0:∀m:Nat,List.foldl (fun iH hr=>iH++hr) #[] (List.replicate m bq.toArray)=(List.replicate m bq).flatten.toArray:=fun m=>by
   have:=MR bq m []
   rw[List.nil_append]at this
   exact this
  rw[f0]
  cases bq with
  |nil=>simp
  |cons a fe=>rw[if_neg (by simp)]
 refine wpAny_binaryOp_repeat_ref (T:="list") (U:="int") (by decide) ⟨_,e,I⟩ (fun aF=>typeIs_int aF k t) noFill_list_mul F.fills_int_mul F.slot_int_rmul repeat_list F.slot_int_index.lookup
  (call_meets F.slot_int_rmul (typeIs_int s k t) F.entry_int_rmul (F.args_int_rmul_2 _ _) (int___rmul___int_list k t l bq.toArray n)
   ⟨e,rfl,⟨_,e,rfl⟩,call_meets F.slot_list_mul ⟨_,e,rfl⟩ F.entry_list_mul (F.args_list_mul_2 _ _) (AutoListH.list___mul___list_int_3 l bq.toArray n k t jt qR adG) ⟨e,?_⟩⟩)
 rw[adR]
 exact⟨.ref _,_,aa.PN (t':=s.toks) (r.rep k.toNat) (by rw[Vb,Nat.mul_comm];exact bC),I,q _ aa.fresh⟩
end
end dT
variable {loose:List af} {vS:(af->Option ao)->bc->Prop} {rC:cH->bc->Prop}
namespace Kk
open PySem PySem.W PySem.Calls PyProof.Rows
variable {P:Params}
theorem W4:∀(ns:List Int)(vs:List ao),WellAll P h vs (ns.map WData.int)->IntsAre vs ns:=by
 intro ns
 induction ns with
 |nil =>
  intro vs w
  rw[List.map_nil]at w
  cases w
  exact .nil
 | cons n ns cM =>
  intro vs w
  rw[je]at w
  cases w with
  |cons a b =>
   cases a
   exact .cons _ _ (cM _ b)
variable {l:OpenLaw}
theorem ZH(bo:l.most=J n){args:List WData}{vals:List ao}
  (CW:l.row.toRowW.claim.pre args=ah) (C4:WellAll P h vals args) :
  ∃a vs ns,vals=[ao.ref a]/\args=[WData.list (ns.map WData.int)]/\h.get? a=J {cls :=.type "list",data :=.seq vs.toArray}/\IntsAre vs ns/\ns.length<=n:=by
 have C0:WShape.hasAll [] args [.list .int]=ah:=(pre_splitW CW).1
 have hc:l.pre.holds [] {args:=args}=ah:=(pre_splitW CW).2
 obtain⟨d,r,rfl,aj,aq⟩:=hasAllW_cons C0
 obtain rfl:=hasAllW_nil aq
 obtain⟨xs,rfl,bl⟩:=hasW_list aj
 obtain⟨ns,rfl⟩:=items_int bl
 have cL:ns.length<=n:=by
  unfold OpenLaw.pre at hc
  have bW:(WTm.not (.lt (.lit (.int (n:Int))) (.len (.arg 0)))).holds [] {args:=[.list (ns.map .int)]}=ah:=by
   have bW:=(holds_andW hc).1
   rw[bo]at bW
   exact bW
  have d0:=condW_of bW (w_not (w_lt w_lit (w_len_list (w_arg rfl))))
  rw[cC]at d0
  refine Nat.le_of_not_lt fun q=>?_
  have iV:(n:Int)<((ns.length:Nat):Int):=by omega
  first
   |(rw[d6 iV]at d0;exact absurd d0 (by decide))
   |(simp at d0;omega)
 cases C4 with
 |cons zZ sX =>
  cases sX
  cases zZ with
  |list aK ib=>exact⟨_,_,ns,I,I,aK,W4 ns _ ib,cL⟩
theorem ZK(l:OpenLaw)(args:List WData):l.row.toRowW.claim.post args (.bool ah) args=ah :=
 postW_of (r:=l.row.toRowW) (X:=(ah == ah))
  (show WShape.has [] (.bool ah) .bool=ah by first|rfl|decide|simp[WShape.has,WShape.arms,WShape.armsAll])
  (show(WTm.eq .res (.lit (.bool ah))).value [] {args:=args,res:=J (.bool ah),after:=args}=J (.bool (ah == ah))from w_eq_bool (w_res rfl) w_lit) rfl
theorem aa0{q:c1}{d:DefRec}
  (bo:l.most=J n) (yP:d.params.defaults=[])
  (call:∀(w:cH)(dm dI:aJ)(mg nG:af->Option ao)(fa:ae)(o:bw)(pm c9 doc:ao)(a:ae)(vs:List ao)(ns:List Int),
   Ground q loose [] vS w dm mg nG dI.heap->rC w dI.heap->
   dI.heap.get? fa=J o->o.data=.func (docDef d.name d.params d.body d.scope pm c9 doc)->dI.heap.CodeRec c9 d.name->mg d.name=J (.ref fa)->
   dI.heap.get? a=J {cls :=.type "list",data :=.seq vs.toArray}->IntsAre vs ns->ns.length<=n->dI.gens=#[]->
   k3 (model l.prog w) callerA (.call (.ref fa) ⟨[.ref a],[]⟩) (fun r aF=>r=.ok (.ret (.bool ah))/\OldK dI.heap aF.heap/\aF.os=dI.os/\AllBare aF.gens) dI) :
  WalkO q loose vS rC l.row.toRowW d [] (fun f vs=>PySem.call f vs):=by
 intro w dm dI mg nG G Y fa o pm c9 doc Ci gm aK hd ky dH hmg aH args vals as CW ama Pu C4 ame
 obtain rfl:Ci=.none:=Dflts.none dH yP
 obtain rfl:gm=.none:=Dflts.noKw dH
 obtain⟨a,vs,ns,rfl,rfl,IL,hints,cL⟩:=ZH bo CW C4
 refine enter_call (mi (call w dm dI mg nG fa o pm c9 doc a vs ns G Y aK (fd_plain hd) ky hmg IL hints cL aH) fun r aF aW=>?_)
 obtain⟨rfl,aq,bl,bW⟩:=aW
 exact⟨.inl ⟨.bool ah,.bool ah,[],I,fun _=>I,.bool ah,ZK l _,fun _=>⟨List.Pairwise.nil,fun _ hm=>(nomatch hm)⟩⟩,aq,bl,bW⟩
section
variable {prog:c1} {w:cH} {A:di} {E:ao->aJ->Prop} {s:aJ} {K:Frag}
noncomputable def amA(h:bc)(L d:ae):List (ae×bw):=(List.range h.objs.size).filterMap fun a=>if a=L\/a=d then aw else(h.get? a).map fun o=>(a,o)
end
end Kk
variable {c:Prop} {CX:dT.lG} {fa:ae} {H1 ax H':dT.au}
namespace dT
open PySem PySem.Spec PyProof.Rows
theorem Mw:∀{vs:List ao}{ns:List Int},IntsAre vs ns->Vals (ns.map V.int) vs
 |_,_,.nil =>.nil
 |_,_,.cons n t h =>.cons ⟨t,rfl⟩ (Mw h)
def EE(H:au):Prop:=∀b,H b=aw\/∃o xs,H b=J (.i1 o (.lst xs))
theorem afB{nG:af->Option ao}{x:af}{sp:b3}{dI:aJ}{vs:List ao}{ns:List Int}
  (KX:K.In dI.heap) (Pl:dI.heap.Ns eo mg) (ar:dI.heap.Ns builtinsNs nG) (Ig:∀x:af,x≠"__name__"->nG x=kg x) (adE:dI.heap.NoLimit) (aH:dI.gens=#[])
  (bf:dI.heap.get? a=J {cls :=.type "list",data :=.seq vs.toArray}) (aC:IntsAre vs ns) (aB:ns.length<=bY) (az:fj k callerA)
  (F:∀base:bc,K.In base->base.Ns eo mg->cq P w K mg base CX k fa fd [x] sp) (ac0:∀(s:aJ)(u:ao),BindsTo s fd ⟨[u],[]⟩ [(x,u)])
  (oP:∀H:au,EE H->dE K H a (ns.map V.int)->sp [.ref a] H (fun v _=>v=.aN ah) fun _ _ _=>False)
  (HY:∀H e aF,CX [] H dI (fun _ _ _=>False) e aF->False) :
  k3 (model P w) callerA (.call (.ref fa) ⟨[.ref a],[]⟩) (fun r aF=>r=.ok (.ret (.bool ah))/\OldK dI.heap aF.heap/\aF.os=dI.os/\AllBare aF.gens) dI:=by
 have dO:=Mw aC
 have afD:=aC.length
 have core:∀H:au,EE H->dE K H a (ns.map V.int)->fA P w H dI.heap->(∀b,H b≠aw->b=a)->(H a≠aw->K.lookup a=aw)->
   k3 (model P w) callerA (.call (.ref fa) ⟨[.ref a],[]⟩) (fun r aF=>r=.ok (.ret (.bool ah))/\OldK dI.heap aF.heap/\aF.os=dI.os/\AllBare aF.gens) dI:=by
  intro H CB b2 aP lr g5
  have base_of:∀{b:ae}{o:bw},dI.heap.get? b=J o->H b=aw->(qV dI.heap H).get? b=J o:=fun e n=>T9 e n
  have zw:∀{b:ae}{o:bw}{aZ:Array DictEntry}{fE:Nat},dI.heap.get? b=J o->o.data=.dict aZ fE->H b=aw:=fun{b o aZ fE}e d=>by
   cases q:H b with
   |none=>rfl
   |some u =>
    have e':b=a:=lr b (by rw[q];simp)
    subst e'
    rw[bf]at e;cases e
    have d':Data.seq vs.toArray _=Data.dict aZ fE:=d
    cases d'
  have uL:∀{b:ae}{m:af->Option ao},dI.heap.Ns b m->(qV dI.heap H).Ns b m:=fun {b m} ⟨o,aZ,fE,e,d,r⟩=>⟨o,aZ,fE,base_of e (zw e d),d,r⟩
  have OP:K.In (qV dI.heap H):=fun b o e=>base_of (KX b o e) (by
   cases q:H b with
   |none=>rfl
   |some u =>
    have e':b=a:=lr b (by rw[q];simp)
    subst e'
    rw[g5 (by rw[q];simp)]at e;cases e)
  have ny:Mod K mg (qV dI.heap H):=⟨OP,uL Pl,⟨nG,uL ar,Ig⟩,let ⟨afU,aj,aq⟩:=adE;⟨afU,uL aj,aq⟩⟩
  have eP:tf P w K mg (qV dI.heap H) callerA [] dI H:=⟨rfl,ny,fun b o e=>U7 e,Nat.le_of_eq (Z0 _ _),trivial,fun b ar=>absurd (show b∈([]:List ae)from ar) (by simp),aP,.of_eq aH⟩
  refine mi ((F _ OP (uL Pl)).run callerA [] dI H ⟨[.ref a],[]⟩ [.ref a] [.ref a] _ _ az eP (ac0 dI (.ref a)) (.cons I .nil) (oP H CB b2)) fun r aF h=>?_
  cases r with
  |error e=>exact(HY H e aF h).elim
  | ok dB =>
   cases dB with
   |next=>exact False.elim h
   |brk=>exact False.elim h
   |cont=>exact False.elim h
   | ret u =>
    obtain⟨v,H',os,bare,un,adY,fe,q⟩:=h
    have iV:v=.aN ah:=q
    subst iV
    obtain rfl:u=ao.bool ah:=fe
    refine⟨I,OldK.of_keep fun b o e=>?_,os,bare⟩
    cases q:H b with
    |none=>exact un.keep b o e q (by intro z;exact absurd (show b∈([]:List ae)from z) (by simp)) (by simp)
    | some u =>
     rcases CB b with z|⟨dN,xs,z⟩
     .rw[q]at z;cases z
     ·have de:=un.lq b dN _ z
      obtain⟨aI,_⟩:=aP b _ z
      obtain⟨aL,_⟩:=adY b _ de
      rw[e]at aI;cases aI
      exact aL
 cases hk:K.lookup a with
 |some o =>
  have e:=KX a o hk
  rw[bf]at e
  cases e
  refine core (fun _=>aw) (fun _ =>.inl I) (.inr ⟨_,vs.toArray,_,hk,I,I,I,by rw[fW,afD];exact aB,by simpa using dO⟩) (fun b u z=>by have o4:(aw:Option c2)=J u:=z;cases o4) (fun b z=>absurd rfl z) fun z=>absurd rfl z
 | none =>
  refine core (fun b=>if b=a then J (.i1 {cls :=.type "list",data :=.seq vs.toArray} (.lst (ns.map V.int)))else aw) (fun b=>?_) (.inl (.inr ⟨{cls :=.type "list",data :=.seq vs.toArray},if_pos rfl⟩)) (fun b u z=>?_) (fun b z=>?_) fun _=>hk
  ·by_cases ar:b=a
   .exact .inr ⟨_,_,if_pos ar⟩
   .exact .inl (if_neg ar)
  ·by_cases ar:b=a
   ·have o4:=(if_pos ar).symm.trans z
    cases o4
    subst ar
    exact⟨bf,by rw[cC];exact aB,vs,_,dO,bf⟩
   ·have o4:=(if_neg ar).symm.trans z
    cases o4
  ·by_cases ar:b=a
   .exact ar
   .exact absurd (if_neg ar) z
theorem UI{l:PySem.W.OpenLaw}{q:c1}{d:DefRec}{K:Params->bN}{CX:cH->lG}{sp:cH->b3}{x:af}
  (bo:l.most=J n) (ly:n<=bY) (yP:d.params.defaults=[]) (az:fj k callerA)
  (Ia:∀(w:cH)(h:bc),rC w h->(K w.params).In h)
  (F:∀(w:cH)(mg:af->Option ao)(fa:ae)(h:bc),(K w.params).In h->h.Ns eo mg->mg d.name=J (.ref fa)->
   ∃fd:fG,(∀(s:aJ)(u:ao),BindsTo s fd ⟨[u],[]⟩ [(x,u)])/\
    ∀base:bc,(K w.params).In base->base.Ns eo mg->cq l.prog w (K w.params) mg base (CX w) k fa fd [x] (sp w))
  (oP:∀(w:cH)(H:au)(a:ae)(ns:List Int),ns.length<=n->EE H->dE (K w.params) H a (ns.map V.int)->sp w [.ref a] H (fun v _=>v=.aN ah) fun _ _ _=>False)
  (HY:∀(w:cH)(H:au)(s:aJ)(e:ao)(aF:aJ),CX w [] H s (fun _ _ _=>False) e aF->False) :
  PySem.W.WalkO q loose vS rC l.row.toRowW d [] (fun f vs=>PySem.call f vs):=by
 refine Kk.aa0 bo yP fun w dm dI mg nG fa o pm c9 doc a vs ns G Y aK hd ky hmg IL hints cL aH=>?_
 have KX:=Ia w _ Y
 obtain⟨fd,ar,bx⟩:=F w mg fa _ KX G.T.g hmg
 exact afB KX G.T.g G.T.b G.T.builtins G.T.nolimit aH IL hints (eE cL ly) az bx ar (fun H CB b2=>oP w H a ns cL CB b2) fun H e aF=>HY w H dI e aF
noncomputable def du(s:br)(j:Nat):br:=match s with
 |.ClassDef _ _ _ body _ _ _ _ _ _ _=>body.getD j (.Pass ⟨0,0,0,0⟩)
 |_ => .Pass ⟨0,0,0,0⟩
noncomputable def lY(s:br):Arguments:=match s with
 |.FunctionDef _ a _ _ _ _ _ _ _ _=>a
 |_=>{posonlyargs:=[],args:=[],vararg:=aw,kwonlyargs:=[],kw_defaults:=[],kwarg:=aw,defaults:=[]}
noncomputable def iz(s:br):List br:=match s with
 |.FunctionDef _ _ b _ _ _ _ _ _ _=>b
 |_=>[]
noncomputable def bI(s:br):Scope:=match s with
 |.FunctionDef _ _ _ _ _ _ sc _ _ _=>sc
 |_=>{kind :=.function,names:=[],isGenerator:=ag,isCoroutine:=ag}
noncomputable abbrev dv:lG:=fun _ _ _ _ _ _=>False
abbrev iJ:bR:=fun _ _ _=>False
theorem zD{X:bz}:Passes dv X iJ:=fun _ _ _ _ _ _ _ h=>h.elim
structure c5(K:bN)(x dJ:af)(st:br)(f:ae)(fd:fG):Prop where
 ex:∃(iE:ao)(od:Option ae)(gm doc pm:ao)(an:Option ae)(bh ct:ao)(mS:Array (Option ao)),
  fd=lE x dJ (lY st) (iz st) (bI st) .none gm doc pm an bh ct/\K.lookup f=J ⟨iE,od,.func fd,mS⟩/\u9 K bh dJ=ah
 iD:kD K (.ref f)=ah
section
variable {P:c1} {w:cH} {K:bN} {mg:af->Option ao} {base:bc}
theorem c5.ok{x:af}{st:br}{N:List af}{sp:b3}(F:c5 K x dJ st f fd)(S:bZ N ps (bI st))(len:∀vs H Q E,sp vs H Q E->vs.length=ps.length)
  (jR:∀(bh:ao)(A:di)(outer:List Env)(s:aJ)(H:au)(vs:List V)(Q:bB)(E:bR),fj k (A.deeper (envOfC dJ (bI st) s.heap.objs.size f bh))->sp vs H Q E->
   ∃t,ht (kt dv P w K mg base N dJ (bI st) f bh A outer s H E).sy (iz st) t/\t {nx:=fun _ H'=>Q .bK H',rt:=Q} (start N vs) H):cq P w K mg base dv (k+1) f fd ps sp:=by
 obtain⟨iE,od,gm,doc,pm,an,bh,ct,mS,rfl,pU,ky⟩:=F.ex
 refine LF pU ky S len fun A outer s H vs Q E az oP=>?_
 obtain⟨t,h,q⟩:=jR bh A outer s H vs Q E az oP
 exact⟨t,h.sy,q⟩
theorem c5.binds{x:af}{st:br}(F:c5 K x dJ st f fd)
  (h:∀(gm doc pm:ao)(an:Option ae)(bh ct:ao)(us:List ao),us.length=ps.length->bindArgs (lE x dJ (lY st) (iz st) (bI st) .none gm doc pm an bh ct) ⟨us,[]⟩=pure (ps.zip us)):Binds K fd ps []:=by
 obtain⟨iE,od,gm,doc,pm,an,bh,ct,mS,rfl,pU,ky⟩:=F.ex
 exact .all (h gm doc pm an bh ct)
theorem yt{x:af}{st:br}{gm:ao}(l:K.lookup f=J ⟨iE,od,.func (lE x dJ (lY st) (iz st) (bI st) .none gm doc pm an bh ct),mS⟩)
  (c:u9 K bh dJ=ah) (k:kD K (.ref f)=ah):c5 K x dJ st f (lE x dJ (lY st) (iz st) (bI st) .none gm doc pm an bh ct):=⟨⟨iE,od,gm,doc,pm,an,bh,ct,mS,rfl,l,c⟩,k⟩
end
section
variable {X:bz}
theorem ai(i:Nat){x:af}(aX:X.N[i]?=J x:=by rfl)(bg:A0 X.env.scope x:=by first|exact Or.inl I|exact Or.inr (Or.inl I)|exact Or.inr (Or.inr I))(hd:(x == ("__debug__":af))=ag:=by decide)
  (ky:(x == ("__classdict__":af))=ag:=by decide):bX X (.Name x aR) (xr i):=VJ aX bg hd ky
end
variable {A B:Prop}
theorem fb(h:B):if ag=ah then A else B:=by
 rw[if_neg hI]
 exact h
theorem gQ(h:A):if ah=ah then A else B:=by
 rw[if_pos rfl]
 exact h
theorem I2[Decidable c](hc:c)(h:B):if(!decide c)=ah then A else B:=by
 rw[d6 hc]
 exact fb h
def eD(H H':au):Prop:=∀b o,H b=J o->H' b=J o
theorem eD.refl(H:au):eD H H:=fun _ _ h=>h
theorem eD.trans(a:eD H H1)(b:eD H1 ax):eD H ax:=fun c o h=>b c o (a c o h)
theorem eD.free(e:eD H H'){l:ae}(h:H' l=Option.none):H l=Option.none:=by
 cases q:H l with
 |none=>rfl
 |some o =>
  rw[e l o q]at h
  cases h
theorem eD.seq(e:eD H H')(h:dE K H a xs):dE K H' a xs:=by
 rcases h with(h|⟨o,h⟩)|h
 .exact .inl (.inl (e _ _ h))
 .exact .inl (.inr ⟨o,e _ _ h⟩)
 .exact .inr h
end dT
variable {o:dT.c2} {acc:ao} {uf:List (af×dT.V)} {gJ:dT.St} {sP:dT.b3}
section
namespace dT
open PySem PySem.Spec PyProof.Rows
section
variable {X:bz}
theorem x8:tq X "int.bit_length" (fun x xs H Q=>∃i,x=.int i/\xs=[]/\Q (.int ((c6.Int.intBits i:Nat):Int)) H):=by
 intro ak s ab H x xs v us Q aa bt dO h
 obtain⟨i,rfl,rfl,q⟩:=h
 obtain⟨t,rfl⟩:=bt
 cases dO
 exact call_gives F.slot_int_bit_length (typeIs_int s i t) F.entry_int_bit_length (F.args_int_bit_length_1 _) (AutoIntG2.int_bit_length_int_0 i t) ⟨.int _,H,aa.tok _,⟨_,I⟩,q⟩
theorem L3:tq X "str.startswith" (fun x xs H Q=>∃y z,x=.str y/\xs=[.str z]/\Q (.aN (Txt.startswith y z)) H):=by
 intro ak s ab H x xs v us Q aa bt dO h
 obtain⟨y,z,rfl,rfl,q⟩:=h
 obtain⟨t,rfl⟩:=bt
 obtain⟨u,rfl,t',rfl⟩:=dO.one
 exact call_gives F.slot_str_startswith (typeIs_str s y t) F.entry_str_startswith (F.args_str_startswith_2 _ _) (gives_str_startswith y z t t') ⟨.aN _,H,aa,I,q⟩
theorem Nx:∀{bb:List af}{bq:List ao},Vals (bb.map V.str) bq->StrsAre bq bb
 |[],_,.nil =>.nil
 |_::_,_,.cons ⟨_,e⟩ r=>by subst e;exact .cons _ _ (Nx r)
theorem tN:tq X "str.join" (fun x xs H Q=>∃y a bb,x=.str y/\xs=[.ref a]/\dE X.K H a (bb.map V.str)/\(bb.map (·.length)).sum+bb.length*y.length<=16777216/\Q (.str (Txt.join y bb)) H):=by
 intro ak s ab H x xs v us Q aa bt dO h
 obtain⟨y,a,bb,rfl,rfl,aW,bC,q⟩:=h
 obtain⟨t,rfl⟩:=bt
 obtain⟨u,rfl,gS⟩:=dO.one
 cases gS
 obtain⟨bq,r,pl,_⟩:=aa.list aW
 exact join_list pl.isList (by simpa using Nx r) bC fun t' k=>⟨.str _,H,aa.tok _,⟨_,I⟩,q⟩
theorem Zc:d5 X (kE .Mult) (fun x y H Q=>∃z i,x=.str z/\y=.int i/\i<2^40/\-(2^40)<i/\z.length*i.toNat<=bY/\Q (.str (Txt.mul z i)) H):=by
 intro ak s ab H x y v u Q aa bt cn h
 obtain⟨z,i,rfl,rfl,aj,aq,bl,q⟩:=h
 obtain⟨t,rfl⟩:=bt
 obtain⟨t',rfl⟩:=cn
 refine SB.mul ⟨?_,fun bW _=>?_,fun bW _=>?_⟩ fun t' k=>⟨.str _,H,aa.tok _,⟨_,I⟩,q⟩
 .simp only[Bool.or_eq_false_iff,decide_eq_false_iff_not];omega
 ·intro c
  have bo:(0:Int)<i:=by omega
  have alU:=uF
  have e:(z.length:Int)*i<=2^63-1:=by
   have:((z.length*i.toNat:Nat):Int)=(z.length:Int)*i:=by rw[Int.natCast_mul];congr 1;omega
   omega
  have:=(Int.le_ediv_iff_mul_le bo).mpr e
  omega
 .unfold c6.Str.tooLong;simpa using bl
theorem XN:jE X (.type "int") (fun xs H Q=>∃x n,xs=[.str x]/\PySem.intText? x=J n/\x.length<=640/\Q (.int n) H):=by
 intro ak s ab H xs us Q aa r h
 obtain⟨x,n,rfl,bo,aB,q⟩:=h
 obtain⟨u,rfl,t,rfl⟩:=vals1 r
 exact PySem.W.KIN.call_text bo aB ⟨.int n,H,aa.tok _,⟨_,I⟩,q⟩
theorem VD:rB X (fun x lo aC H Q=>∃z,x=.str z/\z.length<=bY/\Q (.str (Txt.slice z lo aC)) H):=by
 intro ak s ab H x v nR nS lo aC df Q aa bt hs pl pu h
 obtain⟨z,rfl,bC,q⟩:=h
 obtain⟨t,rfl⟩:=bt
 refine⟨"str",_,F.slot_str_getitem.lookup,typeIs_str s z t,?_⟩
 have cZ:∀(t':Tok)(k:Nat),ik X ak ab Q (.str (Txt.slice z lo aC) t') {s with toks:=k}:=fun t' k=>⟨.str _,H,aa.tok _,⟨_,rfl⟩,q⟩
 obtain⟨o,aK,hc,hd⟩:=hs
 cases pl with
 |none =>
  cases pu with
  |none=>exact D3 (l:=aw) (u:=aw) (st:=aw) ⟨o,aK,hc,hd⟩ I (post_val_or_str ⟨eE (Txt.slice_le z _ _) bC,cZ⟩)
  |int j J2=>exact D3 (l:=aw) (u:=J (j,J2)) (st:=aw) ⟨o,aK,hc,hd⟩ I (post_val_or_str ⟨eE (Txt.slice_le z _ _) bC,cZ⟩)
 |int i RY =>
  cases pu with
  |none=>exact D3 (l:=J (i,RY)) (u:=aw) (st:=aw) ⟨o,aK,hc,hd⟩ I (post_val_or_str ⟨eE (Txt.slice_le z _ _) bC,cZ⟩)
  |int j J2=>exact D3 (l:=J (i,RY)) (u:=J (j,J2)) (st:=aw) ⟨o,aK,hc,hd⟩ I (post_val_or_str ⟨eE (Txt.slice_le z _ _) bC,cZ⟩)
theorem YV:jE X (.builtin "isinstance") (fun xs H Q=>∃x T t b,xs=[x,.ty T]/\k8 X.K H x t/\dn X.K t (.type T)=J b/\Q (.aN b) H):=by
 intro ak s ab H xs us Q aa r h
 obtain⟨x,T,t,b,rfl,ty,e,q⟩:=h
 obtain⟨u,hY,rfl,cK,ef⟩:=vals2 r
 cases(show hY=ao.type T from ef)
 exact MP aa cK ty e fun cp=>⟨.aN b,H,aa.tok _,I,q⟩
theorem Yp:jE X (.builtin "isinstance") (fun xs H Q=>∃x C t b,xs=[x,.ref C]/\k8 X.K H x t/\dn X.K t (.ref C)=J b/\Q (.aN b) H):=by
 intro ak s ab H xs us Q aa r h
 obtain⟨x,C,t,b,rfl,ty,e,q⟩:=h
 obtain⟨u,hY,rfl,cK,ef⟩:=vals2 r
 cases(show hY=ao.ref C from ef)
 exact MP aa cK ty e fun cp=>⟨.aN b,H,aa.tok _,I,q⟩
end
noncomputable def xP(lo c:Int)(n:Nat):kH:=⟨fun i _=>i<n,fun i H x H'=>H'=H/\x=.int (lo+i*c),fun i _=>n<=i⟩
theorem Yr(it:ae)(lo c:Int)(n:Nat):Turn P w K eB (xP lo c n) [it] it (fun i h=>IsRangeIter h it (lo+(i:Nat)*c) ((n:Int)-(i:Nat)) c) where
 mem:=by simp
 obj:=fun i h st b ar=>by
  have e:b=it:=by simpa using ar
  subst e
  exact⟨_,st,fun v z=>by
   have o4:Data.fields _=Data.cell v:=z
   cases o4⟩
 keep:=fun i h h' st k=>k it (by simp) _ st
 item:=by
  intro X ck hw g5 hc i ak s ab H E aa aG st aH
  subst ck hw g5
  obtain⟨f0,f1,f2,hq,f4,hR⟩:=aG it (by simp)
  have W:=Walks.range (prog:=X.prog) (w:=X.w) (aa.ok.hd hc) it lo c n
  refine W.item i s _ _ aH st fun v h' cp bg jz fP=>?_
  obtain⟨t,rfl⟩:=bg
  have aU:Inv X ak ab H {s with heap:=h',toks:=cp}:=aa.turned (fun b o ar e=>fP b o (by simpa using ar) e) f0 f1 hq f4 hR
  exact⟨_,I,yv (s:={s with heap:=h',toks:=cp}) (n:="range_iterator") jz I I (by decide) ⟨.int (lo+i*c),H,aU,⟨t,I⟩,⟨I,I⟩,jz,fun b ar=>(aG b ar).1⟩⟩
 done:=by
  intro X ck hw g5 hc i ak s ab H E aa aG st aH
  subst ck hw g5
  obtain⟨f0,f1,f2,hq,f4,hR⟩:=aG it (by simp)
  exact wpAny_pyNext_range_end (aa.ok.hd hc) st (by have:n<=i:=aH;omega) fun h' hf=>⟨I,aa.turned (t':=s.toks) (fun b o ar e=>hf b o ar e) f0 f1 hq f4 hR⟩
 self:=fun _ _ _ _ _ st h=>wpAny_pyIter_rangeiter st h
section
variable {X:bz} {eB:b5}
def aeG(b4:gL):d8:=fun ab H R=>b4 ab H fun vs H1=>∃i j:Int,vs=[.int i,.int j,.int (-1)]/\(-(2^61)<=i/\i<2^61/\-(2^61)<=j/\j<2^61)/\R (xP i (-1) (i-j).toNat) H1
end
section
variable {X:bz} {eB:b5}
theorem Y1{a b:Int}(bf : -(2^61)<=a)(CF:a<2^61)(ar : -(2^61)<=b)(js:b<2^61):c6.Range.small a b (-1)=ah:=by
 unfold c6.Range.small c6.Range.rangeSize
 simp only[c6.Range.rangeFitsLong,hK,Bool.or_eq_true,jJ,beq_iff_eq,show ¬((-1:Int) > 0) by decide,if_false,Int.neg_neg,Int.ediv_one]
 split<;>omega
theorem Xi(a b:Int):c6.Range.rangeSize a b (-1)=(((a-b).toNat:Nat):Int):=by
 unfold c6.Range.rangeSize
 rw[if_neg (by decide)]
 simp only[Int.neg_neg,Int.ediv_one]
 split<;>omega
theorem MF{a b c:b5}{b4:gL}{p:Pos}(aH:il X "range")(hm:X.mg "range"=aw)(bf:hH X [a,b,c] b4)
  (hs:dt [a,b,c] X.env=[(ag,eval a X.env),(ag,eval b X.env),(ag,eval c X.env)]:=by rfl) (hS:dt [b,c] X.env=[(ag,eval b X.env),(ag,eval c X.env)]:=by rfl) :
  jd X eB (.Call (.Name "range" p) [a,b,c] [] aR) (aeG b4):=by
 intro ak s ab H R aa h
 refine Call_ (pF aa aH hm boot_range (PyProof.Rows.callWith_type1 (cA (bf aR ak s ab H _ aa h) fun us s1 ⟨vs,H1,aU,cK,cm⟩=>?_) (by rw[hs,hS]) (by rw[hS];rfl)))
 obtain⟨i,j,e,⟨cm,cN,gq,mT⟩,q⟩:=cm
 subst e
 cases cK with
 | cons r mb =>
  cases mb with
  | cons fe mb =>
   cases mb with
   | cons aiT mb =>
    cases mb
    obtain⟨t,rfl⟩:=r
    obtain⟨t',rfl⟩:=fe
    obtain⟨ajs,rfl⟩:=aiT
    refine call_range_3 (by decide) ?_ (.inl (PyProof.noPylong_small (by decide)))
    refine wpAny_pyIter_range (IsRange.new ..) (Y1 cm cN gq mT) ?_
    have bJ:Inv X ak ab H1 {s1 with heap:=s1.heap.push {cls :=.type "range",data :=.fields #[.int i t,.int j t',.int (-1) ajs]}}:=aU.kept (t':=s1.toks) fun b o e=>er _ e
    refine⟨_,[_],_,_,H1,I,bJ.kept (t':=s1.toks) fun b o e=>er _ e,Yr _ i (-1) (i-j).toNat,?_,fun b ar=>?_,q⟩
    ·have aI:i+((0:Nat):Int)*(-1)=i:=by simp
     have aL:(((i-j).toNat:Nat):Int)-((0:Nat):Int)=c6.Range.rangeSize i j (-1):=by rw[Xi];simp
     show IsRangeIter _ _ (i+((0:Nat):Int)*(-1)) ((((i-j).toNat:Nat):Int)-((0:Nat):Int)) (-1)
     rw[aI,aL]
     exact ha _ I
    ·have e:=fU.mp ar
     subst e
     exact bJ.qF (cE _) (bJ.aP.fresh (cE _))
end
noncomputable def vr(x:af):kH:=⟨fun i _=>i<x.cps.size,fun i H v H'=>H'=H/\∃c,x.cps[i]?=J c/\v=.str ⟨#[c]⟩,fun i _=>x.cps.size<=i⟩
section
variable {X:bz} {eB:b5}
theorem M1{eB:b5}(x:af)(it:ae)(n:String)(t:Tok)(W:∀vc:di,vc.handled=aw->Walks P w vc it [it] [it] x.cps.size (SignAt x) (fun i h=>h.IsStrIter it n x t i))
  (bo:["enumerate","zip","dict_itemiterator","dict_reverseitemiterator","odict_iterator","itertools.zip_longest","itertools.pairwise"].contains n=ag)
  (ac7:∀(A:di)(i:Nat)(s:aJ)(Q:Option ao->aJ->Prop)(E:ao->aJ->Prop),A.handled=aw->s.heap.IsStrIter it n x t i->x.cps.size<=i->(∀h',(∀b o,b≠it->s.heap.get? b=J o->h'.get? b=J o)->Q aw {s with heap:=h'})->bM (model P w) A (pyNext (.ref it)) Q E s)
  (ad8:∀(A:di)(i:Nat)(s:aJ)(Q:ao->aJ->Prop)(E:ao->aJ->Prop),s.heap.IsStrIter it n x t i->Q (.ref it) s->bM (model P w) A (pyIter (.ref it)) Q E s) :
  Turn P w K eB (vr x) [it] it (fun i h=>h.IsStrIter it n x t i) where
 mem:=by simp
 obj:=fun i h st b ar=>by
  have e:b=it:=by simpa using ar
  subst e
  obtain⟨o,aK,hc,hd⟩:=st
  exact⟨o,aK,fun v z=>by rw[hd]at z;cases z⟩
 keep:=fun i h h' st k=>by
  obtain⟨o,aK,r⟩:=st
  exact⟨o,k it (by simp) o aK,r⟩
 item:=by
  intro X ck hw g5 hc i ak s ab H E aa aG st aH
  subst ck hw g5
  obtain⟨f0,f1,f2,hq,f4,hR⟩:=aG it (by simp)
  refine(W X.A (aa.ok.hd hc)).item i s _ _ aH st fun v h' cp bg jz fP=>?_
  obtain⟨c,u,pR,rfl⟩:=bg
  have aU:Inv X ak ab H {s with heap:=h',toks:=cp}:=aa.turned (fun b o ar e=>fP b o (by simpa using ar) e) f0 f1 hq f4 hR
  obtain⟨o,aK,qS,hd⟩:=id jz
  exact⟨_,I,yv (s:={s with heap:=h',toks:=cp}) (n:=n) aK qS hd bo ⟨.str ⟨#[c]⟩,H,aU,⟨u,I⟩,⟨I,c,pR,I⟩,jz,fun b ar=>(aG b ar).1⟩⟩
 done:=by
  intro X ck hw g5 hc i ak s ab H E aa aG st aH
  subst ck hw g5
  obtain⟨f0,f1,f2,hq,f4,hR⟩:=aG it (by simp)
  exact ac7 X.A i s _ _ (aa.ok.hd hc) st aH fun h' hf=>⟨I,aa.turned (t':=s.toks) (fun b o ar e=>hf b o ar e) f0 f1 hq f4 hR⟩
 self:=fun A i s Q E st h=>ad8 A i s Q E st h
def PD(eg:TE):d8:=fun ab H R=>eg ab H fun x H1=>∃y,x=.str y/\R (vr y) H1
theorem VG{l:b5}{eg:TE}(aB:bX X l eg):jd X eB l (PD eg):=by
 intro ak s ab H R aa h
 refine cA (aB ak s ab H _ aa h) fun v s1 bE=>?_
 obtain⟨x,H1,aU,cK,cm⟩:=bE
 obtain⟨y,e,q⟩:=cm
 subst e
 obtain⟨t,rfl⟩:=cK
 have cZ:∀(o:bw)(bV:Nat->bc->Prop),Turn X.prog X.w X.K eB (vr y) [s1.heap.objs.size] s1.heap.objs.size bV->bV 0 (s1.heap.push o)->EF X ak ab eB R (.ref s1.heap.objs.size) {s1 with heap:=s1.heap.push o}:=fun o bV T bu=>by
  refine⟨s1.heap.objs.size,[s1.heap.objs.size],bV,vr y,H1,I,aU.kept (t':=s1.toks) fun b o e=>er _ e,T,bu,fun b ar=>?_,q⟩
  have e:=fU.mp ar
  subst e
  exact aU.qF (cE _) (aU.aP.fresh (cE _))
 cases bf:y.cps.all (· < 128)
 ·refine wpAny_pyIter_wide bf (cZ _ _ (M1 y _ "str_iterator" t (fun vc lr=>Walks.strWide lr _ y t) (by decide) (fun A i s Q E fN st aC fY=>?_) fun A i s Q E st aW=>wpAny_pyIter_striter_wide st aW) ⟨_,ha _ I,I,I⟩)
  exact wpAny_pyNext_wide_end fN st (by simpa using aC) fun h' uq=>fY h' fun b o ar e=>uq b o ar e
 ·refine wpAny_pyIter_ascii bf (cZ _ _ (M1 y _ "str_ascii_iterator" t (fun vc lr=>Walks.strAscii lr _ y t) (by decide) (fun A i s Q E fN st aC fY=>?_) fun A i s Q E st aW=>wpAny_pyIter_striter_ascii st aW) ⟨_,ha _ I,I,I⟩)
  exact wpAny_pyNext_ascii_end fN st (by simpa using aC) fun h' uq=>fY h' fun b o ar e=>uq b o ar e
end
noncomputable def yA(sc:Scope)(cs:List af):Bool :=
 sc.kind ==.function&&sc.names.all (fun y=>y.2 !=.cell)&&sc.names.all (fun y=>y.2 !=.local||sc.names.lookup y.1 == J .local) &&
  sc.names.all (fun y=>y.2 !=.free||cs.contains y.1)&&cs.all (fun x=>sc.names.lookup x == J .free)
noncomputable def rn(X:bz):List (Nat×af)->Prop
 |[]=>True
 |(j,x)::r=>X.N[j]?=J x/\(X.env.kindOf x=J .cell\/X.env.kindOf x=J .free)/\rn X r
theorem rn.at{X:bz}:∀{cs:List (Nat×af)},rn X cs->∀p∈cs,X.N[p.1]?=J p.2/\(X.env.kindOf p.2=J .cell\/X.env.kindOf p.2=J .free)
 |[],_,_,h=>nomatch h
 |(j,x)::r,⟨aj,aq,bl⟩,p,h=>by
  rcases dz.mp h with e|e
  .subst e;exact⟨aj,aq⟩
  .exact rn.at bl p e
noncomputable def Hs(X:bz)(cX:Scope)(cl:List (af×ae))(C:ae)(N:List af)(s2:aJ)(ax:au)(bQ:List ae):bz where
 prog:=X.prog
 w:=X.w
 K:=X.K
 mg:=X.mg
 base:=X.base
 A:=X.A
 N:=N
 dm:=s2
 hi:=ax
 env:=compEnvC cX cl C X.env
 outer:=X.stack
 stack:=X.stack
 ex:=bQ
 calm:=X.calm
 fn:=fun _=>ag
 pn:=[]
 xe:=fun _ _=>False
theorem F3{env:Env}:∀(names:List (af×jZ)),(∀y∈names,y.2=.free->∃c,env.cells.lookup y.1=J c)->
  ∀acc:List (af×ae),(∀x c,acc.lookup x=J c->env.cells.lookup x=J c)->∃cl,
  (forIn names acc fun(x:af×jZ)r=>do
   if x.2 ==.free then pure (ForInStep.yield ((x.1,<-cellOf env x.1)::r))else pure (ForInStep.yield r):Sem (List (af×ae)))=pure cl/\
  (∀x c,cl.lookup x=J c->env.cells.lookup x=J c)/\(∀y∈names,y.2=.free->∃c,cl.lookup y.1=J c)/\∀x c,acc.lookup x=J c->∃ix,cl.lookup x=J ix
 |[],_,acc,bf=>⟨acc,rfl,bf,(fun _ h=>nomatch h),fun _ c h=>⟨c,h⟩⟩
 | (n,k)::r,bo,acc,bf=>by
  by_cases hk:k=.free
  ·subst hk
   obtain⟨c,hc⟩:=bo _ hM rfl
   have CF:∀x ix,((n,c)::acc).lookup x=J ix->env.cells.lookup x=J ix:=fun x ix e=>by
    rw[List.lookup_cons]at e
    by_cases ay:x=n
    ·subst ay
     rw[beq_self_eq_true]at e
     cases e
     exact hc
    ·rw[beq_false_of_ne ay]at e
     exact bf x ix e
   obtain⟨cl,e,aj,aq,bl⟩:=F3 r (fun y bP=>bo y (fD _ bP)) ((n,c)::acc) CF
   refine⟨cl,?_,aj,fun y bP aG=>?_,fun x ix ay=>?_⟩
   ·rw[List.forIn_cons]
    simp only[cellOf,hc,beq_self_eq_true,if_true]
    exact e
   ·rcases dz.mp bP with e'|e'
    ·subst e'
     exact bl n c (by rw[List.lookup_cons,beq_self_eq_true])
    .exact aq y e' aG
   ·by_cases Py:x=n
    ·subst Py
     exact bl x c (by rw[List.lookup_cons,beq_self_eq_true])
    .exact bl x ix (by rw[List.lookup_cons,beq_false_of_ne Py];exact ay)
  ·obtain⟨cl,e,aj,aq,bl⟩:=F3 r (fun y bP=>bo y (fD _ bP)) acc bf
   refine⟨cl,?_,aj,fun y bP aG=>?_,bl⟩
   ·rw[List.forIn_cons]
    have ar:(k == jZ.free)=ag:=by simpa using hk
    simp only[ar,Bool.false_eq_true,if_false]
    exact e
   ·rcases dz.mp bP with e'|e'
    ·subst e'
     exact absurd aG hk
    .exact aq y e' aG
def qk(dQ:kH)(g:gW)(gy:hl)(cG:TE)(Q:bB)(gJ:St)(H1:au)(D:ae):Prop :=
 ∃ W:Nat->Nat->St->au->Prop,(∃m,W 0 m gJ (upd H1 D (.lst [])))/\∀i m cz ax,W i m cz ax->
  (dQ.stop i ax/\Q (.ref D) ax)\/
  (dQ.go i ax/\∀x bA,dQ.qa i ax x bA->g x cz bA fun b7 hF=>gy b7 hF fun b gb =>
   if b=ah then cG b7 gb fun y fS=>∃xs b8,fS D=J (.lst xs)/\xs.length<bY/\b8<m/\W (i+1) b8 b7 (upd fS D (.lst (xs++[y])))
   else ∃b8,b8<m/\W (i+1) b8 b7 gb)
def DJ(hZ:d8)(g:gW)(gy:hl)(cG:TE)(gJ:St->St):TE:=fun ab H Q=>hZ ab H fun dQ H1=>∀D,H1 D=aw->qk dQ g gy cG Q (gJ ab) H1 D
def sU:hl:=fun _ H Q=>Q ah H
def vK(X:bz)(ifs:List b5)(t:hl):Prop :=
 ∀(ak:List (ae×bw))(s:aJ)(ab:St)(H:au)(Q:Bool->au->Prop),Inv X ak ab H s->t ab H Q->
  bM (model X.prog X.w) X.A (forIn ifs ah fun c r=>if r=ah then do let ok <-isTrue c X.env (eval c X.env);pure (ForInStep.yield ok)else pure (ForInStep.yield r)) (AV X ak ab Q) X.xe s
theorem iN{X:bz}:vK X [] sU:=fun _ _ _ H _ aa h=>wpAny_tests_nil ⟨H,aa,h⟩
section
variable {prog:c1} {w:cH} {A:di} {E:ao->aJ->Prop} {R:Result->aJ->Prop} {s:aJ}
theorem Yo{elt h1:b5}{ifs:List b5}{it:ao}(aa:Nat->aJ->Prop)
  (turn:∀n s,aa n s->bM (model prog w) A (pyNext it) (fun r dI=>match r with
   |none=>R (.ok .next) dI
   | some v=>bM (model prog w) A (letOwnedTupleGo h1 it v) (fun _ RK=>bM (model prog w) A (assign h1 env v) (fun _ nO =>
     bM (model prog w) A (forIn ifs ah fun c r=>if r=ah then do let ok <-isTrue c env (eval c env);pure (ForInStep.yield ok)else pure (ForInStep.yield r)) (fun ok sT =>
      if ok=ah then bM (model prog w) A (eval elt env) (fun x RL =>
       bM (model prog w) A (call (.builtin "list.append") [acc,x]) (fun _ RM=>∃m,m<n/\aa m RM) (notedBy (model prog w) A env fun e aF=>R (.error e) aF) RL) (notedBy (model prog w) A env fun e aF=>R (.error e) aF) sT
      else ∃m,m<n/\aa m sT) (notedBy (model prog w) A env fun e aF=>R (.error e) aF) nO) (notedBy (model prog w) A env fun e aF=>R (.error e) aF) RK) (notedBy (model prog w) A env fun e aF=>R (.error e) aF) dI) (notedBy (model prog w) A env fun e aF=>R (.error e) aF) s)
  (n:Nat) (h:aa n s) :
  k3 (model prog w) A (.compLoop (.ListComp elt [⟨h1,iter,ifs,0⟩] cX aR) 0 it acc env) R s:=by
 refine codeAny_loop I aa (fun n s ez=>?_) n h
 show bM _ A ((compTurn (.ListComp elt [⟨h1,iter,ifs,0⟩] cX aR) 0 it acc env).onRaise (fun x=>do noteFrame x env;theTreesLotGoes x)) _ _ s
 refine wpAny_noted ?_
 rw[compTurn_list]
 refine bH (wpAny_standAt (bH (jD (turn n s ez) (fun r dI hB=>?_) fun _ _ h'=>h')))
 cases r with
 |none=>exact dD hB
 | some v =>
  refine bH (jD hB (fun _ RK aev=>?_) fun _ _ h'=>h')
  refine bH (jD aev (fun _ nO aew=>bH (jD aew (fun ok sT C5=>?_) fun _ _ h'=>h')) fun _ _ h'=>h')
  cases ok with
  |false=>exact dD ⟨I,C5⟩
  |true =>
   exact bH (bH (jD C5 (fun x RL aex=>bH (jD aex (fun _ RM aey=>dD (dD ⟨I,aey⟩)) fun _ _ h'=>h')) fun _ _ h'=>h'))
end
section
variable {X:bz} {elt h1 iter:b5} {ifs:List b5} {cX:Scope} {aR p:Pos} {e8:List (Nat×af)} {f7:List af} {hZ:d8} {g:gW} {gy:hl} {cG:TE}
noncomputable def ow(f7:List af)(e8:List (Nat×af)):St->St:=fun ab=>List.replicate f7.length aw++e8.map fun p=>(ab[p.1]?).join
theorem Ma{env:Env}:∀{names:List (af×jZ)}{x:af},names.lookup x=J .free->
  ((names.map fun(n,k)=>if(k == jZ.free&&env.scope.kind ==.function&&env.kindOf n == J .cell)then(n,jZ.cell)else(n,k)).lookup x=J .cell\/
   (names.map fun(n,k)=>if(k == jZ.free&&env.scope.kind ==.function&&env.kindOf n == J .cell)then(n,jZ.cell)else(n,k)).lookup x=J .free)
 |[],_,h=>by cases h
 | (n,k)::r,x,h=>by
  rw[List.lookup_cons]at h
  rw[je]
  by_cases ay:x=n
  ·subst ay
   rw[beq_self_eq_true]at h
   cases h
   dsimp only
   split
   .exact .inl (by rw[List.lookup_cons,beq_self_eq_true])
   .exact .inr (by rw[List.lookup_cons,beq_self_eq_true])
  ·rw[beq_false_of_ne ay]at h
   have cM:=Ma (env:=env) h
   dsimp only
   split<;>(rw[List.lookup_cons,beq_false_of_ne ay];exact cM)
theorem Mb{env:Env}:∀{names:List (af×jZ)}{x:af},((names.map fun(n,k)=>if(k == jZ.free&&env.scope.kind ==.function&&env.kindOf n == J .cell)then(n,jZ.cell)else(n,k)).lookup x=J .cell\/
   (names.map fun(n,k)=>if(k == jZ.free&&env.scope.kind ==.function&&env.kindOf n == J .cell)then(n,jZ.cell)else(n,k)).lookup x=J .free)->(∀y∈names,y.2≠.cell)->names.lookup x=J .free
 |[],_,h,_=>by rcases h with h|h<;>cases h
 | (n,k)::r,x,h,bo=>by
  rw[List.lookup_cons]
  by_cases ay:x=n
  ·subst ay
   rw[beq_self_eq_true]
   have hk:=bo _ hM
   rw[je]at h
   dsimp only at h
   split at h
   ·rename_i c
    simp only[hK,beq_iff_eq]at c
    exact congrArg J c.1.1
   ·rw[List.lookup_cons,beq_self_eq_true]at h
    rcases h with h|h
    .cases h;exact absurd I hk
    .exact h
  ·rw[beq_false_of_ne ay]
   refine Mb (env:=env) ?_ fun y bP=>bo y (fD _ bP)
   rw[je]at h
   dsimp only at h
   split at h<;>(rw[List.lookup_cons,beq_false_of_ne ay]at h;exact h)
theorem E4:∀{names:List (af×jZ)}{x:af}{k:jZ},names.lookup x=J k->(x,k)∈names
 |[],_,_,h=>by cases h
 | (n,eH)::r,x,k,h=>by
  rw[List.lookup_cons]at h
  by_cases ay:x=n
  ·subst ay
   rw[beq_self_eq_true]at h
   cases h
   exact hM
  ·rw[beq_false_of_ne ay]at h
   exact fD _ (E4 h)
set_option maxHeartbeats 1000000
noncomputable abbrev vd(α:Type):=List (af×ae)->ae->aJ->au->List ae->α
end
noncomputable def nd(H:au)(a:ae):c2->Prop
 |.ins _ al _=>H al=J (.own a)
 |.i1 _ u=>nd H a u
 |_=>True
def kF(H:au):Prop:=∀a o,H a=J o->nd H a o
theorem nd.of(x:gs P w H h a o):nd H a o:=by
 induction o with
 |ins C al fs=>exact x.1
 |i1 dN u cM=>exact cM x.2
 |_=>trivial
theorem fA.closed(x:fA P w H h):kF H:=fun a o e=>nd.of (x a o e)
theorem nd.mono(s:∀b u,H b=J u->H' b=J u)(x:nd H a o):nd H' a o:=by
 induction o with
 |ins C al fs=>exact s _ _ x
 |i1 dN u cM=>exact cM x
 |_=>trivial
theorem gs.sub(x:gs P w H' h a o)(uN:nd H a o):gs P w H h a o:=by
 induction o with
 |ins C al fs=>exact⟨uN,x.2⟩
 |i1 dN u cM=>exact⟨x.1,cM x.2 uN⟩
 |lst _=>exact x
 |tup _=>exact x
 |mA _=>exact x
 |pI _=>exact x
 |set _ _=>exact x
 |own _=>exact x
 |i9 _=>exact x
 |met _ _=>exact x
 |zG _ _=>exact x
 |rg _=>exact x
 |ext _=>exact x
structure Sub(H ip H':au):Prop where
 le:eD ip H'
 ge:∀b o,H b=J o->∃u,ip b=J u
 cl:kF H->kF ip
theorem Sub.refl(h:eD H H'):Sub H H H':=⟨h,fun _ o e=>⟨o,e⟩,id⟩
theorem Sub.all(h:∀b o,H b=J o->∃u,H' b=J u)(c:kF H->kF H'):Sub H H' H':=⟨eD.refl _,h,c⟩
theorem dq(h:H p=aw):eD H (upd H p o):=fun b u q=>by rw[bO (eN q h)];exact q
theorem tl(c:kF H)(h:H p=aw)(aK:nd (upd H p o) p o):kF (upd H p o):=fun a u e=>by
 by_cases z:a=p
 .subst z;rw[aQ]at e;cases e;exact aK
 ·rw[bO z]at e
  exact(c a u e).mono (dq h)
theorem Sub.new(h:H p=aw)(hs:eD H H')(e:H' p=J o)(aK:nd (upd H p o) p o):Sub H (upd H p o) H' :=
 ⟨fun b u q=>by
  by_cases z:b=p
  .subst z;rw[aQ]at q;cases q;exact e
  .rw[bO z]at q;exact hs b u q,fun b u q=>⟨u,dq h b u q⟩,fun c=>tl c h aK⟩
theorem Sub.ins{al:ae}{fs:List (af×V)}(h:H p=J (.ins C al fs))(hs:∀b u,b≠p->H b=J u->H' b=J u)(e:H' p=J (.ins C al uf)):Sub H (upd H p (.ins C al uf)) H' :=
 ⟨fun b u q=>by
  by_cases z:b=p
  .subst z;rw[aQ]at q;cases q;exact e
  .rw[bO z]at q;exact hs b u z q,fun b u q=>by
  by_cases z:b=p
  .subst z;exact⟨_,aQ⟩
  .exact⟨u,by rw[bO z];exact q⟩,fun c a u q=>by
  have hd:H al=J (.own p):=c p _ h
  have bp:al≠p:=fun z=>by rw[z,h]at hd;cases hd
  by_cases z:a=p
  ·subst z;rw[aQ]at q;cases q
   show upd H a _ al=_
   rw[bO bp];exact hd
  ·rw[bO z]at q
   have x:=c a u q
   revert x
   generalize u=o
   clear q
   induction o with
   |ins s9 d' alL =>
    intro (x:H d'=J (.own a))
    show upd H p _ d'=_
    rw[bO (fun y=>by rw[y,h]at x;cases x)];exact x
   |i1 dN u cM=>intro x;exact cM x
   |_=>intro _;trivial⟩
section
variable {X:bz} {ak:List (ae×bw)} {ab:St} {H H' ip:au} {s s0:aJ}
theorem fV.sub{fs ex:List ae}{Er:au}{aj aq:bc}(J0:fV fs ex Er H h aj)(u:fV fs ex Er H' h aq)(d:Sub H ip H'):fV fs ex Er ip h aq:=by
 refine⟨u.keep,u.slot,fun b o e n ay=>?_,u.there,fun b xs e=>?_,fun b o v e=>?_,fun b ps e=>?_⟩
 ·cases q:ip b with
  |none=>rfl
  |some v=>have:=d.le b v q;rw[u.free b o e n ay]at this;cases this
 ·obtain⟨v,bg⟩:=d.ge b _ (J0.mf b xs e)
  have:=d.le b v bg;rw[u.mf b xs e]at this;cases this;exact bg
 ·obtain⟨z,bg⟩:=d.ge b _ (J0.lq b o v e)
  have:=d.le b z bg;rw[u.lq b o v e]at this;cases this;exact bg
 ·obtain⟨m0,eP⟩:=J0.me b ps e
  obtain⟨z,bg⟩:=d.ge b _ eP
  obtain⟨m,aI⟩:=u.me b ps e
  have:=d.le b z bg;rw[aI]at this;cases this;exact⟨m,bg⟩
theorem fA.sub(x:fA P w H' h)(c:kF ip)(d:eD ip H'):fA P w ip h:=fun a o e=>(x a o (d a o e)).sub (c a o e)
theorem Inv.sub(Ky:Inv X ak gJ H s0)(aa:Inv X ak ab H' s)(d:Sub H ip H'):Inv X ak ab ip s :=
 ⟨aa.ok,aa.os,aa.bare,Ky.base.sub aa.base d,aa.loc,aa.cell,d.le.free aa.free,fun x c e=>d.le.free (aa.kx x c e),
  fun p bj=>let ⟨a,b,c⟩:=aa.pin p bj;⟨a,d.le.free b,c⟩,aa.aP.sub (d.cl Ky.aP.closed) d.le,aa.len⟩
end
inductive gB(H H':au)(Q:au->Prop):Prop where
 |mk (ip:au) (s:Sub H ip H') (q:Q ip):gB H H' Q
theorem cq.keep{sp:b3}(F:cq P w K mg base dv k f fd ps sp)
  (h:∀vs H Q E,sP vs H Q E->sp vs H (fun v H'=>gB H H' (Q v)) E):cq P w K mg base dv k f fd ps sP:=by
 refine⟨fun vs H Q E q=>F.len vs H _ E (h vs H Q E q),fun A outer s H args us vs Q E az eP ar r q=>mi (F.run A outer s H args us vs _ E az eP ar r (h vs H Q E q)) fun rs aF c=>?_⟩
 cases rs with
 |error e=>exact c
 | ok dB =>
  cases dB with
  |ret u =>
   obtain⟨v,H',os,bare,un,aP,dO,ip,d,iV⟩:=c
   exact⟨v,ip,os,bare,fV.sub (fV.refl (h:=s.heap)) un d,aP.sub (d.cl eP.aP.closed) d.le,dO,iV⟩
  |next=>exact c
  |brk=>exact c
  |cont=>exact c
theorem c5.P6{x:af}{st:br}{N:List af}{sp:b3}(F:c5 K x dJ st f fd)(S:bZ N ps (bI st))(len:∀vs H Q E,sp vs H Q E->vs.length=ps.length)
  (jR:∀(bh:ao)(A:di)(outer:List Env)(s:aJ)(H:au)(vs:List V)(Q:bB)(E:bR),fj k (A.deeper (envOfC dJ (bI st) s.heap.objs.size f bh))->sp vs H Q E->
   ∃t,ht (kt dv P w K mg base N dJ (bI st) f bh A outer s H E).sy (iz st) t/\t {nx:=fun _ H'=>gB H H' (Q .bK),rt:=fun v H'=>gB H H' (Q v)} (start N vs) H):cq P w K mg base dv (k+1) f fd ps sp :=
 (F.ok (sp:=fun vs H Q E=>∃fT,Q=(fun v H'=>gB H H' (fT v))/\sp vs H fT E) S (fun vs H Q E ⟨fT,_,h⟩=>len vs H fT E h) (fun bh A outer s H vs Q E az ⟨fT,e,h⟩=>by
  subst e
  exact jR bh A outer s H vs fT E az h)).keep fun vs H Q E h=>⟨Q,rfl,h⟩
end dT
end
section
namespace gc
noncomputable def el(n:Nat):Nat->List Bool
 |0=>[]
 |w+1=>n.testBit w::el n w
noncomputable def ba(n:Nat):Nat:=if n=0 then 0 else n.log2+1
noncomputable def j5(n:Nat):List Bool:=el n (ba n)
theorem la(n w:Nat):(el n w).length=w:=by
 induction w with
 |zero=>rfl
 |succ w cM=>simp[el,cM]
theorem Bn(n:Nat):(j5 n).length=ba n:=la _ _
theorem rL(n:Nat):n<2^ba n:=by
 unfold ba
 split
 .omega
 .exact Nat.lt_log2_self
theorem hn{w:Nat}(h:n<2^w):ba n<=w:=by
 unfold ba
 split
 .omega
 ·rename_i bu
  exact(Nat.log2_lt bu).mpr h
theorem rI(h:n≠0):0<ba n:=by unfold ba;rw[if_neg h];omega
theorem NS(h:n≠0):2^(ba n-1)<=n:=by
 unfold ba;rw[if_neg h];exact Nat.log2_self_le h
theorem Vu(aj:2^k<=n)(aq:n<2^(k+1)):ba n=k+1:=by
 have bu:n≠0:=by have:0<2^k:=Nat.two_pow_pos k;omega
 have a:=hn aq
 have b:=rL n
 have:¬ba n<=k:=fun q=>by
  have:=Nat.pow_le_pow_right (n:=2) (by decide) q
  omega
 omega
theorem L5(n:Nat)(b:Bool):(2*n+b.toNat).testBit 0=b:=by
 cases b<;>simp[Nat.testBit_zero]<;>omega
theorem Mp(n k:Nat)(b:Bool):(2*n+b.toNat).testBit (k+1)=n.testBit k:=by
 rw[Nat.testBit_succ]
 congr 1
 cases b<;>simp<;>omega
theorem ZB(n w:Nat)(b:Bool):el (2*n+b.toNat) (w+1)=el n w++[b]:=by
 induction w with
 |zero=>simp only[el,List.nil_append,L5]
 |succ w cM =>
  rw[el,cM,Mp]
  rfl
theorem Mv(h:n≠0)(b:Bool):ba (2*n+b.toNat)=ba n+1:=by
 have aj:=NS h
 have aq:=rL n
 have bl:=rI h
 obtain⟨k,e⟩:∃k,ba n=k+1:=⟨ba n-1,by omega⟩
 rw[e]at aj aq ⊢
 have ar:b.toNat<=1:=by cases b<;>simp
 have r1:2^k<=n:=aj
 have aI:2^(k+1)=2^k*2:=Nat.pow_succ ..
 have aL:2^(k+1+1)=2^(k+1)*2:=Nat.pow_succ ..
 exact Vu (k:=k+1) (by omega) (by omega)
theorem aah(h:n≠0)(b:Bool):j5 (2*n+b.toNat)=j5 n++[b]:=by
 unfold j5;rw[Mv h,ZB]
theorem aaf:j5 0=[]:=rfl
theorem aag(h:n≠0):j5 n=j5 (n/2)++[decide (n%2=1)]:=by
 have e:n=2*(n/2)+(decide (n%2=1)).toNat:=by
  by_cases q:n%2=1
  .simp[q];omega
  .simp[q];omega
 by_cases bu:n/2=0
 ·have:n=1:=by omega
  subst this
  decide
 ·conv=>lhs;rw[e]
  exact aah bu _
noncomputable def mV(a:Nat)(l:List Bool):Nat:=l.foldl (fun x b=>2*x+b.toNat) a
theorem alw(a:Nat):mV a []=a:=rfl
theorem GH(a:Nat)(b:Bool)(l:List Bool):mV a (b::l)=mV (2*a+b.toNat) l:=rfl
theorem UQ(a n w:Nat):mV a (el n w)=a*2^w+n%2^w:=by
 induction w generalizing a with
 |zero=>simp[el,mV,Nat.mod_one]
 | succ w cM =>
  rw[el,GH,cM]
  have h:n%2^(w+1)=(n.testBit w).toNat*2^w+n%2^w:=by
   rw[Nat.pow_succ,Nat.mod_mul,Nat.testBit_eq_decide_div_mod_eq,Nat.add_comm,Nat.mul_comm]
   congr 1
   have:n/2^w%2<2:=Nat.mod_lt _ (by decide)
   by_cases q:n/2^w%2=1
   .simp[q]
   ·have:n/2^w%2=0:=by omega
    simp[this]
  rw[h,Nat.pow_succ,Nat.add_mul]
  have e:2*a*2^w=a*(2^w*2):=by rw[Nat.mul_comm 2 a,Nat.mul_assoc,Nat.mul_comm 2 (2^w)]
  omega
theorem K4(h:n≠0):mV 1 (el n (ba n-1))=n:=by
 rw[UQ,Nat.one_mul]
 have aj:=NS h
 have aq:=rL n
 have bl:=rI h
 have e:2^ba n=2^(ba n-1)*2:=by rw[<-Nat.pow_succ];congr 1;omega
 have:n%2^(ba n-1)=n-2^(ba n-1):=by
  rw[Nat.mod_eq_sub_mod aj,Nat.mod_eq_of_lt (by omega)]
 omega
noncomputable def ks(e:Nat):List Bool:=if e=8 then []else [ag]
noncomputable def cnt(n:Nat):List Bool :=
 List.replicate (ba (ba (n+1))-1) ah++(ks (ba (ba (n+1)))++(el (ba (n+1)) (ba (ba (n+1))-1)++el (n+1) (ba (n+1)-1)))
theorem Bu(h:n+1<2^255):(cnt n).length<=ba (n+1)+14:=by
 unfold cnt
 have hd:ba (n+1)<=255:=hn h
 have he:ba (ba (n+1))<=8:=hn (by omega)
 have aW:0<ba (n+1):=rI (by omega)
 simp only[cD,List.length_replicate,la]
 have:(ks (ba (ba (n+1)))).length<=if ba (ba (n+1))=8 then 0 else 1:=by
  unfold ks;split<;>simp
 split at this<;>omega
noncomputable def iW(n:Int):List Bool:=if n<0 then ag::(cnt (-1-n).toNat).map (!·)else ah::cnt n.toNat
end gc
end
variable {l:List Bool}
section
namespace gc
open PySem dT
noncomputable def pH(b:Bool):Nat:=if b then 49 else 48
noncomputable def aV(l:List Bool):af:=⟨(l.map pH).toArray⟩
theorem yf{a b:af}(h:a.cps.toList=b.cps.toList):a=b:=by
 obtain⟨x⟩:=a;obtain⟨y⟩:=b
 exact congrArg af.mk (Array.ext' h)
theorem lT(l:List Bool):(aV l).cps.toList=l.map pH:=by simp[aV]
theorem cF(l:List Bool):(aV l).length=l.length:=by simp[aV,af.length]
theorem Lw{a b:Bool}(h:pH a=pH b):a=b:=by cases a<;>cases b<;>first|rfl|(revert h;decide)
theorem TL{a b:List Bool}(h:aV a=aV b):a=b:=by
 have:=congrArg (fun x:af=>x.cps.toList) h
 simp only[lT]at this
 exact List.map_inj_right (fun _ _=>Lw) |>.mp this
theorem hN(a b:List Bool):aV a++aV b=aV (a++b):=by
 apply yf
 show((aV a).cps++(aV b).cps).toList=_
 rw[Array.toList_append,lT,lT,lT,fk]
theorem s1:(af.ofString "1")=aV [ah]:=by decide+kernel
theorem s0:(af.ofString "0")=aV [ag]:=by decide+kernel
theorem Qj:(af.ofString "")=aV []:=by decide+kernel
theorem TM(a b:List Bool):decide (V.str (aV a)=V.str (aV b))=decide (a=b):=by
 by_cases h:a=b
 .subst h;simp
 ·have:¬V.str (aV a)=V.str (aV b):=fun q=>h (TL (V.str.inj q))
  rw[gu h,gu this]
theorem Yk:∀bb:List af,(Txt.join (af.ofString "") bb).cps.toList=(bb.map (·.cps.toList)).flatten:=by
 have e:(af.ofString "").cps=#[]:=by decide+kernel
 have key:∀(bb:List af)(acc:Array Nat),(bb.foldl (fun acc p=>acc++(af.ofString "").cps++p.cps) acc).toList=acc.toList++(bb.map (·.cps.toList)).flatten:=by
  intro bb
  induction bb with
  |nil=>intro acc;simp
  |cons y r cM=>intro acc;rw[List.foldl_cons,cM,e];simp
 intro bb
 cases bb with
 |nil=>rfl
 |cons y r =>
  show((r.foldl (fun acc p=>acc++(af.ofString "").cps++p.cps) y.cps)).toList=_
  rw[key];simp
theorem tv(ls:List (List Bool)):Txt.join (af.ofString "") (ls.map aV)=aV ls.flatten:=by
 apply yf
 rw[Yk,lT,iL,List.map_flatten]
 exact congrArg List.flatten (qt fun l _=>lT l)
theorem Z8(l:List Bool):(l.map fun b=>[b]).flatten=l:=by
 induction l with
 |nil=>rfl
 |cons b r cM=>rw[je,nh,cM];rfl
theorem Zip(l:List Bool):Txt.join (af.ofString "") (l.map fun b=>aV [b])=aV l:=by
 have:=tv (l.map fun b=>[b])
 rw[iL]at this
 rw[show(fun b=>aV [b])=aV ∘ (fun b=>[b])from rfl,this]
 exact congrArg aV (Z8 l)
theorem BN(b:Bool)(n:Int):Txt.mul (aV [b]) n=aV (List.replicate n.toNat b):=by
 unfold Txt.mul
 by_cases h:n<1
 .rw[if_pos h,show n.toNat=0 by omega];rfl
 ·rw[if_neg h]
  by_cases aj:n=1
  .subst aj;rfl
  ·have:(n == 1||(aV [b]).length == 0)=ag:=by simp[cF,aj]
   rw[this,if_neg (by decide)]
   apply yf
   have key:∀(k:Nat)(acc:Array Nat),((List.replicate k (aV [b]).cps).foldl (· ++ ·) acc).toList=acc.toList++(List.replicate k b).map pH:=by
    intro k
    induction k with
    |zero=>intro acc;simp
    |succ k cM=>intro acc;rw[List.replicate_succ,List.foldl_cons,cM,List.replicate_succ];simp[aV]
   rw[lT]
   simpa using key n.toNat #[]
theorem ajm(lo aC:Option Int)(n:Nat):c6.Str.strSliceIndices lo aC 1 n=(List.range (ek.fi n n aC-ek.fi n 0 lo)).map (ek.fi n 0 lo+·):=by
 unfold c6.Str.strSliceIndices
 rw[<-sliceRange_one]
 simp only[show((1:Int) > 0)=True from eq_true (by decide),if_true]
 congr 1
 ·cases lo with
  |none=>rfl
  |some i =>
   simp only[ek.fi]
   by_cases h:i<0
   .simp only[h,if_true];omega
   .simp only[h,if_false];omega
 ·cases aC with
  |none=>rfl
  |some i =>
   simp only[ek.fi]
   by_cases h:i<0
   .simp only[h,if_true];omega
   .simp only[h,if_false];omega
theorem vV(x:af)(lo aC:Option Int):(Txt.slice x lo aC).cps.toList=(x.cps.toList.drop (ek.fi x.length 0 lo)).take (ek.fi x.length x.length aC-ek.fi x.length 0 lo):=by
 have aB:x.cps.toList.length=x.length:=by simp[af.length]
 have aj:=ek.Qk x.length x.length (cE _) aC
 have aq:=ek.Qk x.length 0 (UF _) lo
 unfold Txt.slice
 rw[ajm]
 split
 ·rename_i c
  simp only[cC,mu,hK,beq_iff_eq]at c
  have a0:ek.fi x.length 0 lo=0\/x.length=0:=by omega
  rcases a0 with a0|a0
  .rw[a0,List.drop_zero,UV (by omega)]
  ·have:x.cps.toList=[]:=List.length_eq_zero_iff.mp (by omega)
   rw[this];simp
 .rw[pick_run]
theorem vU(l:List Bool)(lo aC:Option Int):Txt.slice (aV l) lo aC=aV ((l.drop (ek.fi l.length 0 lo)).take (ek.fi l.length l.length aC-ek.fi l.length 0 lo)):=by
 apply yf
 rw[vV,lT,lT,cF,List.map_take,List.map_drop]
theorem Y2(l:List Bool):Txt.slice (aV l) (J 1) aw=aV l.tail:=by
 rw[vU]
 congr 1
 show(l.drop (min 1 l.length)).take (l.length-min 1 l.length)=l.tail
 cases l with
 |nil=>rfl
 |cons b r=>simp
theorem Mq(a b:List Bool):Txt.startswith (aV a) (aV b)=decide (b <+: a):=by
 unfold Txt.startswith c6.Str.subAt
 rw[cF,cF,Nat.zero_add]
 by_cases h:b.length<=a.length
 ·have e:((aV a).cps.extract 0 b.length == (aV b).cps)=decide (b <+: a):=by
   have key:((aV a).cps.extract 0 b.length).toList=(a.take b.length).map pH:=by
    rw[Array.toList_extract,lT]
    simp[List.extract,List.map_take]
   by_cases bj:b <+: a
   ·rw[d6 bj,beq_iff_eq]
    apply Array.ext'
    rw[key,lT,<-List.prefix_iff_eq_take.mp bj]
   ·rw[gu bj]
    rw[beq_eq_false_iff_ne]
    intro q
    have iV:=congrArg Array.toList q
    rw[key,lT]at iV
    have:=List.map_inj_right (fun _ _=>Lw) |>.mp iV
    exact bj (List.prefix_iff_eq_take.mpr this.symm)
  simp only[d6 h,Bool.true_and]
  exact e
 ·have bj:¬b <+: a:=fun q=>h q.length_le
  simp[h,bj]
theorem M6{b:Bool}(h:l[i]?=J b):(aV l).cps.toList[i]?=J (pH b):=by rw[lT,gf,h];rfl
theorem TH(b:Bool):PySem.intText? (aV [b])=J (b.toNat:Int):=by cases b<;>decide+kernel
theorem wb(n:Nat):c6.Int.intBits ((n:Nat):Int)=ba n:=by
 unfold c6.Int.intBits ba
 by_cases h:n=0
 .subst h;rfl
 ·have:(((n:Nat):Int) == 0)=ag:=by simpa using h
  rw[this,if_neg (by decide),if_neg h]
  simp
theorem M5{c:Nat}(h:(aV l).cps[i]?=J c):V.str ⟨#[c]⟩=V.str (aV [l.getD i ag]):=by
 have h':(aV l).cps.toList[i]?=J c:=by simpa using h
 rw[lT,gf]at h'
 rw[fu]
 cases e:l[i]? with
 |none=>rw[e]at h';cases h'
 |some b =>
  rw[e]at h'
  have:pH b=c:=gX h'
  rw[<-this];rfl
end gc
end
variable {b4:dT.TE}
section
namespace dT
open PySem PySem.Spec PyProof.Rows
section
variable {X:bz}
noncomputable def dr:=d5.or (VP (X:=X)) Zd
theorem gp:d5 X (kE .Sub) (mU fun i j =>.int (i-j)):=VK
noncomputable def kW:=d5.or (VN (X:=X)) Zc
noncomputable def mR:=d5.or (Wd (X:=X)) ZP
noncomputable def cU:=n7.or (n7.or (Vd (X:=X)) VV) VW
noncomputable def iG:=rB.or (UM (X:=X)) VD
theorem jd.or{it:b5}{hZ R2:d8}(h:jd X eB it hZ)(h':jd X eB it R2):jd X eB it (fun ab H R=>hZ ab H R\/R2 ab H R):=fun ak s ab H R aa q=>q.elim (h ak s ab H R aa) (h' ak s ab H R aa)
theorem kb{l:b5}{eg:TE}(aB:bX X l eg):jd X eB l (fun ab H R=>PC X.K eg ab H R\/PD eg ab H R):=(UT aB).or (VG aB)
end
def dx(K:bN)(mg:af->Option ao)(x:af)(st:br)(ps:List af)(f:ae)(fd:fG):Prop:=c5 K x x st f fd/\Binds K fd ps []/\mg x=J (.ref f)
def bD(P:c1)(w:cH)(K:bN)(mg:af->Option ao)(base:bc)(k:Nat)(x:af)(ps:List af)(sp:b3):Prop :=
 ∃f fd,cq P w K mg base dv k f fd ps sp/\Binds K fd ps []/\kD K (.ref f)=ah/\mg x=J (.ref f)
def mm(P:c1)(w:cH)(K:bN)(mg:af->Option ao)(base:bc)(k:Nat)(C:ae)(m:af)(ps:List af)(sp:b3):Prop :=
 ∃f fd,cq P w K mg base dv k f fd ps sp/\Binds K fd ps []/\tp K C m f
def jc(P:c1)(w:cH)(K:bN)(mg:af->Option ao)(base:bc)(k:Nat)(x:af)(C:ae)(ps:List af)(sp:b3):Prop :=
 ∃f fd,EC K C f/\cq P w K mg base dv k f fd ps sp/\Binds K fd ps []/\mg x=J (.ref C)
def ej(mg:af->Option ao)(x:af)(v:V):Prop:=∃u,mg x=J u/\RelV v u
section
variable {X:bz} {k eH:Nat} {x m:af} {C:ae} {ps:List af} {sp:b3} {e o:b5} {aZ:List b5} {t:gL} {b4:TE} {p aR apos:Pos} {v:V}
theorem hv(h:ej X.mg x v)(aH:il X x:=by rfl)(hd:(x == ("__debug__":af))=ag:=by decide+kernel):bX X (.Name x p) (p4 v):=by
 obtain⟨u,aj,aq⟩:=h
 exact UY aH aj aq hd
theorem cj(h:bD X.prog X.w X.K X.mg X.base k x ps sp)(az:fj eH X.A)(bf:hH X (e::aZ) t)(hk:k<=eH:=by decide)(aH:il X x:=by rfl)(i4:(x == ("__debug__":af))=ag:=by decide+kernel)
  (he:dt (e::aZ) X.env=(ag,eval e X.env)::dt aZ X.env:=by rfl) (gk:(backTo aR (dt aZ X.env)).any (·.1)=ag:=by rfl):bX X (.Call (.Name x p) (e::aZ) [] aR) (JS sp [] iJ t):=by
 obtain⟨f,fd,F,ar,iD,hm⟩:=h
 exact UZ F (az.mono hk) aH hm iD ar .nil zD bf i4 he gk
theorem Gl{pl:Sem Bool}(h:mm X.prog X.w X.K X.mg X.base k C m ps sp)(c:fz X.K C)(az:fj eH X.A)(he:bX X o b4)(bf:hH X (e::aZ) t)(hk:k<=eH:=by decide)
  (jT:dt (e::aZ) X.env=(ag,eval e X.env)::dt aZ X.env:=by rfl) (gk:(backTo aR (dt aZ X.env)).any (·.1)=ag:=by rfl)
  (aT:eval (.Call (.Attribute o m apos) (e::aZ) [] aR) X.env=(do
   let ov <-eval o X.env
   standAt apos.atName
   let (f,first) <-holding [ov] (getMethod ov m pl)
   callWith aR f first (backTo aR (dt (e::aZ) X.env)) (backToKw aR (rl [] X.env))):=by rfl) :
  bX X (.Call (.Attribute o m apos) (e::aZ) [] aR) (DK C m sp [] iJ b4 t):=by
 obtain⟨f,fd,F,ar,hm⟩:=h
 exact UW he c hm F (az.mono hk) ar .nil zD bf jT gk aT
theorem ts{pl:Sem Bool}(h:mm X.prog X.w X.K X.mg X.base k C m ps sp)(c:fz X.K C)(az:fj eH X.A)(he:bX X o b4)(hk:k<=eH:=by decide)
  (aT:eval (.Call (.Attribute o m apos) [] [] aR) X.env=(do
   let ov <-eval o X.env
   standAt apos.atName
   let (f,first) <-holding [ov] (getMethod ov m pl)
   callWith aR f first (backTo aR (dt [] X.env)) (backToKw aR (rl [] X.env))):=by rfl) :
  bX X (.Call (.Attribute o m apos) [] [] aR) (DK C m sp [] iJ b4 DL):=by
 obtain⟨f,fd,F,ar,hm⟩:=h
 exact TQ he c hm F (az.mono hk) ar .nil zD aT
theorem px(h:jc X.prog X.w X.K X.mg X.base k x C ps sp)(az:fj eH X.A)(bf:hH X (e::aZ) t)(hk:k+1<=eH:=by decide)(aH:il X x:=by rfl)(i4:(x == ("__debug__":af))=ag:=by decide+kernel)
  (he:dt (e::aZ) X.env=(ag,eval e X.env)::dt aZ X.env:=by rfl) (gk:(backTo aR (dt aZ X.env)).any (·.1)=ag:=by rfl):bX X (.Call (.Name x p) (e::aZ) [] aR) (RP C sp [] iJ t):=by
 obtain⟨f,fd,M,F,ar,hm⟩:=h
 exact UX M F (az.mono hk) aH hm ar .nil zD bf i4 he gk
end
theorem dx.ok{x:af}{st:br}{N:List af}{sp:b3}(F:dx K mg x st ps f fd)(S:bZ N ps (bI st))(len:∀vs H Q E,sp vs H Q E->vs.length=ps.length)
  (jR:∀(bh:ao)(A:di)(outer:List Env)(s:aJ)(H:au)(vs:List V)(Q:bB)(E:bR),fj k (A.deeper (envOfC x (bI st) s.heap.objs.size f bh))->sp vs H Q E->
   ∃t,ht (kt dv P w K mg base N x (bI st) f bh A outer s H E).sy (iz st) t/\t {nx:=fun _ H'=>gB H H' (Q .bK),rt:=fun v H'=>gB H H' (Q v)} (start N vs) H):bD P w K mg base (k+1) x ps sp :=
 ⟨f,fd,F.1.P6 S len jR,F.2.1,F.1.iD,F.2.2⟩
section
variable {X:bz} {e:b5} {aR:Pos}
theorem da:d5 X (h0 .Eq) Ds:=Wh
theorem sz:d5 X (h0 .NotEq) Qb:=Wc
theorem zA:d5 X (h0 .LtE) (mU fun i j =>.aN (decide (i<=j))):=We
theorem kV:d5 X (h0 .Gt) (mU fun i j =>.aN (decide (j<i))):=Wf
theorem zz:d5 X (h0 .GtE) (mU fun i j =>.aN (decide (j<=i))):=Wg
theorem jE.or'{f:ao}{r fe:List V->au->bB->Prop}(h:jE X f r)(h':jE X f fe):jE X f (fun xs H Q=>r xs H Q\/fe xs H Q):=fun ak s ab H xs us Q aa dO q=>q.elim (h ak s ab H xs us Q aa dO) (h' ak s ab H xs us Q aa dO)
noncomputable def tw:=jE.or' (aap (X:=X)) XN
noncomputable def ot:=jE.or' (YV (X:=X)) Yp
theorem GK(bf:bX X e b4):bX X (.UnaryOp .Not e aR) (fun ab H Q=>b4 ab H fun x H'=>∃k,AX X.K x H' k/\Q (.aN (!k)) H'):=by
 intro ak s ab H Q aa h
 refine UnaryOp_ (cA (bf ak s ab H _ aa h) fun v s1 bE=>?_)
 obtain⟨x,H1,aU,cK,k,nQ,cm⟩:=bE
 exact not_of (cA (NX ak s1 ab H1 x v (fun b H'=>b=k/\Q (.aN (!k)) H') aU cK ⟨k,nQ,I,cm⟩) fun b s2 ⟨ax,bJ,e,cN⟩=>by subst e;exact⟨.aN (!b),ax,bJ,I,cN⟩)
end
end dT
namespace dT
open PySem
theorem qA:kg "int"=J (.type "int"):=by decide+kernel
theorem V6:kg "str"=J (.type "str"):=by decide+kernel
theorem NR:kg "bool"=J (.type "bool"):=by decide+kernel
theorem tL:kg "tuple"=J (.type "tuple"):=by decide+kernel
theorem Vt:kg "list"=J (.type "list"):=by decide+kernel
theorem d2:kg "len"=J (.builtin "len"):=by decide+kernel
theorem hz:kg "isinstance"=J (.builtin "isinstance"):=by decide+kernel
theorem Hk:kg "min"=J (.builtin "min"):=by decide+kernel
theorem V7:kg "abs"=J (.builtin "abs"):=by decide+kernel
theorem wh:kg "all"=J (.builtin "all"):=by decide+kernel
end dT
end
variable {dQ:dT.kH} {cG:dT.TE} {dg:dT.e1}
section
namespace dT
open PySem PySem.Spec PyProof.Rows gc
theorem iv{u:c2}:upd (upd H a o) a u=upd H a u:=by
 funext b
 unfold upd
 split<;>rfl
theorem Gy{g:gW}{Q:bB}{D:ae}(n:Nat)(xs jO:Nat->V)(S:St->Prop)(bo:n<=bY)(bu:S gJ)
  (yW:∀i H,i<n->dQ.go i H) (IV:∀H,dQ.stop n H) (bP:∀i H x H',i<n->dQ.qa i H x H'->H'=H/\x=xs i)
  (aT:∀i cz H1,i<n->S cz->∀R:St->V->au->Prop,(∀b7,S b7->R b7 (jO i) H1)->g (xs i) cz H1 fun b7 ax=>cG b7 ax fun y bA=>R b7 y bA)
  (aW:Q (.ref D) (upd H D (.lst ((List.range n).map jO)))) :
  qk dQ g sU cG Q gJ H D:=by
 refine⟨fun i m cz ax=>i<=n/\m=n-i/\S cz/\ax=upd H D (.lst ((List.range i).map jO)),⟨n,UF _,I,bu,I⟩,?_⟩
 rintro i m cz ax ⟨aj,rfl,aq,rfl⟩
 rcases j4 i n with z|z
 ·refine .inr ⟨yW i _ z,fun x bA y=>?_⟩
  obtain⟨rfl,rfl⟩:=bP i _ x bA z y
  refine aT i cz _ z aq (fun b7 y fS=>∃xs b8,fS D=J (.lst xs)/\xs.length<bY/\b8<n-i/\(i+1<=n/\b8=n-(i+1)/\S b7/\upd fS D (.lst (xs++[y]))=upd H D (.lst ((List.range (i+1)).map jO)))) fun b7 gq=>?_
  refine⟨_,n-(i+1),aQ,?_,by omega,by omega,rfl,gq,?_⟩
  .rw[cC,mu];omega
  .rw[iv,List.range_succ,fk];rfl
 ·have e:i=n:=by omega
  subst e
  exact .inl ⟨IV _,aW⟩
theorem Zw{c:Int}{g:gW}{D:Ends}(Pv:Nat->St->au->Prop)(bu:Pv 0 ab H)
  (hs:∀i ab H,i<n->Pv i ab H->g (.int (lo+i*c)) ab H fun b7 ax=>dg {D with nx:=Pv (i+1),ct:=Pv (i+1),bk:=D.nx} b7 ax) (hd:∀ab H,Pv n ab H->D.nx ab H) :
  ∃W:Nat->Nat->St->au->Prop,(∃m,W 0 m ab H)/\∀i m ab H,W i m ab H->
   ((xP lo c n).stop i H/\D.nx ab H)\/((xP lo c n).go i H/\∃N:St->au->Prop,(∀bU H',N bU H'->∃b8,b8<m/\W (i+1) b8 bU H')/\∀x H',(xP lo c n).qa i H x H'->g x ab H' fun b7 ax=>dg {D with nx:=N,ct:=N,bk:=D.nx} b7 ax):=by
 refine⟨fun i m ab H=>i<=n/\m=n-i/\Pv i ab H,⟨n,UF _,I,bu⟩,?_⟩
 rintro i m ab H ⟨aj,rfl,aq⟩
 rcases j4 i n with z|z
 ·refine .inr ⟨z,Pv (i+1),fun bU H' q=>⟨n-(i+1),by omega,by omega,rfl,q⟩,?_⟩
  rintro x H' ⟨rfl,rfl⟩
  exact hs i ab _ z aq
 ·have e:i=n:=by omega
  subst e
  exact .inl ⟨cE _,hd ab H aq⟩
end dT
namespace dT
open PySem
theorem Mx(h:H a=J o):upd H a o=H:=by
 funext b
 unfold upd
 split
 .rename_i e;rw[e,h]
 .rfl
end dT
namespace gc
theorem yc(l:List Bool):l.map (xor ag)=l:=by
 rw[show(xor ag)=(id:Bool->Bool)from funext fun b=>by cases b<;>rfl,List.map_id]
end gc
namespace dT
open PySem
theorem rH(K:bN)(t:ao):dn K t t=J ah:=by
 unfold dn;rw[beq_self_eq_true,if_pos rfl]
end dT
namespace gc
open PySem dT
theorem VC(m:Nat):eG [V.str (af.ofString "0"),V.str (af.ofString "1")] ((m:Int)%2)=J (.str (aV [decide (m%2=1)])):=by
 have h:m%2=0\/m%2=1:=by omega
 rcases h with h|h
 ·have e:((m:Int)%2)=((0:Nat):Int):=by omega
  rw[e,h]
  exact dA (by rw[s0];rfl)
 ·have e:((m:Int)%2)=((1:Nat):Int):=by omega
  rw[e,h]
  exact dA (by rw[s1];rfl)
end gc
namespace gc
theorem Mo{n:Int}(aj : -(2^255)<n)(aq:n<2^255-1):(iW n).length<=270:=by
 have c:∀m:Nat,m+1<2^255->(cnt m).length<=269:=fun m h=>by
  have:=Bu h
  have:=hn h
  omega
 unfold iW
 split
 .rw[dZ,cC];have:=c (-1-n).toNat (by omega);omega
 .rw[dZ];have:=c n.toNat (by omega);omega
end gc
end
variable {h':bc}
section
namespace dT
open PySem PySem.Spec PyProof.Rows
def xI(e:ae)(o:Option ae)(c:Option ao)(d:Option ae):Prop:=(o=d/\(d=aw\/c=J .none))\/(d=J e/\o=aw/\c=J .none)
def kG(h:bc)(e:ae)(cls:ao)(d:Option ae)(T:ae)(dB:ao):Prop :=
 ∃ey vs j9 jB,h.get? e=J ey/\ey.cls=cls/\xI e ey.dict vs[2]? d/\ey.data=.fields vs/\vs[1]?=J (.ref T)/\T≠e/\h.get? T=J j9/\j9.data=.fields jB/\jB[3]?=J dB/\True
structure vO(fs:List ae)(e:ae)(T:Option ae)(h h':bc):Prop where
 keep:∀b o,b≠e->J b≠T->b∉fs->h.get? b=J o->h'.get? b=J o
 slot:∀b o,b≠e->J b≠T->h.get? b=J o->∃df,h'.get? b=J {o with slots:=df}
section
variable {M:Model} {A:di} {E:ao->aJ->Prop} {s:aJ} {base:bc} {env:Env} {outer:List Env} {L e T:ae} {ey:bw} {vs:Array ao} {head:ao} {acY:Bool} {Q:Unit->aJ->Prop} {cls:ao} {d:Option ae} {dB:ao}
theorem LZ(o:bw)(f):(o.mapFields f).dict=o.dict:=by
 obtain⟨c,d,abk,df⟩:=o;cases abk<;>rfl
theorem HC(lx:A.frames=J (env::outer))(aB:s.heap.FunFrames base (env::outer))(aG:env.frame=J L)(he:s.heap.get? e=J ey)(hd:ey.data=.fields vs)(f5:1<vs.size)(j8:xI e ey.dict vs[2]? d)
  (h:∀h' dF,kG h' e ey.cls d dF (rawInt L)->s.heap.get? dF=aw->h'.FunFrames base (env::outer)->vO ((env::outer).filterMap (·.frame)) e aw s.heap h'->Q () {s with heap:=h'}) :
  bM M A (do let a <-frameOf env;let pl <-entryPlaceOf L acY;let b <-EntryCells.newEntry head a .none (rawInt L) .none pl;setField (.ref e) 1 b) Q E s:=by
 have ade:e∉(env::outer).filterMap (·.frame):=fun hm=>by
  obtain⟨_,o,aK,jS⟩:=aB.mem hm
  rw[he]at aK;injection aK with aK;subst aK;exact jS vs hd
 refine bH (wpAny_frameOf_fun lx aB aG fun hB zd=>?_)
 refine bH (wpAny_entryPlaceOf fun pl gk=>?_)
 unfold EntryCells.newEntry newFields
 refine bH (wpAny_newObj_type ?_ (gk.sizeOk5 _ _ _ _ _))
 have mG:hB.get? e=J ey:=(zd.2.1 e ade).trans he
 generalize Po:({cls :=.type "traceback",dict:=aw,data :=.fields ([head,.ref L,.none,rawInt L,.none]++(if pl.isEmpty then List.replicate 6 ao.none else pl)).toArray}:bw)=j9
 have CK:=er (h:=hB) j9 mG
 refine s7 CK hd f5 ?_
 have l4:hB.objs.size≠e:=Nat.ne_of_gt (d9 mG)
 have mF:=bw.data_mapFields hd (·.setIfInBounds 1 (ao.ref hB.objs.size))
 have CL:=bc.get?_update_self (bw.mapFields (·.setIfInBounds 1 (ao.ref hB.objs.size))) CK (bw.isFreed_of_fields mF)
 have H8:((hB.push j9).update e (bw.mapFields (·.setIfInBounds 1 (ao.ref hB.objs.size)))).get? hB.objs.size=J j9 :=
  (bc.get?_update_other _ _ (ea l4)).trans (ha hB (by rw[<-Po];rfl))
 have keep:∀b o,b≠e->hB.get? b=J o->((hB.push j9).update e (bw.mapFields (·.setIfInBounds 1 (ao.ref hB.objs.size)))).get? b=J o:=fun b o mE ar=>by
  rw[bc.get?_update_other _ _ (ea mE)];exact er _ ar
 have uJ:∀b o,s.heap.get? b=J o->(∀vs,o.data≠.fields vs)->b≠e:=fun b o ar jS q=>by
  rw[q,he]at ar;injection ar with ar;subst ar;exact jS vs hd
 refine h _ hB.objs.size ⟨_,_,j9,_,CL,bw.cls_mapFields _ _,(by rw[LZ,Array.getElem?_setIfInBounds_ne (by decide)];exact j8),mF,by simp[f5],l4,H8,by rw[<-Po],?_,trivial⟩ ?_ (aB.of_keeps fun b o ar jS=>?_) ⟨fun b o mE _ qQ ar=>keep b o mE ((zd.2.1 b qQ).trans ar),fun b o mE _ ar=>?_⟩
 .first|(simp;done)|(rcases gk with rfl|⟨_,_,_,_,_,_,_,rfl⟩<;>simp)
 .exact bc.get?_none_of_le (by rw[zd.1];exact cE _)
 ·obtain⟨df,hs⟩:=zd.2.2 b o ar
  exact⟨_,keep b _ (uJ b o ar jS) hs,I⟩
 ·obtain⟨df,hs⟩:=zd.2.2 b o ar
  exact⟨df,keep b _ mE hs⟩
theorem zk(aB:s.heap.FunFrames base outer)(aT:kG s.heap e cls d T dB)
  (h:∀h',kG h' e cls d T .none->h'.FunFrames base outer->(∀b o,b≠T->s.heap.get? b=J o->h'.get? b=J o)->Q () {s with heap:=h'}):bM M A (setFlight (.ref e) aw) Q E s:=by
 obtain⟨ey,vs,j9,jB,he,hc,ed,hd,aj,l4,cf,ic,bl,j8⟩:=aT
 have zc:3<jB.size:=(Array.getElem?_eq_some_iff.mp bl).1
 unfold setFlight
 refine bH (ja he hd aj ?_)
 rw[if_pos (show(ao.ref T != ao.none)=ah from by simp)]
 have other:∀b,b≠T->(s.heap.update T (bw.mapFields (·.setIfInBounds 3 ((aw:Option ae).elim ao.none fun f=>rawInt f)))).get? b=s.heap.get? b:=fun b ar=>bc.get?_update_other _ _ (ea ar)
 have uJ:∀b o,s.heap.get? b=J o->(∀vs,o.data≠.fields vs)->b≠T:=fun b o ar jS q=>by
  rw[q,cf]at ar;injection ar with ar;subst ar;exact jS jB ic
 refine s7 cf ic zc (h _ ⟨ey,vs,_,_,(other e (ea l4)).trans he,hc,ed,hd,aj,l4,bc.get?_update_self _ cf (bw.isFreed_of_fields (bw.data_mapFields ic _)),bw.data_mapFields ic _,by simp[zc],j8⟩
  (aB.of_keeps fun b o ar jS=>⟨o,(other b (uJ b o ar jS)).trans ar,rfl⟩) fun b o ar q=>(other b ar).trans q)
theorem Jh(lx:A.frames=J (env::outer))(aB:s.heap.FunFrames base (env::outer))(aG:env.frame=J L)(aT:kG s.heap e cls d T .none)
  (h:∀h' dF,kG h' e cls d dF (rawInt L)->s.heap.get? dF=aw->h'.FunFrames base (env::outer)->vO ((env::outer).filterMap (·.frame)) e (J T) s.heap h'->Q () {s with heap:=h'}):bM M A (noteFrame (.ref e) env) Q E s:=by
 obtain⟨ey,vs,j9,jB,he,hc,ed,hd,aj,l4,cf,ic,bl,j8⟩:=aT
 unfold noteFrame
 simp only[aG]
 refine bH (ja he hd aj ?_)
 rw[if_pos (show(ao.ref T != ao.none)=ah from by simp)]
 refine bH (ja cf ic bl ?_)
 rw[if_neg (show ¬((ao.none == rawInt L)=ah)from by simp[rawInt])]
 refine bH (s7 cf ic (Array.getElem?_eq_some_iff.mp bl).1 ?_)
 have other:∀b,b≠T->(s.heap.update T (bw.mapFields (·.setIfInBounds 3 ao.none))).get? b=s.heap.get? b:=fun b ar=>bc.get?_update_other _ _ (ea ar)
 have uJ:∀b o,s.heap.get? b=J o->(∀vs,o.data≠.fields vs)->b≠T:=fun b o ar jS q=>by
  rw[q,cf]at ar;injection ar with ar;subst ar;exact jS jB ic
 have back:∀b,(s.heap.update T (bw.mapFields (·.setIfInBounds 3 ao.none))).get? b=aw->s.heap.get? b=aw:=fun b ar=>by
  by_cases z:b=T
  ·subst z
   rw[bc.get?_update_self _ cf (bw.isFreed_of_fields (bw.data_mapFields ic _))]at ar;cases ar
  .rw[other b z]at ar;exact ar
 subst hc
 refine HC (s:={s with heap:=s.heap.update T (bw.mapFields (·.setIfInBounds 3 ao.none))}) lx (aB.of_keeps fun b o ar jS=>⟨o,(other b (uJ b o ar jS)).trans ar,I⟩) aG ((other e (ea l4)).trans he) hd (Array.getElem?_eq_some_iff.mp aj).1 ed fun h' dF iH hr lC ke=>?_
 exact h h' dF iH (back _ hr) lC ⟨fun b o aj aq bl bW=>ke.keep b o aj (by simp) bl ((other b (fun z=>aq (by rw[z]))).trans bW),fun b o aj aq bW=>ke.slot b o aj (by simp) ((other b (fun z=>aq (by rw[z]))).trans bW)⟩
theorem YM(lx:A.frames=J (env::outer))(aB:s.heap.FunFrames base (env::outer))(aG:env.frame=J L)(aT:kG s.heap e cls d T .none)
  (h:∀h' dF,kG h' e cls d dF .none->s.heap.get? dF=aw->vO ((env::outer).filterMap (·.frame)) e (J T) s.heap h'->Q () {s with heap:=h'}):bM M A (leaving env (.ref e)) Q E s:=by
 unfold leaving
 refine bH (Jh lx aB aG aT fun aj dF iH hr lC ke=>?_)
 refine zk lC iH fun aq p9 _ nV=>h aq dF p9 hr ⟨fun b o aj aq bl bW=>nV b o (fun z=>by rw[z,hr]at bW;cases bW) (ke.keep b o aj aq bl bW),fun b o aj aq bW=>?_⟩
 obtain⟨df,e⟩:=ke.slot b o aj aq bW
 exact⟨df,nV b _ (fun z=>by rw[z,hr]at bW;cases bW) e⟩
theorem Yj(lx:A.frames=J (env::outer))(aB:s.heap.FunFrames base (env::outer))(aG:env.frame=J L)(he:s.heap.get? e=J ey)(hd:ey.data=.fields vs)(aj:vs[1]?=J .none)(j8:xI e ey.dict vs[2]? d)
  (h:∀h' dF,kG h' e ey.cls d dF .none->s.heap.get? dF=aw->vO ((env::outer).filterMap (·.frame)) e aw s.heap h'->Q () {s with heap:=h'}):bM M A (leaving env (.ref e)) Q E s:=by
 unfold leaving noteFrame
 simp only[aG]
 refine bH (bH (ja he hd aj ?_))
 rw[if_neg (by decide)]
 refine HC lx aB aG he hd (Array.getElem?_eq_some_iff.mp aj).1 j8 fun aj dF iH hr lC ke=>?_
 refine zk lC iH fun aq p9 _ nV=>h aq dF p9 hr ⟨fun b o aj aq bl bW=>nV b o (fun z=>by rw[z,hr]at bW;cases bW) (ke.keep b o aj aq bl bW),fun b o aj aq bW=>?_⟩
 obtain⟨df,e⟩:=ke.slot b o aj aq bW
 exact⟨df,nV b _ (fun z=>by rw[z,hr]at bW;cases bW) e⟩
end
noncomputable def fH(P:c1)(w:cH):lG:=fun outer H s E e aF=>∃a C d H' T,e=.ref a/\aF.os=s.os/\AllBare aF.gens/\fV (iS outer) [] H H' s.heap aF.heap/\fA P w H' aF.heap/\
 kG aF.heap a (.ref C) d T .none/\H' a=aw/\H' T=aw/\s.heap.get? a=aw/\s.heap.get? T=aw/\E (.ref C) d H'
theorem fA.there(ok:fA P w H h)(e:H a=J o):∃u,h.get? a=J u:=by
 have x:=ok a o e
 cases o with
 |lst xs=>obtain⟨_,_,_,_,e⟩:=x;exact⟨_,e⟩
 |tup xs=>obtain⟨_,_,_,p⟩:=x;obtain⟨o,e,_⟩:=p;exact⟨_,e⟩
 |mA fZ=>obtain⟨_,_,_,_,o,_,_,e,_⟩:=x;exact⟨_,e⟩
 |pI fZ=>exact(show False from x).elim
 |set S n=>obtain⟨o,_,_,_,e,_⟩:=x;exact⟨_,e⟩
 |ins C al fs=>obtain⟨_,_,_,e,_⟩:=x;exact⟨_,e⟩
 |own y=>exact x
 |i9 fs=>obtain⟨_,⟨_,_,_,e,_⟩,_⟩:=x;exact⟨_,e⟩
 |zG lo aC=>obtain⟨_,_,_,e⟩:=x;exact⟨_,e⟩
 |i1 dN u=>obtain⟨e,_⟩:=x;exact⟨_,e⟩
 |rg ps=>exact⟨_,x⟩
 |met f y=>exact⟨_,x⟩
 |ext u7=>exact x.2.1
theorem fA.none(ok:fA P w H h)(e:h.get? a=aw):H a=aw:=by
 cases q:H a with
 |none=>rfl
 |some o=>obtain⟨u,z⟩:=ok.there q;rw[e]at z;cases z
section
variable {P:c1} {w:cH} {K:bN} {mg:af->Option ao} {base:bc} {N:List af} {dJ:af} {cX:Scope} {f:ae} {bh:ao} {A:di} {outer:List Env} {s:aJ} {H:au} {E:bR}
theorem K3{X:bz}{s1:aJ}{T:Option ae}(aa:Inv X ak ab H1 s1)(ay:X.ex=[])(hs:X.stack=X.env::X.outer)(S:vO (iS X.stack) a T s1.heap h')
  (i7:X.dm.heap.get? a=aw) (ih:∀t,T=J t->X.dm.heap.get? t=aw) (fa:H1 a=aw) (j7:∀t,T=J t->H1 t=aw):fV (iS X.outer) [] X.hi H1 X.dm.heap h'/\fA X.prog X.w H1 h':=by
 have B:=aa.base
 rw[ay]at B
 have Jd:∀b o,X.dm.heap.get? b=J o->b≠a:=fun b o e z=>by rw[z,i7]at e;cases e
 have neT:∀b o,X.dm.heap.get? b=J o->J b≠T:=fun b o e z=>by have:=ih b z.symm;rw[e]at this;cases this
 have sx:∀b o,X.dm.heap.get? b=J o->b≠X.env.locals:=fun b o e=>fC (fB (d9 e) aa.ok.above)
 refine⟨⟨fun b o e n ar ay=>?_,fun b o e n ar ay=>?_,B.free,fun b o e ay=>?_,B.mf,B.lq,B.me⟩,fun b u e=>(aa.aP b u e).mW (fun c v hc q=>?_) (fun _ q=>q) fun _ _ q=>q⟩
 ·refine S.keep b o (Jd b o e) (neT b o e) (fun z=>?_) (B.keep b o e n ar ay)
  exact(dz.mp (aa.sS b z)).elim (sx b o e) ar
 ·obtain⟨df,aI⟩:=B.slot b o e n ar ay
  obtain⟨lA,aL⟩:=S.slot b _ (Jd b o e) (neT b o e) aI
  exact⟨lA,aL⟩
 ·obtain⟨ee,aI⟩:=B.there b o e ay
  obtain⟨lA,aL⟩:=S.slot b _ (Jd b o e) (neT b o e) aI
  exact⟨_,aL⟩
 ·have qT:∃z,H1 c=J z:=by
   rcases hc with rfl|hc
   .exact⟨_,e⟩
   .exact⟨_,hc⟩
  obtain⟨z,bC⟩:=qT
  refine S.keep c v (fun y=>?_) (fun y=>?_) (fun y=>?_) q
  .rw[y,fa]at bC;cases bC
  .rw[j7 c y.symm]at bC;cases bC
  .rw[aa.zX c y]at bC;cases bC
end
section
variable {P:c1} {w:cH} {K:bN} {mg:af->Option ao} {base:bc} {N:List af} {dJ:af} {cX:Scope} {f:ae} {bh:ao} {A:di} {outer:List Env} {s:aJ} {H:au} {E:bR}
def KZ(X:bz)(E:bR):Prop:=∀(ak:List (ae×bw))(ab:St)(H1:au)(s1:aJ)(a C:ae)(ey:bw)(vs:Array ao)(d:Option ae),Inv X ak ab H1 s1->s1.heap.get? a=J ey->ey.cls=.ref C->ey.data=.fields vs->vs[1]?=J .none->xI a ey.dict vs[2]? d->
 H1 a=aw->X.dm.heap.get? a=aw->E (.ref C) d H1->X.xe (.ref a) s1
theorem F4:KZ (kt (fH P w) P w K mg base N dJ cX f bh A outer s H E) E:=by
 intro ak ab H1 s1 a C ey vs d aa he hc hd aj j8 fa i7 q
 refine Yj (base:=base) aa.ok.frames aa.stack I he hd aj j8 fun h' dF iH hr lC=>?_
 have j7:=aa.aP.none hr
 obtain⟨u,hk⟩:=K3 (T:=aw) aa rfl rfl lC i7 (fun t z=>by cases z) fa (fun t z=>by cases z)
 refine⟨a,C,d,H1,dF,I,aa.os,aa.bare,u,hk,hc ▸ iH,fa,j7,i7,?_,q⟩
 cases z:s.heap.get? dF with
 |none=>rfl
 |some o =>
  obtain⟨ee,e⟩:=aa.base.there dF o z (show dF∉([]:List ae) by simp)
  rw[hr]at e;cases e
theorem gx:Passes (fH P w) (kt (fH P w) P w K mg base N dJ cX f bh A outer s H E) E:=by
 intro ak ab H1 s1 e s2 aa h
 obtain⟨a,C,d,ax,T,rfl,os,bare,un,aP,lp,fa,j7,i7,ih,q⟩:=h
 have bJ:Inv (kt (fH P w) P w K mg base N dJ cX f bh A outer s H E) ak ab ax s2:=aa.yy (ch:=[]) os un aP bare (fun b z=>absurd z (by simp))
 have old:∀b,s1.heap.get? b=aw->s.heap.get? b=aw:=fun b ar=>by
  cases z:s.heap.get? b with
  |none=>rfl
  |some o =>
   obtain⟨ee,e⟩:=aa.base.there b o z (show b∉([]:List ae) by simp)
   rw[ar]at e;cases e
 refine YM (base:=base) bJ.ok.frames bJ.stack I lp fun h' dF iH hr lC=>?_
 obtain⟨u,hk⟩:=K3 (T:=J T) bJ rfl rfl lC (old a i7) (fun t z=>by cases z;exact old T ih) fa (fun t z=>by cases z;exact j7)
 refine⟨a,C,d,ax,dF,I,bJ.os,bJ.bare,u,hk,iH,fa,bJ.aP.none hr,old a i7,?_,q⟩
 cases z:s.heap.get? dF with
 |none=>rfl
 |some o =>
  obtain⟨ee,e⟩:=bJ.base.there dF o z (show dF∉([]:List ae) by simp)
  rw[hr]at e;cases e
end
end dT
end
variable {T:ae} {cp:Tok} {pn:List (ae×bw)} {Eh:dT.St->dT.bR} {np xt:Pos}
section
namespace dT
open PySem PySem.W PySem.Spec PyProof.Rows
structure ExcC(K:Frag)(C:ae):Prop where
 ga:findIn K (.ref C) "__getattribute__"=J (J (.builtin "BaseException.__getattribute__"))
 gt:findIn K (.ref C) "__getattr__"=J aw
 cl:findIn K (.ref C) "__class__"=J (J (.builtin "object.__class__"))
 dN:mroIn K C (.type "object")=J ah
 be:mroIn K C (.type "BaseException")=J ah
 is:isClsIn K C=ah
 bo:specialIn K (.builtin "object.__class__") "__get__"=J (J (.builtin "getset_descriptor.__get__"))
 cp:takesIn K (.builtin "object.__class__")=J ah
section
variable {K:Frag} {prog:c1} {w:cH} {A:di} {E:ao->aJ->Prop} {h:bc} {g:Array GenState} {d:Drawn} {t:Nat} {os:OsState} {x C:ae} {ox:bw} {ma:Option bw} {name:af}
theorem Uj{R:Result->aJ->Prop}(X:K.In h)(aa:InstAt h x ox C ma)(c:ExcC K C)
  (aW:bM (model prog w) A.in1 (c6.«object.__getattribute__» ⟨[.ref x,.str name cp],[]⟩) (fun cZ aF=>match cZ with|.done (.ret v)=>R (.ok (.ret v)) aF|_=>False) (fun _ _=>False) ⟨h,g,d,t,os⟩) :
  k3 (model prog w) A (.call (.builtin "BaseException.__getattribute__") ⟨[.ref x,.str name cp],[]⟩) R ⟨h,g,d,t,os⟩:=by
 have tm:=aa.type (M:=model prog w)
 have n8:=looks_mroIn (M:=model prog w) X c.be
 refine z8 F.attr_ValueError.ga.plain F.entry_bexc_ga (check_slot (i:="BaseException.__getattribute__") (owner:="BaseException") (n:="__getattribute__") (by decide+kernel) (by decide+kernel) (tm.andThen n8) (F.args_bexc_ga _ _) ?_)
 refine jD aW (fun cZ aF z=>?_) fun _ _ z=>False.elim z
 rcases cZ with(_|_|_|_)|_<;>first|exact z|exact z.elim
theorem Lg{fill:Bool}(X:K.In h)(aa:InstAt h x ox C ma)(c:ExcC K C)
  (aW:∀A:di,bM (model prog w) A (c6.«object.__getattribute__» ⟨[.ref x,.str name cp],[]⟩) (fun cZ aF=>match cZ with|.done (.ret v)=>Q v aF/\handedIn v=ah|_=>False) (fun _ _=>False) ⟨h,g,d,t,os⟩) :
  bM (model prog w) A (getAttrBy (.ref x) (.str name cp) fill expr) Q E ⟨h,g,d,t,os⟩:=by
 have tm:=aa.type (M:=model prog w)
 have n8:=looks_findIn (M:=model prog w) X c.ga
 have dT:=looks_findIn (M:=model prog w) X c.gt
 have hq:=F.attr_ValueError.ga.bind (.ref x)
 have Px:(expr&&onTheHeap (ao.builtin "BaseException.__getattribute__"))=ag:=by cases expr<;>rfl
 have aet:(ao.builtin "BaseException.__getattribute__" == ao.builtin "object.__getattribute__")=ag:=by decide+kernel
 have oQ:(onTheHeap (ao.ref C)&&ao.builtin "BaseException.__getattribute__" == ao.builtin "object.__getattribute__")=ag:=by rw[aet];rfl
 unfold getAttrBy
 refine wpAny_holding (bH (tm.at (bH (n8.at ?_))))
 dsimp only
 rw[if_neg (by rw[oQ];decide)]
 have rest:∀A:di,k3 (model prog w) A (.call (.builtin "BaseException.__getattribute__") ⟨[.ref x,.str name cp],[]⟩) (fun r aF=>match r with|.ok (.ret v)=>Q v aF/\handedIn v=ah|_=>False) ⟨h,g,d,t,os⟩:=fun A=>Uj X aa c (jD (aW A.in1) (fun cZ aF z=>by rcases cZ with(_|_|_|_)|_<;>first|exact z|exact z.elim) fun _ _ z=>z.elim)
 repeat (any_goals (first|assumption|with_reducible refine dT.at ?_|wp_step))
 refine mi (rest A) fun r aF z=>?_
 cases r with
 |error e=>exact z.elim
 |ok dB=>cases dB with
  |ret v=>exact handed_on z.2 z.1
  |next=>exact z.elim
  |brk=>exact z.elim
  |cont=>exact z.elim
theorem W6{Q:Fin->aJ->Prop}(X:K.In h)(aa:InstAt h x ox C ma)(c:ExcC K C)(aW:Q (.done (.ret (.ref C))) ⟨h,g,d,t,os⟩):
  bM (model prog w) A (c6.«object.__getattribute__» ⟨[.ref x,.str "__class__" cp],[]⟩) Q E ⟨h,g,d,t,os⟩:=by
 have tm:=aa.type (M:=model prog w)
 obtain⟨c9,hc⟩:=Option.isSome_iff_exists.mp (show(clsIn K C).isSome=ah from c.is)
 have aG:findObj K C ma "__class__"=J (.bind (.builtin "getset_descriptor.__get__") (.builtin "object.__class__")):=by
  unfold findObj
  rw[hc,Option.bind_some,c.cl,Option.bind_some]
  simp[c.bo,c.cp]
 have n8:=looks_find (M:=model prog w) X aa aG
 repeat (any_goals (first|assumption|with_reducible refine tm.at ?_|with_reducible refine n8.at ?_|wp_step))
 refine class_get (s:=⟨h,g,d,t,os⟩) (ox:=ox) (od:=ma) X aa c.dN ?_
 repeat (any_goals (first|assumption|wp_step))
theorem W5{Q:Fin->aJ->Prop}(X:K.In h)(aa:InstAt h x ox C ma)(aG:findObj K C ma name=J (.value v))(aW:Q (.done (.ret v)) ⟨h,g,d,t,os⟩):
  bM (model prog w) A (c6.«object.__getattribute__» ⟨[.ref x,.str name cp],[]⟩) Q E ⟨h,g,d,t,os⟩:=by
 have tm:=aa.type (M:=model prog w)
 have n8:=looks_find (M:=model prog w) X aa aG
 repeat (any_goals (first|assumption|with_reducible refine tm.at ?_|with_reducible refine n8.at ?_|wp_step))
theorem aaa{Q:Option ao->aJ->Prop}(X:K.In s.heap)(aa:InstAt s.heap x ox C ma)(c:ExcC K C)(aW:Q (J (.ref C)) {s with toks:=s.toks+1}):bM (model prog w) A (getAttr? (.ref x) "__class__") Q E s:=by
 obtain⟨h,g,d,t,os⟩:=s
 unfold getAttr? getAttrBy?
 refine bH (wpAny_mkText (bH (wpAny_attempt ?_)))
 exact Lg X aa c fun A=>W6 X aa c ⟨dD aW,I⟩
theorem Z9(X:K.In s.heap)(aa:InstAt s.heap x ox C ma)(c:ExcC K C)(aG:findObj K C ma name=J (.value v))(bg:handedIn v=ah)(aW:Q v {s with toks:=s.toks+1}):bM (model prog w) A (getAttr (.ref x) name expr) Q E s:=by
 obtain⟨h,g,d,t,os⟩:=s
 unfold getAttr
 refine bH (wpAny_mkText ?_)
 exact Lg X aa c fun A=>W5 X aa aG ⟨aW,bg⟩
theorem Nc(c:ExcC K C):KitX K (.ref x) (.ref C) (fun h=>∃ox ma,InstAt h x ox C ma) where
 ty:=fun _ _ _ ⟨_,_,aa⟩=>aa.type
 it:=fun _ _ X _=>by
  obtain⟨N8,lu⟩:=Option.isSome_iff_exists.mp (show(clsIn K C).isSome=ah from c.is)
  unfold clsIn at lu
  split at lu
  ·rename_i ix d' N7 lA aK
   intro vc fT ru aF k q
   unfold isType loadHead
   exact bH (wpAny_loadPart (k _ _ (X _ _ aK)) (dD q))
  .cases lu
 ne:=fun h aki cx bq n df X aeh=>by
  obtain⟨N8,lu⟩:=Option.isSome_iff_exists.mp (show(clsIn K C).isSome=ah from c.is)
  refine Bool.eq_false_iff.mpr fun q=>?_
  have e:C=aki:=ao.ref.inj (beq_iff_eq.mp q)
  subst e
  unfold clsIn at lu
  split at lu
  ·rename_i ix d' N7 lA aK
   have z:=(X _ _ aK).symm.trans aeh
   cases z
  .cases lu
 ca:=fun X ⟨_,_,aa⟩ k=>aaa X aa c k
end
variable {N:List af}
section
variable {P:c1} {w:cH} {K:bN} {mg:af->Option ao} {base:bc}
def lZ(H:au)(E:bR):bR:=fun c d H'=>gB H H' (E c d)
theorem cq.aeZ{sp:b3}(F:cq P w K mg base (fH P w) k f fd ps sp)
  (h:∀vs H Q E,sP vs H Q E->sp vs H (fun v H'=>gB H H' (Q v)) (lZ H E)):cq P w K mg base (fH P w) k f fd ps sP:=by
 refine⟨fun vs H Q E q=>F.len vs H _ _ (h vs H Q E q),fun A outer s H args us vs Q E az eP ar r q=>mi (F.run A outer s H args us vs _ _ az eP ar r (h vs H Q E q)) fun rs aF c=>?_⟩
 cases rs with
 | error e =>
  obtain⟨a,C,d,H',T,rfl,os,bare,un,aP,lp,fa,j7,i7,ih,ip,cx,iV⟩:=c
  have nn:∀b,H' b=aw->ip b=aw:=fun b ar=>by
   cases z:ip b with
   |none=>rfl
   |some o=>have:=cx.le b o z;rw[ar]at this;cases this
  exact⟨a,C,d,ip,T,I,os,bare,fV.sub (fV.refl (h:=s.heap)) un cx,aP.sub (cx.cl eP.aP.closed) cx.le,lp,nn a fa,nn T j7,i7,ih,iV⟩
 | ok dB =>
  cases dB with
  |ret u =>
   obtain⟨v,H',os,bare,un,aP,dO,ip,d,iV⟩:=c
   exact⟨v,ip,os,bare,fV.sub (fV.refl (h:=s.heap)) un d,aP.sub (d.cl eP.aP.closed) d.le,dO,iV⟩
  |next=>exact c
  |brk=>exact c
  |cont=>exact c
theorem c5.Dl{x:af}{st:br}{sp:b3}(F:c5 K x dJ st f fd)(S:bZ N ps (bI st))(len:∀vs H Q E,sp vs H Q E->vs.length=ps.length)
  (jR:∀(bh:ao)(A:di)(outer:List Env)(s:aJ)(H:au)(vs:List V)(Q:bB)(E:bR),fj k (A.deeper (envOfC dJ (bI st) s.heap.objs.size f bh))->sp vs H Q E->
   ∃t,ht (kt (fH P w) P w K mg base N dJ (bI st) f bh A outer s H (lZ H E)) (iz st) t/\t {nx:=fun _ H'=>gB H H' (Q .bK),rt:=fun v H'=>gB H H' (Q v)} (start N vs) H):cq P w K mg base (fH P w) (k+1) f fd ps sp:=by
 refine cq.aeZ (sp:=fun vs H Q E=>∃fT ru,Q=(fun v H'=>gB H H' (fT v))/\E=lZ H ru/\sp vs H fT ru) ?_ fun vs H Q E h=>⟨Q,E,I,I,h⟩
 obtain⟨iE,od,gm,doc,pm,an,bh,ct,mS,rfl,pU,ky⟩:=F.ex
 refine LF pU ky S (fun vs H Q E ⟨fT,ru,_,_,h⟩=>len vs H fT ru h) fun A outer s H vs Q E az bE=>?_
 obtain⟨fT,ru,aI,aL,oP⟩:=bE
 subst aI aL
 exact jR bh A outer s H vs fT ru az oP
def gU(P:c1)(w:cH)(K:bN)(mg:af->Option ao)(base:bc)(k:Nat)(x:af)(ps:List af)(sp:b3):Prop :=
 ∃f fd,cq P w K mg base (fH P w) k f fd ps sp/\Binds K fd ps []/\kD K (.ref f)=ah/\mg x=J (.ref f)
theorem dx.Dl{x:af}{st:br}{sp:b3}(F:dx K mg x st ps f fd)(S:bZ N ps (bI st))(len:∀vs H Q E,sp vs H Q E->vs.length=ps.length)
  (jR:∀(bh:ao)(A:di)(outer:List Env)(s:aJ)(H:au)(vs:List V)(Q:bB)(E:bR),fj k (A.deeper (envOfC x (bI st) s.heap.objs.size f bh))->sp vs H Q E->
   ∃t,ht (kt (fH P w) P w K mg base N x (bI st) f bh A outer s H (lZ H E)) (iz st) t/\t {nx:=fun _ H'=>gB H H' (Q .bK),rt:=fun v H'=>gB H H' (Q v)} (start N vs) H):gU P w K mg base (k+1) x ps sp :=
 ⟨f,fd,F.1.Dl S len jR,F.2.1,F.1.iD,F.2.2⟩
end
def vL(CX:lG)(X:bz)(E:St->bR):Prop:=∀(ak:List (ae×bw))(ab:St)(H:au)(s:aJ)(e:ao)(aF:aJ),Inv X ak ab H s->CX X.stack H s (E ab) e aF->X.xe e aF
variable {X:bz}
theorem Passes.x{E:bR}(h:Passes CX X E):vL CX X fun _=>E:=h
def ajx(sp:b3)(E:St->bR)(t:gL):TE:=fun ab H Q=>t ab H fun vs H1=>sp vs H1 Q (E ab)
section
variable {X:bz} {k eH:Nat} {x:af} {ps:List af} {sp:b3} {e:b5} {aZ:List b5} {t:gL} {p aR:Pos} {E:St->bR}
theorem lb(h:gU X.prog X.w X.K X.mg X.base k x ps sp)(az:fj eH X.A)(ay:vL (fH X.prog X.w) X E)(bf:hH X (e::aZ) t)(hk:k<=eH:=by decide)(aH:il X x:=by rfl)(i4:(x == ("__debug__":af))=ag:=by decide+kernel)
  (he:dt (e::aZ) X.env=(ag,eval e X.env)::dt aZ X.env:=by rfl) (gk:(backTo aR (dt aZ X.env)).any (·.1)=ag:=by rfl):bX X (.Call (.Name x p) (e::aZ) [] aR) (ajx sp E t):=by
 obtain⟨f,fd,F,ar,iD,hm⟩:=h
 intro ak s ab H Q aa h
 refine rm (rK aa aH hm ?_ i4)
 refine xy (h₀:=X.base) aa.ok.mod.q4 iD (cA (bf aR ak s ab H _ aa h) fun us s1 bE=>?_) he gk
 obtain⟨vs,H1,aU,r,q⟩:=bE
 refine ⟨aU.eI,?_⟩
 have aB:us.length=ps.length:=by rw[<-r.length];exact F.len _ _ _ _ q
 have js:=ar s1 us aU.eI (by rw[List.append_nil];exact aB)
 rw[List.append_nil]at js
 refine qc (mi (F.run X.A X.stack s1 H1 ⟨us,[]⟩ us vs Q (E ab) (az.mono hk) aU.wu js r q) fun r aF aW=>?_)
 cases r with
 |error e=>exact ay ak ab H1 s1 e aF aU aW
 |ok dB =>
  cases dB with
  |ret u=>exact aU.after aW
  |next=>exact False.elim aW
  |brk=>exact False.elim aW
  |cont=>exact False.elim aW
end
abbrev my:List ao:=[.type "ValueError",.type "Exception",.type "BaseException",.type "object"]
noncomputable def iK(a C:ae)(d:Option ae):c2 :=.ext fun h=>∃o vs,h.get? a=J o/\o.cls=.ref C/\xI a o.dict vs[2]? d/\o.data=.fields vs/\True
theorem Vk{d:Option ae}{dB:ao}(f:kG h a (.ref C) d T dB):gs P w H h a (iK a C d):=by
 obtain⟨ey,vs,j9,jB,he,hc,ed,hd,_,_,_,_,_,j8⟩:=f
 exact⟨⟨ey,vs,he,hc,ed,hd,j8⟩,⟨ey,he⟩,fun aj aq ⟨o,vs,aI,aL,dS,eZ,oA⟩ k=>⟨o,vs,k o aI,aL,dS,eZ,oA⟩⟩
theorem YP{K:Frag}{D:ae}{o:bw}{b:Bool}{Q:Bool->aJ->Prop}(X:K.In s.heap)(he:s.heap.get? a=J o)(hc:o.cls=.ref C)(yx:ExcC K D)(rh:typeIn K (.ref D)=J (.type "type"))
  (hm:mroIn K C (.ref D)=J b) (aW:Q b s):bM M A (excMatches (.ref a) (.ref D)) Q E s:=by
 obtain⟨h,g,d,t,os⟩:=s
 have n8:=looks_typeIn (M:=M) X rh
 have dT:=looks_mroIn (M:=M) X yx.be
 have Ex:=looks_mroIn (M:=M) X hm
 have alj:=(Nc (x:=a) yx).it M h X
 have Tg:Looks M h (isType (.ref D)) ah:=by
  obtain⟨N8,lu⟩:=Option.isSome_iff_exists.mp (show(clsIn K D).isSome=ah from yx.is)
  unfold clsIn at lu
  split at lu
  ·rename_i ix d' N7 lA aK
   intro vc fT ru aF k q
   unfold isType loadHead
   exact bH (wpAny_loadPart (k _ _ (X _ _ aK)) (dD q))
  .cases lu
 have f:=tc_notTuple
 unfold excMatches isExcClass isInstance
 repeat (first|(with_reducible refine xA he ?_;rw[hc])|with_reducible refine n8.at ?_|with_reducible refine Tg.at ?_|with_reducible refine dT.at ?_|with_reducible refine Ex.at ?_|wp_step)
 cases b
 .repeat (first|exact aW|wp_step)
 .repeat (first|exact aW|wp_step)
section
variable {X:bz} {ak:List (ae×bw)} {ab:St} {H1 ax:au} {s1 s2:aJ} {h':bc} {a C T dF:ae} {d:Option ae}
theorem Inv.N6(aU:Inv X ak ab H1 s1)(bJ:Inv X ak ab ax s2)(hex:X.ex=[])(i7:s1.heap.get? a=aw)(ih:s1.heap.get? T=aw)(fa:ax a=aw)(j7:ax T=aw)
  (keep:∀b o,b≠a->b≠T->b∉iS X.stack->s2.heap.get? b=J o->h'.get? b=J o)
  (slot:∀b o,b≠a->b≠T->s2.heap.get? b=J o->∃df,h'.get? b=J {o with slots:=df}) (lp:kG h' a (.ref C) d dF .none):Inv X ak ab (upd ax a (iK a C d)) {s2 with heap:=h',toks:=t'}:=by
 have ne:∀b o,s1.heap.get? b=J o->b≠a/\b≠T:=fun b o e=>⟨fun z=>(by rw[z,i7]at e;cases e),fun z=>(by rw[z,ih]at e;cases e)⟩
 have uI:∀b o,X.dm.heap.get? b=J o->b≠a/\b≠T:=fun b o e=>by
  obtain⟨ee,e'⟩:=aU.base.there b o e (by rw[hex];simp)
  exact ne b ee e'
 have sx:∀b o,X.dm.heap.get? b=J o->b≠X.env.locals:=fun b o e=>fC (fB (d9 e) bJ.ok.above)
 have pW:X.env.locals≠a/\X.env.locals≠T:=by
  obtain⟨m,⟨o,_,_,aK,_⟩,_⟩:=aU.loc
  exact ne _ o aK
 have zt:∀x c,X.env.cells.lookup x=J c->c≠a/\c≠T:=fun x c e=>by
  obtain⟨v,o,aK,_⟩:=aU.cell x c e
  exact ne c o aK
 have cellK:∀x c,X.env.cells.lookup x=J c->∀v,s2.heap.IsCell c v->h'.IsCell c v:=fun x c e v ⟨o,aK,hd⟩=>by
  obtain⟨df,q⟩:=slot c o (zt x c e).1 (zt x c e).2 aK
  exact⟨_,q,hd⟩
 refine⟨bJ.ok,bJ.os,bJ.bare,⟨fun b o e n ar ay=>?_,fun b o e n ar ay=>?_,fun b o e n ay=>?_,fun b o e ay=>?_,fun b xs e=>?_,fun b o u e=>?_,fun b ps e=>?_⟩,?_,fun x c e=>?_,?_,fun x c e=>?_,fun p bj=>?_,fun b u e=>?_,bJ.len⟩
 ·refine keep b o (uI b o e).1 (uI b o e).2 (fun z=>?_) (bJ.base.keep b o e n ar ay)
  exact(dz.mp (bJ.sS b z)).elim (sx b o e) ar
 ·obtain⟨df,aI⟩:=bJ.base.slot b o e n ar ay
  obtain⟨lA,aL⟩:=slot b _ (uI b o e).1 (uI b o e).2 aI
  exact⟨lA,aL⟩
 .rw[bO (uI b o e).1];exact bJ.base.free b o e n ay
 ·obtain⟨ee,aI⟩:=bJ.base.there b o e ay
  obtain⟨lA,aL⟩:=slot b _ (uI b o e).1 (uI b o e).2 aI
  exact⟨_,aL⟩
 ·have:=bJ.base.mf b xs e
  rw[bO (eN this fa)];exact this
 ·have:=bJ.base.lq b o u e
  rw[bO (eN this fa)];exact this
 ·obtain⟨more,this⟩:=bJ.base.me b ps e
  exact⟨more,by rw[bO (eN this fa)];exact this⟩
 ·obtain⟨m,⟨o,aZ,fE,aK,r⟩,aB⟩:=bJ.loc
  obtain⟨df,q⟩:=slot _ o pW.1 pW.2 aK
  refine⟨m,⟨_,aZ,fE,q,r⟩,fun i x v aI aL dS=>?_⟩
  obtain⟨u,r,l⟩:=aB i x v aI aL dS
  refine⟨u,r,?_⟩
  rcases l with l|⟨k,c,e,z⟩
  .exact .inl l
  .exact .inr ⟨k,c,e,cellK x c e _ z⟩
 ·obtain⟨v,z⟩:=bJ.cell x c e
  exact⟨v,cellK x c e v z⟩
 .rw[bO pW.1];exact bJ.free
 .rw[bO (zt x c e).1];exact bJ.kx x c e
 ·obtain⟨e,n,ne',jV,cx⟩:=bJ.pin p bj
  obtain⟨aI,_⟩:=aU.pin p bj
  refine⟨keep p.1 p.2 (ne _ _ aI).1 (ne _ _ aI).2 (fun z=>(dz.mp (bJ.sS _ z)).elim ne' jV) e,?_,ne',jV,cx⟩
  rw[bO (ne _ _ aI).1];exact n
 ·by_cases ar:b=a
  ·subst ar
   rw[aQ]at e;cases e
   exact Vk lp
  ·rw[bO ar]at e
   refine(bJ.aP b u e).mW (fun c v hc q=>?_) (fun c r=>by rw[bO (eN r fa)];exact r) fun c xs r=>by rw[bO (eN r fa)];exact r
   have qT:∃z,ax c=J z:=by
    rcases hc with rfl|hc
    .exact⟨_,e⟩
    .exact⟨_,hc⟩
   obtain⟨z,bC⟩:=qT
   refine keep c v (eN bC fa) (eN bC j7) (fun y=>?_) q
   rw[bJ.zX c y]at bC;cases bC
end
def akn(X:bz)(pn:List (ae×bw))(Eh:St->bR)(e:ao)(aF:aJ):Prop:=∃a C d T bU H1 H' s1,e=.ref a/\Inv {X with pn:=pn} [] bU H1 s1/\Inv {X with pn:=pn} [] bU H' aF/\kG aF.heap a (.ref C) d T .none/\
 H' a=aw/\H' T=aw/\s1.heap.get? a=aw/\s1.heap.get? T=aw/\Eh bU (.ref C) d H'
noncomputable def bz.RT(X:bz)(pn:List (ae×bw))(Eh:St->bR):bz:={X with pn:=pn,xe:=akn X pn Eh}
noncomputable def bz.wR(X:bz)(pn:List (ae×bw))(e:ae):bz:={X with pn:=pn,A:=X.A.mark (J (.ref e)),calm:=ag,xe:=fun _ _=>False}
theorem FZ:vL (fH X.prog X.w) (X.RT pn Eh) Eh:=by
 intro ak ab H1 s1 e s2 aa h
 obtain⟨a,C,d,ax,T,rfl,os,bare,un,aP,lp,fa,j7,i7,ih,q⟩:=h
 have aU:Inv {X with pn:=pn} [] ab H1 s1:=Inv.mh (X:={X with pn:=pn}) (Inv.Jm (pins':=[]) aa (by simp))
 exact⟨a,C,d,T,ab,H1,ax,s1,I,aU,aU.yy (ch:=[]) os un aP bare (fun b z=>absurd z (by simp)),lp,fa,j7,i7,ih,q⟩
def ajP(K:Frag)(D:ae)(i:Nat)(Eh:St->bR)(dg p6:e1):e1:=fun rr ab H=>dg rr ab H/\∀bU C d H' a,Eh bU (.ref C) d H'->H' a=aw->mroIn K C (.ref D)=J ah/\
 p6 {nx:=fun ab H=>rr.nx (ab.set i aw) H,rt:=rr.rt,bk:=fun ab H=>rr.bk (ab.set i aw) H,ct:=fun ab H=>rr.ct (ab.set i aw) H} (bU.set i (J (.ref a))) (upd H' a (iK a C d))
theorem bz.Ok.agV(ok:X.Ok)(pn:List (ae×bw)):bz.Ok {X with pn:=pn} :=
 ⟨ok.mod,ok.kind,ok.glob,ok.blt,ok.above,ok.inj,ok.has,ok.t6,ok.hd,ok.frames,ok.xn,ok.Cr,ok.bs,ok.ou,ok.uK,ok.wx,ok.l1,ok.qG⟩
theorem bz.Ok.hand(ok:bz.Ok {X with pn:=pn})(e:ae):bz.Ok (X.wR pn e) :=
 ⟨ok.mod,ok.kind,ok.glob,ok.blt,ok.above,ok.inj,ok.has,ok.t6,fun z=>Bool.noConfusion z,ok.frames,ok.xn,ok.Cr,ok.bs,ok.ou,ok.uK,ok.wx,ok.l1,ok.qG⟩
theorem Inv.hand(aa:Inv {X with pn:=pn} [] ab H s)(e:ae):Inv (X.wR pn e) [] ab H s :=
 ⟨aa.ok.hand e,aa.os,aa.bare,aa.base,aa.loc,aa.cell,aa.free,aa.kx,aa.pin,aa.aP,aa.len⟩
theorem Inv.ins(aa:Inv X ak ab H s):Inv {X with pn:=X.pn++ak} [] ab H s :=
 ⟨aa.ok.agV _,aa.os,aa.bare,aa.base,aa.loc,aa.cell,aa.free,aa.kx,fun p bj=>aa.pin p (by simpa using bj),aa.aP,aa.len⟩
theorem Inv.Dq{Y:bz}(ok:X.Ok)(aa:Inv {X with pn:=X.pn++ak} [] ab H s):Inv X ak ab H s :=
 ⟨ok,aa.os,aa.bare,aa.base,aa.loc,aa.cell,aa.free,aa.kx,fun p bj=>aa.pin p (by simpa using bj),aa.aP,aa.len⟩
theorem Inv.DR{e:ae}(ok:X.Ok)(aa:Inv (X.wR (X.pn++ak) e) [] ab H s):Inv X ak ab H s :=
 ⟨ok,aa.os,aa.bare,aa.base,aa.loc,aa.cell,aa.free,aa.kx,fun p bj=>aa.pin p (by simpa [bz.wR] using bj),aa.aP,aa.len⟩
theorem Inv.gone{n:af}{Q:Unit->aJ->Prop}(aa:Inv X ak ab H s)(aX:X.N.Nodup)(aC:X.N[i]?=J n)(aB:X.env.scope.names.lookup n=J .local)
  (h:∀aF,Inv X ak (ab.set i aw) H aF->Q () aF):bM M A (do bindName X.env n .none;unbindBehindTheSuite X.env n aR) Q E s:=by
 obtain⟨m,bo,adF⟩:=id aa.loc
 have Im:(X.env.scope.kind ==.class||(X.env.scope.kind ==.module&&X.env.locals != X.env.globals))=ag:=by rw[aa.ok.kind];rfl
 have CO:i<ab.length:=by rw[aa.len];exact(km.mp aC).1
 refine wpAny_nameGoes_keeps aB bo Im fun h' v nA hs=>?_
 obtain⟨P4,_,_,Pn,_⟩:=id bo
 have tracked:fA X.prog X.w H h':=fun b dN e=>by
  refine(aa.aP b dN e).mW (fun c hY hc q=>(hs.2 c ?_).trans q) (fun _ q=>q) fun _ _ q=>q
  rintro rfl
  rcases hc with rfl|hc
  .rw[aa.free]at e;cases e
  .rw[aa.free]at hc;cases hc
 refine h _ ⟨aa.ok,aa.os,aa.bare,⟨fun b o e n ar ay=>?_,fun b o e n ar ay=>?_,aa.base.free,fun b o e ay=>?_,aa.base.mf,aa.base.lq,aa.base.me⟩,⟨_,nA,fun j y jX aI aL dS=>?_⟩,fun y c e=>?_,aa.free,aa.kx,fun p bj=>?_,tracked,by simpa using aa.len⟩
 .exact(hs.2 b (fC (fB (d9 e) aa.ok.above))).trans (aa.base.keep b o e n ar ay)
 ·obtain⟨df,aI⟩:=aa.base.slot b o e n ar ay
  exact⟨df,(hs.2 b (fC (fB (d9 e) aa.ok.above))).trans aI⟩
 ·obtain⟨ee,aI⟩:=aa.base.there b o e ay
  exact⟨ee,(hs.2 b (fC (fB (d9 e) aa.ok.above))).trans aI⟩
 ·by_cases cv:j=i
  ·subst cv
   rw[List.getElem?_set_self CO]at aL
   cases aL
  ·rw[List.getElem?_set_ne (ea cv)]at aL
   obtain⟨sV,fe,q⟩:=adF j y jX aI aL dS
   refine⟨sV,fe,?_⟩
   rcases q with⟨k,e⟩|⟨k,c,e,z⟩
   ·refine .inl ⟨k,?_⟩
    have:y≠n:=fun e=>cv (Go aX aI (e ▸ aC))
    simp[this,e]
   .exact .inr ⟨k,c,e,z.sameBut hs (aa.qB y c e)⟩
 ·obtain⟨hY,z⟩:=aa.cell y c e
  exact⟨hY,z.sameBut hs (aa.qB y c e)⟩
 ·obtain⟨e,n,ne,jV,d⟩:=aa.pin p bj
  exact⟨(hs.2 p.1 ne).trans e,n,ne,jV,d⟩
theorem Ld{RJ:List br}{N3:br}{x n:af}{D:ae}{p6:e1}(ar:∀pn,ht (X.RT pn Eh) body dg)(fN:∀pn e,ht (X.wR pn e) (N3::RJ) p6)
  (hm:X.mg x=J (.ref D)) (yx:ExcC X.K D) (rh:typeIn X.K (.ref D)=J (.type "type")) (aX:X.N.Nodup) (aC:X.N[i]?=J n:=by rfl) (aB:X.env.scope.names.lookup n=J .local:=by rfl)
  (hs:X.stack=X.env::X.outer:=by rfl) (aG:X.env.frame=J X.env.locals:=by rfl) (hex:X.ex=[]:=by rfl) (aH:il X x:=by rfl) (i4:(x == ("__debug__":af))=ag:=by decide+kernel) :
  j3 X (.Try body [.ExceptHandler (J (.Name x np)) (J n) (N3::RJ) aR] [] [] xt) (ajP X.K D i Eh dg p6):=by
 intro ak s ab H rr aa ⟨aj,aq⟩
 have ok:=aa.ok
 refine wpAny_Try_except (jD (ar (X.pn++ak) [] s ab H rr (aa.ins.nT _) aj) (fun f s1 z=>?_) (fun e s1 z=>?_))
 ·cases f with
  |next =>
   obtain⟨bU,H',gz,q⟩:=z
   exact cV (X:=X) ak s1 bU H' rr (Inv.Dq (Y:=X) ok (Inv.mh (X:={X with pn:=X.pn++ak}) gz)) q
  |brk=>obtain⟨bU,H',gz,q⟩:=z;exact⟨bU,H',Inv.Dq (Y:=X) ok (Inv.mh (X:={X with pn:=X.pn++ak}) gz),q⟩
  |cont=>obtain⟨bU,H',gz,q⟩:=z;exact⟨bU,H',Inv.Dq (Y:=X) ok (Inv.mh (X:={X with pn:=X.pn++ak}) gz),q⟩
  |ret u=>obtain⟨v,bU,H',gz,r,q⟩:=z;exact⟨v,bU,H',Inv.Dq (Y:=X) ok (Inv.mh (X:={X with pn:=X.pn++ak}) gz),r,q⟩
 obtain⟨a,C,d,T,bU,H1,H',s0,rfl,aU,bJ,lp,fa,j7,i7,ih,q⟩:=z
 obtain⟨adM,aT⟩:=aq bU C d H' a q fa
 have fr:X.A.frames=J (X.env::X.outer):=ok.frames.trans (congrArg J hs)
 have fst:s1.heap.FunFrames X.base (X.env::X.outer):=hs ▸ bJ.stack
 refine Jh fr fst aG lp fun h' dF iH hr lC ke=>?_
 refine zk (s:={s1 with heap:=h'}) lC iH fun aq p9 u5 nV=>?_
 have pX:∀b o,s1.heap.get? b=J o->b≠dF:=fun b o e z=>by rw[z,hr]at e;cases e
 have fh:∀b o,b≠a->b≠T->b∉iS X.stack->s1.heap.get? b=J o->aq.get? b=J o:=fun b o aI aL dS eZ=>nV b o (pX b o eZ) (ke.keep b o aI (fun z=>aL (gX z)) (fun z=>dS (by rw[hs];exact z)) eZ)
 have e0:∀b o,b≠a->b≠T->s1.heap.get? b=J o->∃df,aq.get? b=J {o with slots:=df}:=fun b o aI aL eZ=>by
  obtain⟨df,e⟩:=ke.slot b o aI (fun z=>aL (gX z)) eZ
  exact⟨df,nV b _ (pX b o eZ) e⟩
 have KC:=(aU.N6 (h':=aq) (t':=s1.toks) bJ hex i7 ih fa j7 fh e0 p9).hand a
 refine wpAny_handleBy_cons (codeAny_handlers_test (rK KC aH hm ?_ i4)) (by intro q;cases q)
 obtain⟨ey,vs,j9,jB,he,hc,ed,hd,_⟩:=id p9
 refine YP (K:=X.K) KC.eI he hc yx rh adM ?_
 refine codeAny_handlers_suite_as (zk (s:={s1 with heap:=aq}) u5 p9 fun bl zZ sX o3=>?_)
 have en:∀b o,b≠dF->aq.get? b=J o->bl.get? b=J o:=o3
 have Te:=(aU.N6 (h':=bl) (t':=s1.toks) bJ hex i7 ih fa j7 (fun b o aI aL dS eZ=>o3 b o (pX b o eZ) (fh b o aI aL dS eZ)) (fun b o aI aL eZ=>by
  obtain⟨df,e⟩:=e0 b o aI aL eZ
  exact⟨df,o3 b _ (pX b o eZ) e⟩) zZ).hand a
 refine Gj (X:=X.wR (X.pn++ak) a) (v :=.ref a) Te aX aC (.inl aB) I (fun rb pg=>?_) (.inr aB)
 refine jD (fN (X.pn++ak) a [] rb _ _ _ pg aT) (fun f xi z=>?_) fun _ _ z=>False.elim z
 cases f with
 |next =>
  obtain⟨z5,gb,n5,uQ⟩:=z
  exact Inv.gone (n5.DR ok) aX aC aB fun uT n6=>⟨_,gb,n6,uQ⟩
 |brk =>
  obtain⟨z5,gb,n5,uQ⟩:=z
  exact Inv.gone (n5.DR ok) aX aC aB fun uT n6=>⟨_,gb,n6,uQ⟩
 |cont =>
  obtain⟨z5,gb,n5,uQ⟩:=z
  exact Inv.gone (n5.DR ok) aX aC aB fun uT n6=>⟨_,gb,n6,uQ⟩
 |ret u =>
  obtain⟨v,z5,gb,n5,uS,uQ⟩:=z
  exact Inv.gone (n5.DR ok) aX aC aB fun uT n6=>⟨v,_,gb,n6,uS,uQ⟩
section
variable {X:bz}
inductive KA(K:bN)(xs:List V)(H:au)(Q:Bool->Prop):Prop where
 |mk (a C:ae) (d:Option ae) (c:V) (b:Bool) (e:xs=[.ref a,c]) (h:H a=J (iK a C d)) (k:ExcC K C) (l:d=aw\/∃al fs,d=J al/\H al=J (.i9 fs)) (m:∀hp,RelV c hp->dn K (.ref C) hp=J b) (q:Q b):KA K xs H Q
theorem k9:jE X (.builtin "isinstance") (fun xs H Q=>KA X.K xs H fun b=>Q (.aN b) H):=by
 intro ak s ab H xs us Q aa r h
 obtain⟨a,C,d,c,b,rfl,dd,e6,hd,lk,q⟩:=h
 obtain⟨u,hY,rfl,cK,ef⟩:=vals2 r
 cases(show u=ao.ref a from cK)
 obtain⟨⟨o,vs,aI,aL,dS,eZ,_⟩,_⟩:=(show gs X.prog X.w H s.heap a (iK a C d)from aa.aP a _ dd)
 have dQ:∃ox ma,W.InstAt s.heap a ox C ma:=by
  obtain⟨cls,dict,data,df⟩:=o
  subst aL eZ
  rcases dS with⟨dS,_⟩|⟨_,dS,_⟩
  ·dsimp only at dS
   subst dS
   rcases hd with rfl|⟨al,fs,rfl,ay⟩
   .exact⟨_,aw,aI,I,I,trivial⟩
   ·obtain⟨u,yF⟩:=aa.aP.there ay
    exact⟨_,J u,aI,I,I,yF⟩
  ·dsimp only at dS
   subst dS
   exact⟨_,aw,aI,I,I,trivial⟩
 exact qb (Nc e6) aa.eI dQ (lk hY ef) (fun z=>nomatch z) fun cp=>⟨.aN b,H,aa.tok _,I,q⟩
theorem MO:∀ns:List Bool,PyData.canLayAll0 (ns.map PyData.bool)=ah
 |[]=>rfl
 |_::r=>by simp[PyData.canLayAll0,PyData.canLay0,MO r]
theorem Nd:∀ns:List Bool,PyData.depthAll (ns.map PyData.bool)=0
 |[]=>rfl
 |_::r=>by simp[PyData.depthAll,PyData.depth,Nd r]
theorem MN(ns:List Bool):SeqAt.shaped (.list (ns.map PyData.bool))=ah:=by
 simp[SeqAt.shaped,PyData.canLay0,PyData.depth,MO,Nd]
theorem Ms:∀ns ms:List Bool,PySem.Spec.sameAll (ns.map PyData.bool) (ms.map PyData.bool)=decide (ns=ms)
 |[],[]=>by simp[PySem.Spec.sameAll]
 |[],_::_=>by simp[PySem.Spec.sameAll]
 |_::_,[]=>by simp[PySem.Spec.sameAll]
 |a::r,b::t=>by
  simp only[je,PySem.Spec.sameAll,PySem.Spec.same,Ms r t]
  by_cases h:a=b<;>by_cases h':r=t<;>simp[h,h']
theorem Vc(ns ms:List Bool):PySem.Spec.same (.list (ns.map PyData.bool)) (.list (ms.map PyData.bool))=decide (ns=ms):=by
 simp only[PySem.Spec.same];exact Ms ns ms
theorem F0:∀{vs:List ao}{ns:List Bool},Vals (ns.map V.aN) vs->CarriedAll vs (ns.map PyData.bool)
 |[],[],_ =>.nil
 | v::vs,b::ns,h=>by
  cases h with
  |cons a r =>
   cases(show v=ao.bool b from a)
   exact .cons (.bool _) (F0 r)
 |[],_::_,h=>by cases h
 |_::_,[],h=>by cases h
def ai2:ir:=fun x y H Q=>∃(l b:ae)(xs zs:List Bool),x=.ref l/\y=.ref b/\H l=J (.lst (xs.map .aN))/\H b=J (.lst (zs.map .aN))/\Q (.aN (!decide (xs=zs))) H
theorem VM(dY:X.A.units+64<cLine):d5 X (h0 .NotEq) ai2:=by
 intro ak s ab H x y v u Q aa bt cn h
 obtain⟨l,b,xs,zs,rfl,rfl,aj,aq,q⟩:=h
 cases bt
 cases cn
 obtain⟨_,bq,n,r,_,e⟩:=aa.sr aj
 obtain⟨_,q0,en,ef,_,aL⟩:=aa.sr aq
 exact ne_dataH_same (reads_newData ⟨_,e,I,n,I⟩ (F0 r)) (reads_newData ⟨_,aL,I,en,I⟩ (F0 ef)) (MN _) (MN _) dY (SeqAt.noMix_of_shape (.list .bool) I _ _ (list_map_has fun _=>I) (list_map_has fun _=>I)) (by rw[Vc];exact⟨.aN _,H,aa,rfl,q⟩)
theorem U2:d5 X (kE .Mult) (q9 (fun i j=>c6.Int.intBits i<=2^20/\c6.Int.intBits j<=2^20) fun i j =>.int (i*j)):=sA fun _ _ _ _ _ _ _ hc q=>mul_int q (IntMulOk.of_bits hc.1 hc.2)
theorem Qg(az:fj k A):A.units+64<cLine:=by have:=az.un;omega
end
end dT
namespace dT
open PySem
theorem XO:kg "ValueError"=J (.type "ValueError"):=by decide+kernel
end dT
end
section
namespace dT
open PySem PySem.W PySem.Spec PyProof.Rows PySem.Builtin.ObjectAttr
noncomputable def xg:List ao->Bool
 |.ref _::r=>xg r
 |l=>l == my
theorem Y8(self:ao):refuseLoop self "__setattr__" my=pure ():=by kernel_rfl
theorem M7(self:ao):∀{l:List ao},xg l=ah->refuseLoop self "__setattr__" l=pure ()
 |.ref c::r,e=>by rw[refuseLoop_ref];exact M7 self e
 |[],e=>by cases e
 |.type n::r,e=>by
  have:(ao.type n::r)=my:=beq_iff_eq.mp e
  rw[this];exact Y8 self
 |.none::r,e=>by cases beq_iff_eq.mp (show((ao.none::r) == my)=ah from e)
 |.bool _::r,e=>by cases beq_iff_eq.mp (show((ao.bool _::r) == my)=ah from e)
 |.int _ _::r,e=>by cases beq_iff_eq.mp (show((ao.int _ _::r) == my)=ah from e)
 |.float _ _::r,e=>by cases beq_iff_eq.mp (show((ao.float _ _::r) == my)=ah from e)
 |.str _ _::r,e=>by cases beq_iff_eq.mp (show((ao.str _ _::r) == my)=ah from e)
 |.bytes _ _::r,e=>by cases beq_iff_eq.mp (show((ao.bytes _ _::r) == my)=ah from e)
 |.builtin _::r,e=>by cases beq_iff_eq.mp (show((ao.builtin _::r) == my)=ah from e)
structure qm(K:Frag)(C:ae):Prop extends ExcC K C where
 sa:findIn K (.ref C) "__setattr__"=J (J (.builtin "object.__setattr__"))
 ov:(clsIn K C).any (fun c9=>xg c9.mro)=ah
 hd:hasDictIn K C=ah
section
variable {K:Frag} {prog:c1} {w:cH} {A:di} {E:ao->aJ->Prop} {s:aJ} {x C:ae} {ox:bw} {od:Option bw} {name:af} {v:ao}
theorem ZN{R:Result->aJ->Prop}{r:Option ao}(X:K.In s.heap)(aa:W.InstAt s.heap x ox C od)(S:qm K C)(aT:takerIn K C name=J r)
  (h:∀b,bM (model prog w) A.in1 (match r with|some a=>setByDescriptor a (.ref x) v|none=>storeInOwnDict (.ref x) (.ref C) (.str name cp) name v b)
   (fun cZ aF=>match cZ with|.done f=>R (.ok f) aF|.again ix=>ix.quiet=ah/\k3 (model prog w) A ix R aF) (fun e aF=>R (.error e) aF) s) :
  k3 (model prog w) A (.call (.builtin "object.__setattr__") ⟨[.ref x,.str name cp,v],[]⟩) R s:=by
 have xZ:=PySem.F.store_object
 obtain⟨c9,hc,aK⟩:=any_some S.ov
 have sub:Looks (model prog w) s.heap (isInstance (.ref x) (.type "object")) ah:=aa.type.andThen (looks_mroIn X S.dN)
 refine z8 xZ.slot.plain xZ.entry (@check_slot (model prog w) _ _ s "object.__setattr__" "object" "__setattr__" (.ref x) [.str name cp,v] [] _ xZ.kind xZ.split sub (xZ.args (.ref x) (.str name cp) v) ?_)
 obtain⟨attr,bf,az⟩:=Option.bind_eq_some_iff.mp aT
 have hm:Looks (model prog w) s.heap (mroOf (.ref C)) c9.mro:=(looks_clsIn X hc).andThen .now
 have Ex:Looks (model prog w) s.heap (storeTaker? attr) r:=by
  cases attr with
  |none=>cases az;exact .now
  |some a =>
   obtain⟨b,ar,rfl⟩:=Uf.mp az
   refine(looks_takesIn X ar).andThen ?_
   cases b<;>exact .now
 rw[osa_eq,refuse_eq]
 refine bH (bH (aa.type.here (bH (hm.here ?_))))
 rw[M7 _ aK]
 refine dD (bH (aa.type.here (bH ((looks_findIn X bf).here (bH (Ex.here ?_))))))
 exact h _
theorem Vj{vs:Array ao}{Q:Unit->aJ->Prop}(X:K.In s.heap)(ay:s.heap.get? x=J ox)(hc:ox.cls=.ref C)(Ir:ox.dict=aw)(hd:ox.data=.fields vs)(S:qm K C)(aT:takerIn K C name=J aw)
  (h:∀h',h'.get? x=J {ox with dict:=J s.heap.objs.size}->h'.Ns1 s.heap.objs.size (fun y=>if y=name then J v else aw)->(∀b o,b≠x->s.heap.get? b=J o->h'.get? b=J o)->Q () {s with heap:=h',toks:=s.toks+2}) :
  bM (model prog w) A (setAttr (.ref x) name v) Q E s:=by
 have dQ:W.InstAt s.heap x ox C aw:=by
  obtain⟨cls,dict,data,df⟩:=ox
  subst hc Ir hd
  exact⟨ay,I,I,trivial⟩
 refine set_plain X dQ S.sa (ZN (s:={s with toks:=s.toks+1}) (r:=aw) X dQ S aT fun b=>?_)
 obtain⟨c9,ky,IB⟩:=any_some S.hd
 obtain⟨cls,dict,data,df⟩:=ox
 dsimp only at hc Ir hd
 subst hc Ir hd
 refine bH (dD (bH (bH (wpAny_loadPart ay (bH (PySem.W.Looks.here (s:={s with toks:=s.toks+1}) (PySem.W.looks_clsIn X ky) ?_))))))
 rw[IB]
 refine bH (wpAny_alloc ?_)
 have oQ:=er (h:=s.heap) {cls :=.type "dict",data :=.dict #[]} ay
 refine bH (wpAny_update oQ ?_)
 generalize CT:({cls :=.type "dict",data :=.dict #[]}:bw)=xd at oQ ⊢
 have OM:s.heap.objs.size≠x:=Nat.ne_of_gt (d9 ay)
 have h9:((s.heap.push xd).update x (fun o=>{o with dict:=J s.heap.objs.size})).get? s.heap.objs.size=J xd :=
  (bc.get?_update_other _ _ (ea OM)).trans (ha s.heap (by rw[<-CT];rfl))
 have acG:((s.heap.push xd).update x (fun o=>{o with dict:=J s.heap.objs.size})).get? x=J ⟨.ref C,J s.heap.objs.size,.fields vs,df⟩:=bc.get?_update_self _ oQ rfl
 have mJ:((s.heap.push xd).update x (fun o=>{o with dict:=J s.heap.objs.size})).Ns1 s.heap.objs.size fun _=>aw :=
  bc.Ns1.of_empty ⟨_,#[],_,h9,by rw[<-CT],fun e he=>absurd he (by simp),fun _=>rfl⟩
 refine dD (a:=J s.heap.objs.size) (bH (dD (bH ?_)))
 refine wpAny_nsSet1 (s:={s with heap:=(s.heap.push xd).update x (fun o=>{o with dict:=J s.heap.objs.size}),toks:=s.toks+1}) mJ fun h' ly hS=>?_
 obtain⟨amD,abR,abP,adU,Iq,lu⟩:=ly.count (PySem.Within.cons (ns:=[]) name v (fun y bP=>absurd rfl bP))
 refine bH (wpAny_lookBehind adU (by rw[Iq];exact pastItsLine_dict (eE lu (by show 1<=_;decide))) ?_)
 refine dD (h h' ((hS.2 _ (ea OM)).trans acG) ly fun b o ar e=>?_)
 refine(hS.2 b (fC (d9 e))).trans ?_
 rw[bc.get?_update_other _ _ (ea ar)]
 exact er _ e
end
end dT
end
variable {ig:af->Option ao} {t9:ae} {xf:bw} {dB:af}
section
namespace dT
open PySem PySem.W PySem.Spec PyProof.Rows
variable {K:Frag}
theorem Zh{N:ae}{n:af}(X:K.In h)(G:h.Ns N mg)(e:nsIn K N n=J (J v)):mg n=J v:=by
 obtain⟨o,aZ,fE,aK,hd,_,aG⟩:=G
 unfold nsIn at e
 split at e
 ·rename_i c d Cq zq df q
  have:=X _ _ q
  rw[aK]at this
  cases this
  cases hd
  split at e
  ·rename_i g0 he
   cases e
   rw[<-aG]
   unfold nsFind findBy
   rw[<-Array.find?_toList,he]
   rfl
  .split at e<;>cases e
 .cases e
noncomputable def pL(K:Frag)(C f:ae):Bool:=match K.lookup C with
 |some ⟨.type "type",_,.cls c9,df⟩=>(match c9.mro,df.toList with
  |.ref s9::bm,[_,_,_,_,J (.builtin n),_]=>s9 == C&&n == "ValueError.__new__"&&!c9.hasDel&&tailIn K my bm&&nsOkIn K c9.ns&&nsIn K c9.ns "__init__" == J (J (.ref f))
  |_,_=>ag)
 |_=>ag
structure Sj(h:bc)(C f:ae):Prop where
 ex:∃(bm:List ao)(N:ae)(nm q:af)(bs:List ao)(r8:Bool)(sn:List af)(sub:List ao)(rR:Bool)(col:Option Bool)(cx:Option ae)(q2 fO fh iT mP:Option ao)(ig:af->Option ao),
  h.get? C=J (excClassObj nm q C N bs bm r8 sn sub rR col cx q2 fO fh iT mP "ValueError.__new__")/\h.Ns N ig/\ig "__init__"=J (.ref f)/\OwnTail h my bm
theorem Od(X:K.In h)(q:pL K C f=ah):Sj h C f:=by
 unfold pL at q
 split at q
 ·rename_i cx c9 df aK
  split at q
  ·rename_i s9 bm q2 fO fh iT n mP hm hs
   simp only[hK,beq_iff_eq,Bool.not_eq_true']at q
   obtain⟨⟨⟨⟨⟨rfl,rfl⟩,O9⟩,aT⟩,aP⟩,y4⟩:=q
   obtain⟨nm,bs,mro,ns,uR,hd,sn,sub,rR,col,del⟩:=c9
   dsimp only at hm O9 aP y4
   subst hm O9
   have uC:df=#[q2,fO,fh,iT,J (.builtin "ValueError.__new__"),mP]:=by
    obtain⟨l⟩:=df
    simp only at hs
    rw[hs]
   subst uC
   have G:h.Ns ns (h.nsMap ns) :=.of_isNs (isNs_of_in X aP)
   exact⟨bm,ns,nm,uR,bs,hd,sn,sub,rR,col,cx,q2,fO,fh,iT,mP,_,X _ _ aK,G,Zh X G y4,tail_of_in X aT⟩
  .cases q
 .cases q
section
variable {prog:c1} {w:cH} {A:di} {E:ao->aJ->Prop} {h:bc} {g:Array GenState} {d:Drawn} {t:Nat} {os:OsState}
variable {nm q:af} {C N:ae} {bs bm bmB:List ao} {r8:Bool} {sn:List af} {sub:List ao} {rR:Bool} {col:Option Bool} {cx:Option ae} {q2 fO fh iT mP:Option ao} {B Aa newId PX PF PE:String} {N0:List ao}
theorem WN(xJ:ExcBaseFacts Aa newId PE N0)(Cu:bmB.contains (.type Aa)=ah)(F:ExcBaseFacts B PX PF bmB)(T:OwnTail h bmB bm){rest:List ao}{Q:Fin->aJ->Prop}
  (ia:h.get? C=J (excClassObj nm q C N bs bm r8 sn sub rR col cx q2 fO fh iT mP newId)) (bo:h.Ns N ig) (aC:ig "__init__"=J (.ref t9)) (Iw:h.get? t9=J xf) (yS:xf.cls=.type "function")
  (aW:∀h' e,bc.MadeExcOf h h' e (.ref C) rest->bM (model prog w) A (call (.ref t9) (.ref e::rest)) (fun r aF=>r=.none/\Q (.done (.ret (.ref e))) aF) E ⟨h',g,d,t,os⟩) (hrest:rest.length<=bY) :
  bM (model prog w) A (c6.«type.__call__» ⟨.ref C::rest,[]⟩) Q E ⟨h,g,d,t,os⟩:=by
 repeat (first|with_reducible refine xA ia ?_|with_reducible refine wpAny_madeBy_exc ia ?_|wp_step)
 refine codeAny_call_builtin_code (Code.quiet_builtin _ xJ.quiet) (wpAny_check_new_subU xJ Cu T ia ?_)
 refine codeAny_exc_new_subU xJ Cu F T ia ?_ hrest
 show bM _ _ _ _ _ _
 have OK:=er {cls :=.ref C,data :=.fields #[.ref h.objs.size,.none,.none,.none,.bool ag,.none]}
  (er {cls :=.type "tuple",data :=.seq rest.toArray} ia)
 have adh:=er {cls :=.ref C,data :=.fields #[.ref h.objs.size,.none,.none,.none,.bool ag,.none]}
  (er {cls :=.type "tuple",data :=.seq rest.toArray} Iw)
 have adT:((h.push {cls :=.type "tuple",data :=.seq rest.toArray}).push {cls :=.ref C,data :=.fields #[.ref h.objs.size,.none,.none,.none,.bool ag,.none]}).Ns N ig :=
  let ⟨o,aZ,fE,e,r⟩:=bo;⟨o,aZ,fE,er _ (er _ e),r⟩
 have Pd:((h.push {cls :=.type "tuple",data :=.seq rest.toArray}).push
   {cls :=.ref C,data :=.fields #[.ref h.objs.size,.none,.none,.none,.bool ag,.none]}).get? (h.objs.size+1)=J
   {cls :=.ref C,data :=.fields #[.ref h.objs.size,.none,.none,.none,.bool ag,.none]}:=by heap_get
 have Ii:(ao.ref C::bm).contains (.ref C)=ah:=by simp
 have TA:=T.keeps (h':=(h.push {cls :=.type "tuple",data :=.seq rest.toArray}).push {cls :=.ref C,data :=.fields #[.ref h.objs.size,.none,.none,.none,.bool ag,.none]})
  fun b o e=>er _ (er _ e)
 unfold isInstance
 repeat (first|with_reducible refine xA Pd ?_|(with_reducible refine wpAny_isSubtype_exc OK ?_;rw[Ii])|wp_step)
 show bM _ _ (typeLookup (.ref C) _) _ _ _
 refine wpAny_typeLookup_tail OK adT TA F.mroIs F.init.lookup ?_
 rw[aC]
 refine wpAny_holding (bH ?_)
 unfold bindSpecial
 refine bH (wpAny_typeOf (T:="function") ⟨_,adh,yS⟩ ?_)
 rw[if_pos (by decide)]
 refine dD (bH (jD (aW _ (h.objs.size+1) ⟨fun b o ar=>er _ (er _ ar),bc.get?_none_of_le (Nat.le_succ _),h.objs.size,Pd,bc.get?_none_of_le (cE _),?_⟩) (fun r aF az=>?_) fun _ _ x=>x))
 .exact er _ (bc.get?_push_at I I)
 ·obtain⟨rfl,fY⟩:=az
  wp_walk
  exact fY
theorem ZA(xJ:ExcBaseFacts Aa newId PE N0)(Cu:bmB.contains (.type Aa)=ah)(F:ExcBaseFacts B PX PF bmB)(T:OwnTail h bmB bm){rest:List ao}
  (ia:h.get? C=J (excClassObj nm q C N bs bm r8 sn sub rR col cx q2 fO fh iT mP newId)) (bo:h.Ns N ig) (aC:ig "__init__"=J (.ref t9)) (Iw:h.get? t9=J xf) (yS:xf.cls=.type "function")
  (aW:∀h' e,bc.MadeExcOf h h' e (.ref C) rest->bM (model prog w) (A.under (.builtin "type.__call__" ⟨.ref C::rest,[]⟩)) (call (.ref t9) (.ref e::rest)) (fun r aF=>r=.none/\Q (.ref e) aF) E ⟨h',g,d,t,os⟩) (hrest:rest.length<=bY) :
  bM (model prog w) A (call (.ref C) rest) Q E ⟨h,g,d,t,os⟩:=by
 have f1:=tc_lookup
 have f2:=tc_bind (.ref C)
 have cf:(⟨h,g,d,t,os⟩:aJ).TypeIs (.ref C) "type":=⟨_,ia,rfl⟩
 refine qc (codeAny_of_tree ?_)
 show bM _ _ (callAny (.ref C) _) _ _ _
 repeat (any_goals (first|assumption|with_reducible refine xA ia ?_|wp_step))
 refine⟨I,?_⟩
 refine codeAny_call_builtin_at (Code.quiet_builtin _ (by decide+kernel)) entry_typeCall (wpAny_check_type_call_sub ia (WN (hrest:=hrest) xJ Cu F T ia bo aC Iw yS fun h' e hm=>?_))
 exact aW h' e hm
end
theorem Y9{x:Sem ao}{Q:Flow->aJ->Prop}(fN:A.handled=aw)
  (h:bM M A x (fun v dI=>∃e ey C vs,v=.ref e/\K.In dI.heap/\dI.heap.get? e=J ey/\ey.cls=.ref C/\ey.data=.fields vs/\vs[1]?=J .none/\mroIn K C (.type "BaseException")=J ah/\typeIn K (.ref C)=J (.type "type")/\E (.ref e) dI) E s) :
  bM M A (raiseStmt env (J x) aw) Q E s:=by
 unfold raiseStmt
 refine bH (jD h (fun v dI hB=>?_) fun _ _ x=>x)
 obtain⟨e,ey,C,vs,rfl,X,he,hc,hd,aj,hm,zf,gG⟩:=hB
 obtain⟨bj,g,d,cp,os⟩:=dI
 have n8:=looks_mroIn (M:=M) X hm
 obtain⟨zy,y6,Ii⟩:=Uf.mp (show(K.lookup C).map (·.cls)=J (.type "type")from zf)
 have ia:=X _ _ y6
 have al1:=he
 obtain⟨cls,dict,data,df⟩:=ey
 dsimp only at hc hd
 subst hc hd
 repeat (first|with_reducible refine xA he ?_|with_reducible refine n8.at ?_|(with_reducible refine xA ia ?_;rw[Ii])|wp_step)
 rw[aj]
 refine dD ?_
 rw[if_neg (by decide)]
 exact dD (wpAny_raiseNew_none fN gG)
noncomputable def k7(e C:ae)(d:Option ae):c2 :=.ext fun h=>∃o vs t0,h.get? e=J o/\o.cls=.ref C/\o.dict=d/\o.data=.fields vs/\vs[0]?=J (.ref t0)/\vs[1]?=J .none/\vs[2]?=J .none
theorem GP{e t0:ae}{d:Option ae}{o:bw}{vs:Array ao}(aj:h.get? e=J o)(aq:o.cls=.ref C)(bl:o.dict=d)(bW:o.data=.fields vs)(d0:vs[0]?=J (.ref t0))(jQ:vs[1]?=J .none)(qL:vs[2]?=J .none):gs P w H h e (k7 e C d) :=
 ⟨⟨o,vs,t0,aj,aq,bl,bW,d0,jQ,qL⟩,⟨o,aj⟩,fun _ _ ⟨o,vs,t0,aI,aL,dS,eZ,oA,rT,t8⟩ k=>⟨o,vs,t0,k o aI,aL,dS,eZ,oA,rT,t8⟩⟩
variable {X:bz}
theorem Inv.afA(aa:Inv X ak ab H s)(k:∀b u,s.heap.get? b=J u->h'.get? b=J u)(bo:s.heap.get? a=aw)(new:gs X.prog X.w (upd H a o) h' a o):
  Inv X ak ab (upd H a o) {s with heap:=h',toks:=t'}:=by
 have aG:H a=aw:=aa.aP.none bo
 have ne:∀b u,s.heap.get? b=J u->b≠a:=fun b u e z=>by rw[z,bo]at e;cases e
 refine aa.un ⟨fun b u q _ _ _=>k b u q,fun b u q _ _ _=>⟨u.slots,k b u q⟩,fun b u q n _=>by rw[bO (ne b u q)];exact n,fun b u q _=>⟨u,k b u q⟩,fun b xs q=>by rw[bO (eN q aG)];exact q,fun b u xs q=>by rw[bO (eN q aG)];exact q,fun b ps q=>⟨#[],by rw[bO (eN q aG),q];simp⟩⟩ fun b u e=>?_
 by_cases ar:b=a
 ·subst ar
  rw[aQ]at e;cases e
  exact new
 ·rw[bO ar]at e
  exact(aa.aP b u e).mW (fun c v _ q=>k c v q) (fun c r=>by rw[bO (eN r aG)];exact r) fun c xs r=>by rw[bO (eN r aG)];exact r
noncomputable abbrev iI(n:Int):c2 :=.i9 [("place",.int n)]
inductive RG(C:ae)(vs:List V)(H:au)(Q:bB)(E:bR):Prop where
 |mk (e n:_) (bu:vs=[.ref e,.int n]) (aj:H e=J (k7 e C aw)) (aq:n.natAbs.log2<1920) (bl:∀al,H al=aw->Q .bK (upd (upd H al (iI n)) e (k7 e C (J al)))):RG C vs H Q E
def sQ(C:ae):b3:=fun vs H Q E=>RG C vs H Q E
structure tH(K:Frag)(mg:af->Option ao)(x:af)(C f:ae):Prop where
 ri:pL K C f=ah
 fn:typeIn K (.ref f)=J (.type "function")
 iD:keepIn K (.ref C)=ah
 be:mroIn K C (.type "BaseException")=J ah
 ty:typeIn K (.ref C)=J (.type "type")
 OD:mg x=J (.ref C)
def ajM(C:ae)(E:bR)(t:gL):e1:=fun _ ab H=>t ab H fun vs H1=>∃n,vs=[.int n]/\n.natAbs.log2<1920/\∀al,H1 al=aw->E (.ref C) (J al) (upd H1 al (iI n))
theorem F9{x:af}{eH:Nat}{lW:Pos}{e:b5}{t:gL}{E:bR}(T:KZ X E)(M:tH X.K X.mg x C f)(F:cq X.prog X.w X.K X.mg X.base dv k f fd ["self","place"] (sQ C))(ar:Binds X.K fd ["self","place"] [])(az:fj eH X.A)(bf:hH X (e::aZ) t)(hk:k+1<=eH:=by decide)
  (hex:X.ex=[]:=by rfl) (aH:il X x:=by rfl) (i4:(x == ("__debug__":af))=ag:=by decide+kernel)
  (he:dt (e::aZ) X.env=(ag,eval e X.env)::dt aZ X.env:=by rfl) (gk:(backTo lW (dt aZ X.env)).any (·.1)=ag:=by rfl) :
  j3 X (.Raise (J (.Call (.Name x np) (e::aZ) [] lW)) aw aR) (ajM C E t):=by
 intro ak s ab H D aa h
 rw[arm_exec_Raise]
 refine bH (wpAny_standAt (Y9 (K:=X.K) az.hd (bH (jD (t:=eval (.Call (.Name x np) (e::aZ) [] lW) X.env) ?_ (fun v sT C5=>bH (wpAny_standAt (dD C5))) fun _ _ x=>x))))
 refine rm (rK aa aH M.OD ?_ i4)
 refine xy (h₀:=X.base) aa.ok.mod.q4 M.iD (cA (bf lW ak s ab H _ aa h) fun us s1 bE=>?_) he gk
 obtain⟨vs,H1,aU,r,n,sm,kT,q⟩:=bE
 refine ⟨aU.eI,?_⟩
 subst sm
 obtain⟨bm,N,nm,uR,bs,r8,sn,sub,rR,col,cx,q2,fO,fh,iT,mP,ig,aj,aq,bl,bW⟩:=(Od aU.eI M.ri).ex
 obtain⟨xf,adV,ac3⟩:=Uf.mp (show(X.K.lookup f).map (·.cls)=J (.type "function")from M.fn)
 have oJ:us.length=1:=r.length.symm
 obtain⟨fN,g,d,cp,os⟩:=s1
 refine ZA PySem.F.excBase_ValueError (bmB:=my) (by decide+kernel) PySem.F.excBase_ValueError bW aj aq bl (aU.eI _ _ adV) ac3 (fun h' a hm=>?_) (by show us.length<=_;rw[oJ];decide)
 obtain⟨tt,aT,_,_⟩:=hm.there
 have fa:H1 a=aw:=aU.aP.none hm.new
 have bJ:=aU.afA (a:=a) (o:=k7 a C aw) (h':=h') (t':=cp) hm.keeps hm.new (GP aT rfl rfl rfl rfl rfl rfl)
 have ef:Vals [V.ref a,.int n] (ao.ref a::us) :=.cons rfl r
 have aW:sQ C [V.ref a,.int n] (upd H1 a (k7 a C aw)) (fun v bA=>v=.bK/\∃al,H1 al=aw/\al≠a/\bA=upd (upd (upd H1 a (k7 a C aw)) al (iI n)) a (k7 a C (J al))) iJ :=
  ⟨a,n,rfl,aQ,kT,fun al hd=>⟨rfl,al,(dq fa).free hd,fun z=>(by rw[z,aQ]at hd;cases hd),rfl⟩⟩
 have O2:=ar ⟨h',g,d,cp,os⟩ (ao.ref a::us) bJ.eI (by simp[oJ])
 rw[List.append_nil]at O2
 refine qc (mi (F.run _ X.stack ⟨h',g,d,cp,os⟩ _ ⟨ao.ref a::us,[]⟩ (ao.ref a::us) _ _ iJ ((az.mono hk).make C us []) (bJ.wu.make C us []) O2 ef aW) fun mb aF oN=>?_)
 cases mb with
 |error e=>exact False.elim oN
 | ok dB =>
  cases dB with
  | ret u =>
   obtain⟨v,bA,h4,dO,ev,al,HF,bp,Hy⟩:=bJ.after oN
   subst ev
   have b2:eD H1 bA:=fun b o e=>by
    rw[Hy,bO (eN e fa),bO (eN e HF),bO (eN e fa)];exact e
   have CJ:bA al=J (iI n):=by rw[Hy,bO bp,aQ]
   have acJ:bA a=J (k7 a C (J al)):=by rw[Hy,aQ]
   have pg:=Inv.sub aU h4 (Sub.new HF b2 CJ trivial)
   obtain⟨⟨o,vs,t0,aI,aL,dS,eZ,oA,rT,t8⟩,_⟩:=(show gs X.prog X.w bA aF.heap a (k7 a C (J al))from h4.aP a _ acJ)
   refine⟨dO,a,o,C,vs,I,pg.eI,aI,aL,eZ,rT,M.be,M.ty,?_⟩
   refine T ak ab _ aF a C o vs (J al) pg aI aL eZ rT (.inl ⟨dS,.inr t8⟩) (by rw[bO (ea bp)];exact fa) ?_ (q al HF)
   cases z:X.dm.heap.get? a with
   |none=>rfl
   |some o =>
    obtain⟨ee,e⟩:=aU.base.there a o z (by rw[hex];simp)
    have:=hm.new
    rw[show fN.get? a=J ee from e]at this;cases this
  |next=>exact False.elim oN
  |brk=>exact False.elim oN
  |cont=>exact False.elim oN
noncomputable abbrev KW:=af->St->au->bB->Prop
def Ay(X:bz)(aZ:List b5)(t:KW):Prop :=
 ∀(acc:af)(ak:List (ae×bw))(s:aJ)(ab:St)(H:au)(Q:bB),Inv X ak ab H s->t acc ab H Q->bM (model X.prog X.w) X.A (joinParts acc (evalEach aZ X.env)) (ik X ak ab Q) X.xe s
section
variable {X:bz} {e o:b5} {aZ:List b5} {cG b4 nQ:TE} {t:KW} {aR:Pos}
theorem Ha:Ay X [] (fun acc _ H Q=>acc.length<=bY/\Q (.str acc) H):=fun acc ak s ab H Q aa ⟨bC,q⟩=>joinParts_nil ⟨.str acc,H,aa.tok _,⟨_,rfl⟩,q⟩ bC
theorem rJ(he:bX X e cG)(az:Ay X aZ t)(yR:evalEach (e::aZ) X.env=eval e X.env::evalEach aZ X.env:=by rfl):Ay X (e::aZ) (fun acc ab H Q=>cG ab H fun x H1=>∃y,x=.str y/\(acc++y).length<=bY/\t (acc++y) ab H1 Q):=by
 intro acc ak s ab H Q aa h
 rw[yR]
 refine joinParts_cons (cA (he ak s ab H _ aa h) fun v s1 bE=>?_)
 obtain⟨x,H1,aU,r,y,ex,bC,q⟩:=bE
 subst ex
 obtain⟨cp,rfl⟩:=r
 exact⟨bC,az (acc++y) ak s1 ab H1 Q aU q⟩
theorem Ga{v1 v2:b5}{rest:List b5}(h:Ay X (v1::v2::rest) t)(yR:evalEach (v1::v2::rest) X.env=eval v1 X.env::eval v2 X.env::evalEach rest X.env:=by rfl):bX X (.JoinedStr (v1::v2::rest) aR) (t af.empty):=by
 intro ak s ab H Q aa aW
 refine JoinedStr_many ?_
 have:=h af.empty ak s ab H Q aa aW
 rw[yR]at this
 exact this
theorem GL(he:bX X e cG):bX X (.FormattedValue e (-1) aw aR) (fun ab H Q=>cG ab H fun x H1=>∃i:Int,x=.int i/\i.natAbs.log2<1920/\Q (.str (af.ofString (toString i))) H1):=by
 intro ak s ab H Q aa h
 refine FormattedValue_plain (cA (he ak s ab H _ aa h) fun v s1 bE=>?_)
 obtain⟨x,H1,aU,r,i,ex,hs,q⟩:=bE
 subst ex
 obtain⟨cp,rfl⟩:=r
 exact formatField_int_small hs ⟨.str _,H1,aU.tok _,⟨_,I⟩,q⟩
end
section
variable {X:bz} {x:af} {C D f:ae} {np apos aR:Pos} {e:b5} {aZ:List b5} {t:gL}
theorem FL{pl:Sem Bool}(ri:pL X.K C f=ah)(hm:X.mg x=J (.ref D))(adq:specialIn X.K (.ref D) "__getattribute__"=J (J (.builtin "type.__getattribute__")))(Pu:readsIn X.K D (.type "type")=ah)(yS:findCls X.K (.ref D) (.type "type") "__init__"=J (.val (.builtin "ValueError.__init__")))
  (bf:hH X (e::aZ) t) (aH:il X x:=by rfl) (i4:(x == ("__debug__":af))=ag:=by decide+kernel)
  (jT:dt (e::aZ) X.env=(ag,eval e X.env)::dt aZ X.env:=by rfl) (gk:(backTo aR (dt aZ X.env)).any (·.1)=ag:=by rfl)
  (aT:eval (.Call (.Attribute (.Name x np) "__init__" apos) (e::aZ) [] aR) X.env=(do
   let ov <-eval (.Name x np) X.env
   standAt apos.atName
   let (f,first) <-holding [ov] (getMethod ov "__init__" pl)
   callWith aR f first (backTo aR (dt (e::aZ) X.env)) (backToKw aR (rl [] X.env))):=by rfl) :
  bX X (.Call (.Attribute (.Name x np) "__init__" apos) (e::aZ) [] aR) (fun ab H Q=>t ab H fun vs H1=>∃a v,vs=[.ref a,v]/\H1 a=J (k7 a C aw)/\Q .bK H1):=by
 intro ak s ab H Q aa h
 refine z7 (pl:=pl) (rK aa aH hm ?_ i4) aT
 refine method_cls aa.eI adq (cls_value aa.eI Pu yS I ?_)
 refine PyProof.Rows.callWith_builtin1 (cA (bf aR ak _ ab H _ (aa.tok _) h) fun us s1 bE=>?_) jT gk
 obtain⟨vs,H1,aU,r,a,v,sm,ay,q⟩:=bE
 subst sm
 obtain⟨akr,aks,rfl,cK,ef⟩:=vals2 r
 obtain rfl:akr=ao.ref a:=cK
 obtain⟨⟨o,vs,t0,aI,aL,dS,eZ,oA,rT,t8⟩,_⟩:=(show gs X.prog X.w H1 s1.heap a (k7 a C aw)from aU.aP a _ ay)
 obtain⟨bm,N,nm,uR,bs,r8,sn,sub,rR,col,cx,q2,fO,fh,iT,mP,ig,aj,aq,bl,bW⟩:=(Od aU.eI ri).ex
 have FB:=PySem.F.excBase_ValueError
 refine qc (z8 FB.init.plain FB.initEntry (wpAny_check_init_subU (B:="ValueError") FB bW aj aI aL ?_))
 unfold c6.«BaseException.__init__»
 dsimp only
 rw[if_neg (by simp)]
 unfold newTuple c6.BaseException.bexcPut
 have f5:0<vs.size:=(Array.getElem?_eq_some_iff.mp oA).1
 have mG:=er (h:=s1.heap) {cls :=.type "tuple",data :=.seq [aks].toArray} aI
 refine bH (wpAny_newObj_type (bH (bH (ja mG eZ oA (bH (s7 mG eZ f5 ?_))))) (by show 1<=bY;decide))
 refine wpAny_letGo (dD ?_)
 have mF:=bw.data_mapFields eZ (·.setIfInBounds 0 (ao.ref s1.heap.objs.size))
 have CL:=bc.get?_update_self (bw.mapFields (·.setIfInBounds 0 (ao.ref s1.heap.objs.size))) mG (bw.isFreed_of_fields mF)
 have W:=aU.write (o:=k7 a C aw) (t':=s1.toks) (by rw[ay];trivial) (.inl rfl) (fun b u ar q=>by rw[bc.get?_update_other _ _ (ea ar)];exact er _ q) ⟨_,CL⟩
  (GP (t0:=s1.heap.objs.size) CL ((bw.cls_mapFields _ _).trans aL) ((LZ _ _).trans dS) mF (by simp[f5]) (by rw[Array.getElem?_setIfInBounds_ne (by decide)];exact rT) (by rw[Array.getElem?_setIfInBounds_ne (by decide)];exact t8))
 rw[Mx ay]at W
 exact⟨.bK,H1,W,I,q⟩
end
def aje(K:Frag)(b4 nQ:TE)(dB:af):e1:=fun D ab H=>nQ ab H fun y H1=>b4 ab H1 fun x ax=>∃a C,x=.ref a/\ax a=J (k7 a C aw)/\qm K C/\takerIn K C dB=J aw/\∀al,ax al=aw->D.nx ab (upd (upd ax al (.i9 [(dB,y)])) a (k7 a C (J al)))
theorem GJ{o value:b5}{nQ:TE}(bf:bX X o b4)(bg:bX X value nQ)(hs:swapsWith value (J (.Attribute o dB pos')) aR.line X.env=pure ag):j3 X (.Assign [.Attribute o dB pos'] value aR) (aje X.K b4 nQ dB):=by
 intro ak s ab H D aa h
 refine plainObj_wpAny_Assign_Attribute (cA (bg ak s ab H _ aa h) fun u s1 ⟨y,H1,aU,cn,q⟩=>cA (bf ak s1 ab H1 _ aU q) fun ov s2 bE=>?_) hs
 obtain⟨x,ax,bJ,bt,a,C,ex,ay,S,aT,cN⟩:=bE
 subst ex
 obtain rfl:ov=ao.ref a:=bt
 obtain⟨⟨ee,vs,t0,aI,aL,dS,eZ,oA,rT,t8⟩,_⟩:=(show gs X.prog X.w ax s2.heap a (k7 a C aw)from bJ.aP a _ ay)
 refine Vj bJ.eI aI aL dS eZ S aT fun h' g1 g2 g3=>?_
 have jo:ax s2.heap.objs.size=aw:=bJ.aP.fresh (cE _)
 have amB:a≠s2.heap.objs.size:=fC (d9 aI)
 refine⟨ab,_,bJ.un (h':=h') (t':=s2.toks+2) ⟨fun b u q n _ _=>?_,fun b u q n _ _=>⟨u.slots,?_⟩,fun b u q n _=>?_,fun b u q _=>?_,fun b xs q=>?_,fun b u xs q=>?_,fun b ps q=>⟨#[],?_⟩⟩ fun b u q=>?_,cN _ jo⟩
 .exact g3 b u (fun z=>by rw[z,ay]at n;cases n) q
 .exact g3 b u (fun z=>by rw[z,ay]at n;cases n) q
 .rw[bO (fun z=>by rw[z,ay]at n;cases n),bO (fC (d9 q))];exact n
 ·by_cases ar:b=a
  .subst ar;exact⟨_,g1⟩
  .exact⟨u,g3 b u ar q⟩
 .rw[bO (fun z=>by rw[z,ay]at q;cases q),bO (eN q jo)];exact q
 .rw[bO (fun z=>by rw[z,ay]at q;cases q),bO (eN q jo)];exact q
 .rw[bO (fun z=>by rw[z,ay]at q;cases q),bO (eN q jo),q];simp
 ·by_cases ar:b=a
  ·subst ar
   rw[aQ]at q;cases q
   exact GP g1 aL I eZ oA rT t8
  ·rw[bO ar]at q
   by_cases O1:b=s2.heap.objs.size
   ·subst O1
    rw[aQ]at q;cases q
    refine⟨_,g2,fun f=>?_⟩
    show ob (match f == dB with|true=>J y|false=>aw) (if f=dB then J u else aw)
    by_cases aG:f=dB
    .rw[aG,beq_self_eq_true,if_pos rfl];exact cn
    .rw[beq_false_of_ne aG,if_neg aG];trivial
   ·rw[bO O1]at q
    refine(bJ.aP b u q).mW (fun c v hc z=>g3 c v ?_ z) (fun c r=>?_) fun c xs r=>?_
    ·rcases hc with rfl|hc
     .exact ar
     .intro z;rw[z,ay]at hc;cases hc
    .rw[bO (fun z=>by rw[z,ay]at r;cases r),bO (eN r jo)];exact r
    .rw[bO (fun z=>by rw[z,ay]at r;cases r),bO (eN r jo)];exact r
def jF(P:c1)(w:cH)(K:bN)(mg:af->Option ao)(base:bc)(k:Nat)(C:ae)(m:af)(ps:List af)(sp:b3):Prop :=
 ∃f fd,cq P w K mg base (fH P w) k f fd ps sp/\Binds K fd ps []/\tp K C m f
end dT
end
section
namespace gc
open PySem dT
theorem UP(l:List Bool):∀a k,(mV a l).testBit (l.length+k)=a.testBit k:=by
 induction l with
 |nil=>intro a k;rw[List.length_nil,Nat.zero_add];rfl
 |cons b l cM =>
  intro a k
  rw[GH,dZ,show l.length+1+k=l.length+(k+1) by omega,cM,Mp]
theorem Ny(l:List Bool):∀a,a≠0->ba (mV a l)=ba a+l.length/\el (mV a l) l.length=l/\mV a l≠0:=by
 induction l with
 |nil=>intro a h;exact⟨I,I,h⟩
 |cons b l cM =>
  intro a h
  obtain⟨aj,aq,bl⟩:=cM (2*a+b.toNat) (by omega)
  rw[GH]
  refine⟨by rw[aj,Mv h,dZ];omega,?_,bl⟩
  rw[dZ,el,aq]
  congr 1
  have:=UP l (2*a+b.toNat) 0
  rw[Nat.add_zero]at this
  rw[this,L5]
theorem Nw:ba 1=1:=by decide
theorem rF(l:List Bool)(k:Nat)(h:k<=l.length):Txt.slice (aV l) aw (J (k:Int))=aV (l.take k):=by
 rw[vU,ek.zK,ek.zL,Nat.min_eq_left (by omega),List.drop_zero,Nat.sub_zero]
end gc
end
section
namespace dT
open PySem PySem.W PySem.Spec PyProof.Rows
section
variable {X:bz}
noncomputable def P2:=d5.or (dr (X:=X)) B6
noncomputable def agw:=d5.or (kW (X:=X)) VL
inductive Ko(K:bN)(f:af)(x:V)(H:au)(Q:Int->Prop):Prop where
 |mk (a C al:ae) (fs:List (af×V)) (v:Int) (e:x=.ref a) (h:H a=J (iK a C (J al))) (i:H al=J (.i9 fs)) (c:ExcC K C) (j:hasDictIn K C=ah) (n:findIn K (.ref C) f=J aw) (l:fs.lookup f=J (.int v)) (q:Q v):Ko K f x H Q
theorem yg{o:b5}(bf:bX X o b4)(ar:attributeBase o dB X.env (eval o X.env)=eval o X.env):bX X (.Attribute o dB aR) (fun ab H Q=>b4 ab H fun x H1=>Ko X.K dB x H1 fun v=>Q (.int v) H1):=by
 intro ak s ab H Q aa h
 refine NU ar (cA (bf ak s ab H _ aa h) fun u s1 bE=>?_)
 obtain⟨x,H1,aU,bt,a,C,al,fs,v,ex,lr,dH,e6,r8,aG,aB,q⟩:=bE
 subst ex
 obtain rfl:u=ao.ref a:=bt
 obtain⟨⟨ee,vs,aI,aL,dS,eZ,_⟩,_⟩:=(show gs X.prog X.w H1 s1.heap a (iK a C (J al))from aU.aP a _ lr)
 obtain⟨fc,ns,rel⟩:=(show gs X.prog X.w H1 s1.heap al (.i9 fs)from aU.aP al _ dH)
 obtain⟨od,aK,pU⟩:=MK ns
 have dQ:W.InstAt s1.heap a ee C (J od):=by
  obtain⟨cls,dict,data,df⟩:=ee
  rcases dS with⟨dS,_⟩|⟨dS,_⟩
  ·subst aL dS eZ
   exact⟨aI,I,I,aK⟩
  .rw[gX dS,lr]at dH;cases dH
 have r:=rel dB
 rw[aB]at r
 cases hm:fc dB with
 |none=>rw[hm]at r;exact r.elim
 | some u =>
  rw[hm]at r
  obtain⟨cp,rfl⟩:=(show ∃cp,u=ao.int v cp from r)
  obtain⟨c9,ky,IB⟩:=any_some r8
  have adl:findObj X.K C (J od) dB=J (.value (ao.int v cp)):=by
   have ad1:W.ownOf c9 (J od) dB=J (J (ao.int v cp)):=by unfold W.ownOf;rw[if_pos IB];exact(pU dB).trans (by rw[hm])
   unfold findObj
   rw[ky,Option.bind_some,aG,Option.bind_some]
   simp[ad1]
  exact Z9 aU.eI dQ e6 adl I ⟨.int v,H1,aU.tok _,⟨_,I⟩,q⟩
end
section
variable {X:bz}
def D6(i j:Int):Prop:=0<j/\(c6.Int.intBits j<=9000\/c6.Int.intBits i<=c6.Int.intBits j+4000)
theorem ML{j:Int}(h:j≠0):j.natAbs.log2+1=c6.Int.intBits j:=by
 unfold c6.Int.intBits
 rw[if_neg (by simpa using h)]
theorem D6.ok{i j:Int}(h:D6 i j):c6.divisionGoesByPylong i j=ag:=by
 unfold c6.divisionGoesByPylong
 have cv:=ML (Int.ne_of_gt h.1)
 have aq:=h.2
 have kv:(j == 0)=ag:=by have:=h.1;simp;omega
 simp only[Bool.and_eq_false_iff,decide_eq_false_iff_not,kv,if_neg (show ¬(ag=ah)from by decide)]
 rcases aq with aq|aq
 .left;omega
 ·right
  by_cases aC:i=0
  .subst aC;rw[if_pos (by decide)];omega
  ·have sd:=ML aC
   rw[if_neg (by simpa using aC)]
   omega
theorem v3:d5 X (kE .FloorDiv) (q9 D6 fun i j =>.int (i/j)):=sA fun i j _ _ _ _ _ hc q=>by
 have e:i.fdiv j=i/j:=Int.fdiv_eq_ediv_of_nonneg _ (Int.le_of_lt hc.1)
 exact floordiv_int (by have:=hc.1;omega) (by rw[e];exact q) (.inl hc.ok)
end
noncomputable def ti(K:bN)(a:ae)(xs:List V):kH:=⟨fun i H=>dE K H a xs/\i<xs.length,fun i H x H'=>H'=H/\xs[xs.length-1-i]?=J x,fun i H=>dE K H a xs/\xs.length<=i⟩
theorem aaD(a it:ae)(xs:List V):Turn P w K eB (ti K a xs) [it] it (fun i h=>i<=xs.length/\h.IsRevIter it a ((xs.length:Int)-1-i)) where
 mem:=by simp
 obj:=fun i h st b ar=>by
  have e:b=it:=by simpa using ar
  subst e
  obtain⟨_,o,e,c,d⟩:=st
  exact⟨o,e,fun v z=>by rw[d]at z;cases z⟩
 keep:=fun i h h' st k=>⟨st.1,st.2.at fun o e=>k it (by simp) o e⟩
 item:=by
  intro X ck hw g5 hc i ak s ab H E aa aG st aH
  subst ck hw g5
  obtain⟨aW,aC⟩:=aH
  obtain⟨bq,dO,p,bC⟩:=aa.list aW
  have ay:xs[xs.length-1-i]?=J (xs[xs.length-1-i]'(by omega)):=dR _
  obtain⟨u,dY,gS⟩:=dO.get ay
  obtain⟨f0,f1,f2,hq,f4,hR⟩:=aG it (by simp)
  have e3:((xs.length:Int)-1-i)=((xs.length-1-i:Nat):Int):=by omega
  have jA:=st.2
  rw[e3]at jA
  refine wpAny_pyNext_rev_item jA p.isList (x:=u) (by simpa using dY) fun h' jz nN=>?_
  have aU:Inv X ak ab H {s with heap:=h'}:=aa.turned (t':=s.toks) (fun b o ar e=>(nN.2 b ar).trans e) f0 f1 hq f4 hR
  have kv:(((xs.length-1-i:Nat):Int)-1)=((xs.length:Int)-1-((i+1:Nat):Int)):=by omega
  rw[kv]at jz
  obtain⟨o,e,c,d⟩:=id jz
  exact⟨u,I,yv (s:={s with heap:=h'}) e c d (by decide) ⟨_,H,aU,gS,⟨I,ay⟩,⟨by omega,jz⟩,fun b ar=>(aG b ar).1⟩⟩
 done:=by
  intro X ck hw g5 hc i ak s ab H E aa aG st aH
  subst ck hw g5
  obtain⟨aW,ay⟩:=aH
  obtain⟨f0,f1,f2,hq,f4,hR⟩:=aG it (by simp)
  have e3:((xs.length:Int)-1-i) = -1:=by have:=st.1;omega
  have jA:=st.2
  rw[e3]at jA
  exact wpAny_pyNext_rev_end (aa.ok.hd hc) jA fun h' hf=>⟨I,aa.turned (t':=s.toks) (fun b o ar e=>hf b o ar e) f0 f1 hq f4 hR⟩
 self:=fun _ _ _ _ _ st h=>wpAny_pyIter_revIter st.2 h
section
variable {X:bz} {eB:b5}
def aeE(K:bN)(eg:TE):d8:=fun ab H R=>eg ab H fun x H1=>∃a xs,x=.ref a/\dE K H1 a xs/\R (ti K a xs) H1
theorem VH{l:b5}{eg:TE}{p:Pos}(aH:il X "reversed")(hm:X.mg "reversed"=aw)(aB:bX X l eg)(hs:dt [l] X.env=[(ag,eval l X.env)]:=by rfl):jd X eB (.Call (.Name "reversed" p) [l] [] aR) (aeE X.K eg):=by
 intro ak s ab H R aa h
 have bf:hH X [l] _:=av aB aA (hs:=hs.trans rfl)
 refine Call_ (pF aa aH hm boot_reversed (callWith_type1 (cA (bf aR ak s ab H (fun vs H1=>∃x,vs=[x]/\∃a xs,x=.ref a/\dE X.K H1 a xs/\R (ti X.K a xs) H1) aa ?_) fun us s1 ⟨vs,H1,aU,cK,cm⟩=>?_) (by rw[hs];rfl) I))
 ·have h':eg ab H fun x H1=>∃a xs,x=.ref a/\dE X.K H1 a xs/\R (ti X.K a xs) H1:=h
  show eg ab H fun x H1=>∃y,[x]=[y]/\_
  exact cast (congrArg (eg ab H) (funext fun x=>funext fun H1=>propext ⟨fun q=>⟨x,I,q⟩,fun⟨y,e,q⟩=>by cases e;exact q⟩)) h'
 ·obtain⟨x,rfl,a,xs,rfl,aW,q⟩:=cm
  obtain⟨u,rfl,gS⟩:=vals1 cK
  obtain rfl:u=ao.ref a:=gS
  obtain⟨bq,dO,pl,bC⟩:=aU.list aW
  have cL:=dO.length
  refine call_reversed_list pl.isList ?_
  have bJ:Inv X ak ab H1 {s1 with heap:=s1.heap.push (revObj a ((bq.toArray.size:Int)-1))}:=aU.kept (t':=s1.toks) fun b o e=>er _ e
  have DF:(s1.heap.push (revObj a ((bq.toArray.size:Int)-1))).IsRevIter s1.heap.objs.size a ((xs.length:Int)-1-((0:Nat):Int)):=by
   have eP:((bq.toArray.size:Int)-1)=((xs.length:Int)-1-((0:Nat):Int)):=by rw[fW,<-cL];omega
   rw[eP]
   exact⟨_,ha _ I,I,I⟩
  refine wpAny_pyIter_revIter DF ?_
  refine⟨_,[_],_,_,H1,I,bJ,aaD a _ xs,⟨UF _,DF⟩,fun b ar=>?_,q⟩
  have e:=fU.mp ar
  subst e
  exact aU.qF (cE _) (aU.aP.fresh (cE _))
theorem Vi{g:gW}{D:Ends}(Pv:Nat->St->au->Prop)(bu:Pv 0 ab H)(aB:∀i ab H,i<=xs.length->Pv i ab H->dE K H a xs)
  (hs:∀i x ab H,i<xs.length->xs[xs.length-1-i]?=J x->Pv i ab H->g x ab H fun b7 ax=>dg {D with nx:=Pv (i+1),ct:=Pv (i+1),bk:=D.nx} b7 ax) (hd:∀ab H,Pv xs.length ab H->D.nx ab H) :
  ∃W:Nat->Nat->St->au->Prop,(∃m,W 0 m ab H)/\∀i m ab H,W i m ab H->
   ((ti K a xs).stop i H/\D.nx ab H)\/((ti K a xs).go i H/\∃N:St->au->Prop,(∀bU H',N bU H'->∃b8,b8<m/\W (i+1) b8 bU H')/\∀x H',(ti K a xs).qa i H x H'->g x ab H' fun b7 ax=>dg {D with nx:=N,ct:=N,bk:=D.nx} b7 ax):=by
 refine⟨fun i m ab H=>i<=xs.length/\m=xs.length-i/\Pv i ab H,⟨xs.length,UF _,I,bu⟩,?_⟩
 rintro i m ab H ⟨aj,rfl,aq⟩
 rcases j4 i xs.length with z|z
 ·refine .inr ⟨⟨aB i ab H aj aq,z⟩,Pv (i+1),fun bU H' q=>⟨xs.length-(i+1),by omega,by omega,rfl,q⟩,?_⟩
  rintro x H' ⟨rfl,ay⟩
  exact hs i x ab _ z ay aq
 ·have e:i=xs.length:=by omega
  subst e
  exact .inl ⟨⟨aB _ ab H (cE _) aq,cE _⟩,hd ab H aq⟩
theorem v7(hc:X.calm=ah):jE X (.builtin "all") (fun xs H Q=>∃a,∃bs:List Bool,xs=[.ref a]/\dE X.K H a (bs.map .aN)/\Q (.aN (bs.all id)) H):=by
 intro ak s ab H xs us Q aa r h
 obtain⟨a,bs,rfl,aW,q⟩:=h
 obtain⟨u,rfl,gS⟩:=vals1 r
 obtain rfl:u=ao.ref a:=gS
 obtain⟨bq,dO,pl,bC⟩:=aa.list aW
 have cL:=dO.length
 have jv:a<s.heap.objs.size:=by obtain⟨o,aK,_⟩:=pl.isList;exact d9 aK
 refine call_all_walkS (wpAny_pyIter_list pl.isList ?_)
 refine⟨s.heap.objs.size,[s.heap.objs.size,a],[s.heap.objs.size],_,bq.toArray.size,_,_,fun i=>bs.getD i ag,I,(Walks.list (A:=X.A.in1) (aa.ok.hd hc) s.heap.objs.size a (fC jv) bq.toArray).toS,⟨⟨_,ha _ I,I,I⟩,?_⟩,?_,fun aF kU=>?_⟩
 .obtain⟨o,aK,r⟩:=pl.isList;exact⟨o,er _ aK,r⟩
 ·intro i v s2 alk f9 bg cN
  have uD:bq[i]?=J v:=by simpa using bg
  have aC:i<bs.length:=by
   have:=(km.mp uD).1
   rw[cC]at cL;omega
  have ar:(bs.map V.aN)[i]?=J (.aN (bs.getD i ag)):=by rw[gf,dR aC,fu,dR aC];rfl
  obtain⟨u,dY,gS⟩:=dO.get ar
  rw[uD]at dY;cases dY
  obtain rfl:v=ao.bool (bs.getD i ag):=gS
  exact xC cN
 ·have ib:(List.range bq.toArray.size).all (fun i=>bs.getD i ag)=bs.all id:=by
   rw[fW,<-cL,cC]
   apply Bool.eq_iff_iff.mpr
   rw[jf,jf]
   constructor
   ·intro h x ay
    obtain⟨i,aC,rfl⟩:=List.mem_iff_getElem.mp ay
    have:=h i (List.mem_range.mpr aC)
    rw[fu,dR aC]at this
    exact this
   ·intro h i aC
    have uu:=List.mem_range.mp aC
    rw[fu,dR uu]
    exact h _ (List.getElem_mem uu)
  rw[ib]
  refine⟨.aN _,H,?_,I,q⟩
  have bJ:Inv X ak ab H {s with heap:=s.heap.push {cls :=.type "list_iterator",data :=.fields #[.ref a,.int 0 0]}}:=aa.kept (t':=s.toks) fun b o e=>er _ e
  obtain⟨f0,f1,f2,hq,f4,hR⟩:=aa.qF (b:=s.heap.objs.size) (cE _) (aa.aP.fresh (cE _))
  have e:aF={s with heap:=aF.heap,toks:=aF.toks}:=by
   obtain⟨aj,g1,eY,t1,Ji⟩:=aF
   have:=kU.gens;have:=kU.drawn;have:=kU.os
   dsimp only at *
   subst_vars;rfl
  have h4:=bJ.turned (t':=aF.toks) (it:=s.heap.objs.size) (h':=aF.heap) (fun b o ar e=>kU.heap b o (by simpa using ar) e) f0 f1 hq f4 hR
  rw[e]
  exact h4
end
theorem MV(l:List V):kO l (J 1) aw=l.drop 1:=by
 unfold kO ek.fi
 cases l with
 |nil=>rfl
 |cons a r=>simp
theorem aam(l:List V):kO l aw (J (-1))=l.take (l.length-1):=by
 unfold kO ek.fi
 cases l with
 |nil=>rfl
 |cons a r =>
  simp only[show((-1:Int)<0)from by decide,if_true,List.drop_zero,Nat.sub_zero]
  congr 1
  simp only[dZ]
  omega
theorem BA{g:gW}{Q:bB}{D:ae}(f:V->V)(S:St->Prop)(bC:xs.length<=bY)(bu:S gJ)(dH:H D=aw)(aB:dE K H a xs)
  (aT:∀x,x∈xs->∀cz H1,S cz->eD H H1->∀R:St->V->au->Prop,(∀b7,S b7->R b7 (f x) H1)->g x cz H1 fun b7 ax=>cG b7 ax fun y bA=>R b7 y bA)
  (aW:Q (.ref D) (upd H D (.lst (xs.map f)))) :
  qk (rx K a) g sU cG Q gJ H D:=by
 refine⟨fun i m cz ax=>i<=xs.length/\m=xs.length-i/\S cz/\ax=upd H D (.lst ((xs.take i).map f)),⟨xs.length,UF _,I,bu,I⟩,?_⟩
 rintro i m cz ax ⟨aj,rfl,aq,rfl⟩
 have ju:=(dq (o :=.lst ((xs.take i).map f)) dH).seq aB
 rcases j4 i xs.length with z|z
 ·refine .inr ⟨⟨xs,xs[i],ju,dR z⟩,?_⟩
  rintro x bA ⟨rfl,ay⟩
  have ay:=ay xs ju
  refine aT x (kl ay) cz _ aq (dq dH) (fun b7 y fS=>∃bb b8,fS D=J (.lst bb)/\bb.length<bY/\b8<xs.length-i/\(i+1<=xs.length/\b8=xs.length-(i+1)/\S b7/\upd fS D (.lst (bb++[y]))=upd H D (.lst ((xs.take (i+1)).map f)))) fun b7 gq=>?_
  refine⟨_,xs.length-(i+1),aQ,?_,by omega,by omega,rfl,gq,?_⟩
  .rw[cC,hb];omega
  .rw[iv,oi,ay,fk];rfl
 ·have e:i=xs.length:=by omega
  subst e
  rw[List.take_length]
  rw[List.take_length]at ju
  exact .inl ⟨⟨xs,ju,cE _⟩,aW⟩
end dT
end
variable {B:Nat}
section
namespace gc
open PySem dT
noncomputable def cO:List Int->Int×Int
 |[]=>(1,0)
 |a::r=>(a*(cO r).1+(cO r).2,(cO r).1)
def Tail(r:List Int):Prop:=(∀x∈r,1<=x)/\∀h:r≠[],2<=r.getLast h
noncomputable def Good:List Int->Prop
 |[]=>False
 |_::r=>Tail r
variable {r:List Int}
theorem Tail.eg{a:Int}(h:Tail (a::r)):Tail r:=by
 refine⟨fun x ay=>h.1 x (fD _ ay),fun az=>?_⟩
 have:=h.2 (ng _ _)
 rwa [List.getLast_cons az]at this
theorem Tail.cO:∀{r:List Int},Tail r->0<=(cO r).2/\(cO r).2<(cO r).1/\(r≠[]->0<(cO r).2)
 |[],_=>⟨by decide,by decide,fun h=>absurd rfl h⟩
 | a::r,h=>by
  obtain⟨aj,aq,bl⟩:=h.eg.cO
  have bf:=h.1 a (hM ..)
  show 0<=(gc.cO r).1/\(gc.cO r).1<a*(gc.cO r).1+(gc.cO r).2/\(_->0<(gc.cO r).1)
  refine⟨by omega,?_,fun _=>by omega⟩
  by_cases az:r=[]
  ·subst az
   have aB:=h.2 (ng _ _)
   have y1:(2:Int)<=a:=aB
   show(1:Int)<a*1+0
   omega
  ·have:=bl az
   have hm:1*(gc.cO r).1<=a*(gc.cO r).1:=Int.mul_le_mul_of_nonneg_right bf (by omega)
   omega
theorem BE{a:Int}(h:Tail r):(cO (a::r)).1/(cO (a::r)).2=a/\(cO (a::r)).1%(cO (a::r)).2=(cO r).2:=by
 obtain⟨aj,aq,_⟩:=h.cO
 show(a*(cO r).1+(cO r).2)/(cO r).1=a/\(a*(cO r).1+(cO r).2)%(cO r).1=(cO r).2
 constructor
 .rw[Int.add_comm,Int.add_mul_ediv_right _ _ (by omega),Int.ediv_eq_zero_of_lt aj aq,Int.zero_add]
 .rw[Int.add_comm,Int.add_mul_emod_self_right,Int.emod_eq_of_lt aj aq]
noncomputable def eu(p q:Int):List Int:=if h:0<q then(p/q)::eu q (p%q)else []
termination_by q.toNat
decreasing_by
 have:=hJ p h
 have:=hu p (Int.ne_of_gt h)
 omega
theorem lS{p q:Int}(h:0<q):eu p q=(p/q)::eu q (p%q):=by rw[eu,dif_pos h]
theorem qs(p:Int):eu p 0=[]:=by rw[eu,dif_neg (by decide)]
theorem Ni:∀{r:List Int},Tail r->eu (cO r).1 (cO r).2=r
 |[],_=>qs _
 |a::r,h=>by
  obtain⟨aj,aq,_⟩:=h.eg.cO
  obtain⟨eY,iY⟩:=BE (a:=a) h.eg
  rw[lS (show 0<(cO (a::r)).2 from by show 0<(cO r).1;omega),eY,iY]
  exact congrArg (a::·) (Ni h.eg)
theorem Good.eu:∀{s:List Int},Good s->0<(cO s).2/\eu (cO s).1 (cO s).2=s
 |a::r,h=>by
  have h:Tail r:=h
  obtain⟨aj,aq,_⟩:=h.cO
  obtain⟨eY,iY⟩:=BE (a:=a) h
  have bj:0<(cO (a::r)).2:=by show 0<(cO r).1;omega
  refine⟨bj,?_⟩
  rw[lS bj,eY,iY]
  exact congrArg (a::·) (Ni h)
theorem BJ(i:Int):c6.Int.intBits i=ba i.natAbs:=by
 unfold c6.Int.intBits ba
 by_cases h:i=0
 .subst h;rfl
 .rw[if_neg (by simpa using h),if_neg (by omega)]
theorem MQ{B:Nat}:∀{s:List Int},(∀x∈s,x.natAbs<2^B)->(cO s).1.natAbs<=2^((B+1)*s.length)/\(cO s).2.natAbs<=2^((B+1)*s.length)
 |[],_=>⟨by rw[List.length_nil,Nat.mul_zero];decide,by rw[List.length_nil,Nat.mul_zero];decide⟩
 | a::r,h=>by
  obtain⟨aj,aq⟩:=MQ (s:=r) fun x ay=>h x (fD _ ay)
  have bf:=h a (hM ..)
  have e:(B+1)*(a::r).length=(B+1)*r.length+(B+1):=by rw[dZ,Nat.mul_succ]
  rw[e,Nat.pow_add]
  obtain⟨T,cf⟩:∃T,T=2^((B+1)*r.length):=⟨_,rfl⟩
  rw[<-cf]at aj aq ⊢
  have ar:1<=2^B:=Nat.one_le_two_pow
  have aL:2^(B+1)=2^B*2:=Nat.pow_succ ..
  rw[aL]
  obtain⟨b,Ig⟩:∃b,b=2^B:=⟨_,rfl⟩
  rw[<-Ig]at bf ar ⊢
  have dS:T*(b*2)=b*T+T*b:=by rw[<-Nat.mul_assoc,Nat.mul_two,Nat.mul_comm b T]
  have fO:T*1<=T*b:=Nat.mul_le_mul_left _ ar
  constructor
  ·show(a*(cO r).1+(cO r).2).natAbs<=_
   have z:=Int.natAbs_add_le (a*(cO r).1) (cO r).2
   rw[Int.natAbs_mul]at z
   have m:a.natAbs*(cO r).1.natAbs<=b*T:=Nat.mul_le_mul (Nat.le_of_lt bf) aj
   omega
  ·show(cO r).1.natAbs<=_
   have:0<=b*T:=UF _
   omega
theorem NT{i:Int}(h:i.natAbs<=2^k):c6.Int.intBits i<=k+1:=by
 rw[BJ]
 refine hn ?_
 rw[Nat.pow_succ]
 have:=Nat.two_pow_pos k
 omega
theorem Vv{i:Int}(h:i.natAbs<2^k):c6.Int.intBits i<=k:=by rw[BJ];exact hn h
theorem Um{p q:Int}(h:0<q)(hs:(p/q).natAbs<2^B):c6.Int.intBits p<=c6.Int.intBits q+(B+1):=by
 rw[BJ,BJ]
 refine hn ?_
 have e:=Int.mul_ediv_add_emod p q
 have kX:=hu p (Int.ne_of_gt h)
 have cK:=hJ p h
 have z:=Int.natAbs_add_le (q*(p/q)) (p%q)
 rw[e,Int.natAbs_mul]at z
 have aW:=rL q.natAbs
 have m:q.natAbs*(p/q).natAbs<=q.natAbs*2^B:=Nat.mul_le_mul_left _ (Nat.le_of_lt hs)
 rw[Nat.pow_add,Nat.pow_succ]
 have l9:q.natAbs*2^B<=2^ba q.natAbs*2^B:=Nat.mul_le_mul_right _ (Nat.le_of_lt aW)
 have ar:1<=2^B:=Nat.one_le_two_pow
 have De:2^ba q.natAbs*1<=2^ba q.natAbs*2^B:=Nat.mul_le_mul_left _ ar
 have dS:2^ba q.natAbs*(2^B*2)=2^ba q.natAbs*2^B+2^ba q.natAbs*2^B:=by rw[<-Nat.mul_assoc,Nat.mul_two]
 omega
noncomputable def gE(s:List Int):Bool:=if s.length<2 then decide (s.length=1)else s.tail.all (fun x=>decide (0<x))&&decide (1<s.getLastD 0)
theorem vW(s:List Int):gE s=ah↔Good s:=by
 unfold gE
 match s with
 |[]=>simp[Good]
 |[a]=>simp[Good,Tail]
 | a::b::r =>
  rw[if_neg (by simp)]
  rw[hK,jf,jJ]
  have e:(a::b::r).getLastD 0=(b::r).getLast (ng _ _):=by
   rw[List.getLastD_cons,List.getLastD_eq_getLast?,List.getLast?_eq_some_getLast (ng _ _)];rfl
  rw[e]
  constructor
  ·rintro⟨aj,aq⟩
   exact⟨fun x ay=>by have:=lQ (aj x ay);omega,fun _=>by omega⟩
  ·rintro⟨aj,aq⟩
   exact⟨fun x ay=>d6 (by have:=aj x ay;omega),by have:=aq (ng _ _);omega⟩
theorem Good.ne{s:List Int}(h:Good s):s≠[]:=by intro e;subst e;exact h
end gc
end
variable {elts:List b5}
section
namespace dT
open PySem PySem.W PySem.Spec PyProof.Rows
section
variable {X:bz} {ak:List (ae×bw)} {ab:St} {H:au} {s:aJ} {h':bc}
theorem Inv.RW(aa:Inv X ak ab H s)(k:∀b u,b∉ch->s.heap.get? b=J u->h'.get? b=J u)(aG:∀b∈ch,qo X ak H b)(bf:s.heap.objs.size<=a)(new:gs X.prog X.w (upd H a o) h' a o):
  Inv X ak ab (upd H a o) {s with heap:=h',toks:=t'}:=by
 have bo:=aa.aP.fresh bf
 have oU:∀b u,H b=J u->b∉ch:=fun b u e z=>by have:=(aG b z).1;rw[this]at e;cases e
 have ne:∀b u,s.heap.get? b=J u->b≠a:=fun b u e z=>by subst z;exact absurd (fB (d9 e) bf) (Nat.lt_irrefl _)
 refine aa.step (g':=s.gens) (d':=s.drawn) (ch:=ch) (fun b ar=>?_) (fun b o _ _ hc e _=>k b o hc e) (fun b o _ _ hc e _=>⟨o.slots,k b o hc e⟩) (fun b u _ e n=>by rw[bO (ne b u e)];exact n)
  (fun b o hc e=>⟨o,k b o hc e⟩) (fun b xs e=>by rw[bO (eN e bo)];exact e) (fun b u v e=>by rw[bO (eN e bo)];exact e) (fun b ps e=>⟨#[],by rw[bO (eN e bo),e];simp⟩) (fun m hm=>?_) (fun b u e=>?_) aa.bare
 ·obtain⟨f0,f1,f2,hq,f4,hR⟩:=aG b ar
  exact⟨hq,f1,f4,hR⟩
 ·obtain⟨dN,aZ,fE,aK,r⟩:=hm
  exact⟨dN,aZ,fE,k _ dN (fun z=>(aG _ z).2.1 I) aK,r⟩
 ·by_cases ar:b=a
  .subst ar;rw[aQ]at e;cases e;exact new
  ·rw[bO ar]at e
   refine(aa.aP b u e).mW (fun c v hc q=>k c v ?_ q) (fun c q=>by rw[bO (eN q bo)];exact q) fun c xs q=>by rw[bO (eN q bo)];exact q
   rcases hc with z|z
   .rw[z];exact oU b u e
   .exact oU c _ z
theorem Inv.RV(aa:Inv X ak ab H s)(k:∀b u,b∉ch->s.heap.get? b=J u->h'.get? b=J u)(aG:∀b∈ch,qo X ak H b):Inv X ak ab H {s with heap:=h',toks:=t'}:=by
 have oU:∀b u,H b=J u->b∉ch:=fun b u e z=>by have:=(aG b z).1;rw[this]at e;cases e
 refine aa.step (g':=s.gens) (d':=s.drawn) (ch:=ch) (fun b ar=>?_) (fun b o _ _ hc e _=>k b o hc e) (fun b o _ _ hc e _=>⟨o.slots,k b o hc e⟩) (fun _ _ _ _ n=>n)
  (fun b o hc e=>⟨o,k b o hc e⟩) (fun _ _ e=>e) (fun _ _ _ e=>e) (fun b ps e=>⟨#[],by rw[e];simp⟩) (fun m hm=>?_) (fun b u e=>?_) aa.bare
 ·obtain⟨f0,f1,f2,hq,f4,hR⟩:=aG b ar
  exact⟨hq,f1,f4,hR⟩
 ·obtain⟨dN,aZ,fE,aK,r⟩:=hm
  exact⟨dN,aZ,fE,k _ dN (fun z=>(aG _ z).2.1 I) aK,r⟩
 ·refine(aa.aP b u e).mW (fun c v hc q=>k c v ?_ q) (fun _ q=>q) fun _ _ q=>q
  rcases hc with z|z
  .rw[z];exact oU b u e
  .exact oU c _ z
end
noncomputable def th(K:bN)(a:ae)(xs:List V):kH :=
 ⟨fun i H=>dE K H a xs/\i<xs.length,fun i H x H'=>∃(T:ae)(y:V),H T=aw/\xs[i]?=J y/\x=.ref T/\H'=upd H T (.tup [.int (i:Nat),y]),fun i H=>dE K H a xs/\xs.length<=i⟩
theorem ZF(a e it:ae)(xs:List V)(aj:e≠it)(aq:a≠e)(bl:a≠it):
  Turn P w K (.Tuple elts k aR) (th K a xs) [e,it] e (fun i h=>i<=xs.length/\(∃old,IsEnum h e it (i:Nat) old)/\h.IsListIter it a i) where
 mem:=by simp
 obj:=fun i h st b ar=>by
  obtain⟨_,⟨old,jA⟩,kc⟩:=st
  rcases dz.mp ar with z|z
  ·subst z
   exact⟨_,jA,fun v z=>by cases z⟩
  ·obtain rfl:=fU.mp z
   obtain⟨o,e,c,d⟩:=kc
   exact⟨o,e,fun v z=>by rw[d]at z;cases z⟩
 keep:=fun i h h' st k=>by
  obtain⟨aC,⟨old,jA⟩,kc⟩:=st
  exact⟨aC,⟨old,k e (by simp) _ jA⟩,kc.at fun o e=>k it (by simp) o e⟩
 item:=by
  intro X ck hw g5 hc i ak s ab H E aa aG st aH
  subst ck hw g5
  obtain⟨aW,aC⟩:=aH
  obtain⟨bq,dO,p,bC⟩:=aa.list aW
  have cL:=dO.length
  have W:=WalksT.enumerate (prog:=X.prog) (w:=X.w) (aa.ok.hd hc) e it a aj aq bl bq.toArray
  refine W.item i s _ _ (by rw[fW];omega) ⟨st.2.1,st.2.2,p.isList⟩ fun T vals h' cp bg cf aei mid fP=>?_
  refine⟨_,I,W.go elts k aR i T _ _ _ mid fun OH jz PH=>?_⟩
  obtain⟨t,u,dY,rfl⟩:=bg
  have aej:bq[i]?=J u:=by simpa using dY
  have bP:xs[i]?=J (xs[i]'aC):=dR aC
  obtain⟨o2,C3,gS⟩:=dO.get bP
  rw[aej]at C3;cases C3
  have H9:=aa.aP.fresh cf
  have ih:T∉[e,it]:=W.apart i T h' mid
  refine⟨.ref T,upd H T (.tup [.int (i:Nat),xs[i]'aC]),?_,I,⟨T,_,H9,bP,I,I⟩,⟨by omega,jz.1,jz.2.1⟩,fun b ar=>?_⟩
  ·refine aa.RW (ch:=[e,it]) (t':=cp) (fun b o ar hf=>PH b o ar (fP b o ar hf)) aG cf ?_
   refine⟨by show 2<=bY;decide,[ao.int (i:Nat) t,u],.cons ⟨t,rfl⟩ (.cons gS .nil),?_⟩
   obtain⟨o,aK,r⟩:=aei
   exact⟨o,PH T o ih aK,r⟩
  ·have:=(aG b ar).1
   rw[bO]
   .exact this
   .intro z;subst z;exact ih ar
 done:=by
  intro X ck hw g5 hc i ak s ab H E aa aG st aH
  subst ck hw g5
  obtain⟨aW,aC⟩:=aH
  obtain⟨bq,dO,p,bC⟩:=aa.list aW
  have cL:=dO.length
  have W:=WalksT.enumerate (prog:=X.prog) (w:=X.w) (aa.ok.hd hc) e it a aj aq bl bq.toArray
  have e3:i=bq.toArray.size:=by rw[fW];have:=st.1;omega
  subst e3
  exact W.done s _ _ ⟨st.2.1,st.2.2,p.isList⟩ fun h' cp fP=>⟨I,aa.RV (t':=cp) fP aG⟩
 self:=fun A i s Q E st h=>by
  obtain⟨_,⟨old,jA⟩,_⟩:=st
  exact wpAny_pyIter_enum jA h
section
variable {X:bz}
def aeD(K:bN)(eg:TE):d8:=fun ab H R=>eg ab H fun x H1=>∃a xs,x=.ref a/\dE K H1 a xs/\R (th K a xs) H1
theorem UU{l:b5}{eg:TE}{p:Pos}(aH:il X "enumerate")(hm:X.mg "enumerate"=aw)(aB:bX X l eg)(hs:dt [l] X.env=[(ag,eval l X.env)]:=by rfl):jd X (.Tuple elts k xt) (.Call (.Name "enumerate" p) [l] [] aR) (aeD X.K eg):=by
 intro ak s ab H R aa h
 have bf:hH X [l] _:=av aB aA (hs:=hs.trans rfl)
 refine Call_ (pF aa aH hm boot_enumerate (callWith_type1 (cA (bf aR ak s ab H (fun vs H1=>∃x,vs=[x]/\∃a xs,x=.ref a/\dE X.K H1 a xs/\R (th X.K a xs) H1) aa ?_) fun us s1 ⟨vs,H1,aU,cK,cm⟩=>?_) (by rw[hs];rfl) I))
 ·have h':eg ab H fun x H1=>∃a xs,x=.ref a/\dE X.K H1 a xs/\R (th X.K a xs) H1:=h
  show eg ab H fun x H1=>∃y,[x]=[y]/\_
  exact cast (congrArg (eg ab H) (funext fun x=>funext fun H1=>propext ⟨fun q=>⟨x,I,q⟩,fun⟨y,e,q⟩=>by cases e;exact q⟩)) h'
 ·obtain⟨x,rfl,a,xs,rfl,aW,q⟩:=cm
  obtain⟨u,rfl,gS⟩:=vals1 cK
  obtain rfl:u=ao.ref a:=gS
  obtain⟨bq,dO,pl,bC⟩:=aU.list aW
  have jv:a<s1.heap.objs.size:=by obtain⟨o,aK,_⟩:=pl.isList;exact d9 aK
  refine call_enumerate_list pl.isList fun h' he aC f5 fP=>?_
  have bJ:Inv X ak ab H1 {s1 with heap:=h'}:=aU.kept (t':=s1.toks) fP
  refine wpAny_pyIter_enum he ?_
  refine⟨_,[s1.heap.objs.size+1,s1.heap.objs.size],_,_,H1,I,bJ,ZF a _ _ xs (Nat.succ_ne_self _) (fC (Nat.lt_succ_of_lt jv)) (fC jv),⟨UF _,⟨_,he⟩,aC⟩,fun b ar=>?_,q⟩
  rcases dz.mp ar with z|z
  .subst z;exact aU.qF (by omega) (aU.aP.fresh (by omega))
  ·obtain rfl:=fU.mp z
   exact aU.qF (cE _) (aU.aP.fresh (cE _))
theorem Uh{g:gW}{D:Ends}(Pv:Nat->St->au->Prop)(bu:Pv 0 ab H)(aB:∀i ab H,i<=xs.length->Pv i ab H->dE K H a xs)
  (hs:∀i x ab H T,xs[i]?=J x->H T=aw->Pv i ab H->g (.ref T) ab (upd H T (.tup [.int (i:Nat),x])) fun b7 ax=>dg {D with nx:=Pv (i+1),ct:=Pv (i+1),bk:=D.nx} b7 ax) (hd:∀ab H,Pv xs.length ab H->D.nx ab H) :
  ∃W:Nat->Nat->St->au->Prop,(∃m,W 0 m ab H)/\∀i m ab H,W i m ab H->
   ((th K a xs).stop i H/\D.nx ab H)\/((th K a xs).go i H/\∃N:St->au->Prop,(∀bU H',N bU H'->∃b8,b8<m/\W (i+1) b8 bU H')/\∀x H',(th K a xs).qa i H x H'->g x ab H' fun b7 ax=>dg {D with nx:=N,ct:=N,bk:=D.nx} b7 ax):=by
 refine⟨fun i m ab H=>i<=xs.length/\m=xs.length-i/\Pv i ab H,⟨xs.length,UF _,I,bu⟩,?_⟩
 rintro i m ab H ⟨aj,rfl,aq⟩
 rcases j4 i xs.length with z|z
 ·refine .inr ⟨⟨aB i ab H aj aq,z⟩,Pv (i+1),fun bU H' q=>⟨xs.length-(i+1),by omega,by omega,rfl,q⟩,?_⟩
  rintro x H' ⟨T,y,cf,bP,rfl,rfl⟩
  exact hs i y ab H T bP cf aq
 ·have e:i=xs.length:=by omega
  subst e
  exact .inl ⟨⟨aB _ ab H (cE _) aq,cE _⟩,hd ab H aq⟩
end
end dT
end
section
namespace gc
open PySem dT
noncomputable def more:List Int->List Bool
 |[]=>[ag]
 |b::r=>ah::(cnt (b-1).toNat++more r).map (!·)
noncomputable def l0:List Int->List Bool
 |[]=>[]
 |a::r=>iW a++more r
noncomputable def odd(k:Nat):Bool:=decide (k%2=1)
theorem T4(k:Nat):odd (k+1)=!odd k:=by
 unfold odd
 have h:k%2=0\/k%2=1:=by omega
 rcases h with h|h
 ·have:(k+1)%2=1:=by omega
  simp[h,this]
 ·have:(k+1)%2=0:=by omega
  simp[h,this]
noncomputable def hW(k:Nat)(x:Int)(last:Bool):List Bool:=((if k=0 then iW x else cnt (x-1).toNat)++[!last]).map (xor (odd k))
noncomputable def gR:Nat->List Int->List (List Bool)
 |_,[]=>[]
 |k,x::r=>hW k x r.isEmpty::gR (k+1) r
theorem FY(k:Nat)(s:List Int):(gR k s).length=s.length:=by
 induction s generalizing k with
 |nil=>rfl
 |cons x r cM=>simp only[gR,dZ,cM]
theorem NC{s:List Int}{x:Int}(h:s[i]?=J x):(gR k s)[i]?=J (hW (k+i) x (decide (i+1=s.length))):=by
 induction s generalizing k i with
 |nil=>cases h
 | cons y r cM =>
  cases i with
  |zero =>
   cases h
   show J (hW k x r.isEmpty)=_
   congr 2
   cases r<;>simp
  |succ i =>
   have h':r[i]?=J x:=h
   have:=cM (k:=k+1) h'
   show(gR (k+1) r)[i]?=_
   rw[this]
   congr 2
   .omega
   .simp
theorem aaC(l:List Bool)(t:Bool):(l.map (!·)).map (xor t)=l.map (xor (!t)):=by
 rw[iL]
 exact qt fun b _=>by cases t<;>cases b<;>rfl
theorem TS(hk:k≠0)(b:Int)(r:List Int):(gR k (b::r)).flatten=(cnt (b-1).toNat++more r).map (xor (odd k)):=by
 induction r generalizing k b with
 |nil =>
  show(hW k b ah++[])=_
  rw[List.append_nil]
  unfold hW
  rw[if_neg hk];rfl
 |cons c r cM =>
  show hW k b ag++(gR (k+1) (c::r)).flatten=_
  rw[cM (by omega) c]
  unfold hW
  rw[if_neg hk,T4,more,<-aaC,<-fk,e2];rfl
theorem U0(a:Int)(r:List Int):(gR 0 (a::r)).flatten=l0 (a::r):=by
 have eP:∀l:List Bool,l.map (xor (odd 0))=l:=fun l=>yc l
 cases r with
 |nil =>
  show(hW 0 a ah++[])=_
  rw[List.append_nil]
  unfold hW
  rw[if_pos rfl,eP];rfl
 |cons b r =>
  show hW 0 a ag++(gR 1 (b::r)).flatten=_
  rw[TS (by decide)]
  unfold hW
  rw[if_pos rfl,eP]
  show _=iW a++(ah::(cnt (b-1).toNat++more r).map (!·))
  rw[e2]
  congr 1
  show ah::List.map (xor (odd 1)) _=ah::_
  congr 1
  exact qt fun b _=>by cases b<;>rfl
noncomputable def c9(p q:Int):Int:=if h:0<q then c9 q (p%q)else p
termination_by q.toNat
decreasing_by
 have:=hJ p h
 have:=hu p (Int.ne_of_gt h)
 omega
theorem wg{p q:Int}(h:0<q):c9 p q=c9 q (p%q):=by rw[c9,dif_pos h]
theorem wa(p:Int):c9 p 0=p:=by rw[c9,dif_neg (by decide)]
theorem NQ:∀{r:List Int},Tail r->c9 (cO r).1 (cO r).2=1
 |[],_=>wa _
 |a::r,h=>by
  obtain⟨aj,aq,_⟩:=h.eg.cO
  obtain⟨eY,iY⟩:=BE (a:=a) h.eg
  rw[wg (show 0<(cO (a::r)).2 from by show 0<(cO r).1;omega),iY]
  exact NQ h.eg
theorem Good.c9:∀{s:List Int},Good s->c9 (cO s).1 (cO s).2=1
 |a::r,h=>by
  have h:Tail r:=h
  obtain⟨aj,aq,_⟩:=h.cO
  obtain⟨eY,iY⟩:=BE (a:=a) h
  rw[wg (show 0<(cO (a::r)).2 from by show 0<(cO r).1;omega),iY]
  exact NQ h
end gc
end
section
namespace dT
open PySem PySem.W PySem.Spec PyProof.Rows
theorem x6{g:gW}{Q:bB}{D:ae}(jO:Nat->V)(S:St->Prop)(bC:xs.length<=bY)(bu:S gJ)(dH:H D=aw)(aB:dE K H a xs)
  (aT:∀i x,xs[i]?=J x->∀cz H1,S cz->eD H H1->∀R:St->V->au->Prop,(∀b7,S b7->R b7 (jO i) H1)->g x cz H1 fun b7 ax=>cG b7 ax fun y bA=>R b7 y bA)
  (aW:Q (.ref D) (upd H D (.lst ((List.range xs.length).map jO)))) :
  qk (rx K a) g sU cG Q gJ H D:=by
 refine⟨fun i m cz ax=>i<=xs.length/\m=xs.length-i/\S cz/\ax=upd H D (.lst ((List.range i).map jO)),⟨xs.length,UF _,I,bu,I⟩,?_⟩
 rintro i m cz ax ⟨aj,rfl,aq,rfl⟩
 have ju:=(dq (o :=.lst ((List.range i).map jO)) dH).seq aB
 rcases j4 i xs.length with z|z
 ·refine .inr ⟨⟨xs,xs[i],ju,dR z⟩,?_⟩
  rintro x bA ⟨rfl,ay⟩
  have ay:=ay xs ju
  refine aT i x ay cz _ aq (dq dH) (fun b7 y fS=>∃bb b8,fS D=J (.lst bb)/\bb.length<bY/\b8<xs.length-i/\(i+1<=xs.length/\b8=xs.length-(i+1)/\S b7/\upd fS D (.lst (bb++[y]))=upd H D (.lst ((List.range (i+1)).map jO)))) fun b7 gq=>?_
  refine⟨_,xs.length-(i+1),aQ,by rw[cC,mu];omega,by omega,by omega,rfl,gq,?_⟩
  rw[iv,List.range_succ,fk];rfl
 ·have e:i=xs.length:=by omega
  subst e
  exact .inl ⟨⟨xs,ju,cE _⟩,aW⟩
section
variable {X:bz} {e gZ alK aZ:b5} {cG eg p6 jB:TE} {iU aR:Pos}
theorem Wa{a:b5}(bf:bX X a b4)(he:∀whole,isTrue a X.env whole=(do let v <-whole;standAt a.pos;holding [v] (truthy v))):kJ X a (fun ab H Q=>b4 ab H fun x H'=>∃c,x=.aN c/\Q c H'):=by
 intro ak s ab H Q aa h
 refine isTrue_plain (cA (bf ak s ab H _ aa h) fun v s1 bE=>?_) (he _)
 obtain⟨x,H1,aU,cK,c,ex,cm⟩:=bE
 subst ex
 cases cK
 exact xC ⟨H1,aU,cm⟩
end
structure lL(K:bN)(C:ae):Prop where
 makes:z6 K C=ah
 init:d4 K (.ref C) "__init__"=J (J (.builtin "object.__init__"))
 iD:kD K (.ref C)=ah
section
variable {X:bz} {C:ae} {x:af} {p aR:Pos}
theorem ZI{Q:bB}(M:lL X.K C)(aa:Inv X ak ab H s)(h:∀x al,H x=aw->H al=aw->al≠x->Q (.ref x) (upd (upd H al (.own x)) x (.ins C al []))):
  bM (model X.prog X.w) X.A (call (.ref C) []) (ik X ak ab Q) X.xe s:=by
 have aW:=h (s.heap.objs.size+1) s.heap.objs.size (aa.aP.fresh (Nat.le_succ _)) (aa.aP.fresh (cE _)) (fC (Nat.lt_succ_self _))
 have bJ:=Inv.made (C:=C) aa
 have Y:=makes_of (M:=model X.prog X.w) aa.eI M.makes
 refine qc (ZV aa.eI M.makes M.init (fun self=>Looks.of_pure (oi_bind self)) ?_)
 have aL:((s.heap.push mY).push (mZ C s.heap.objs.size)).get? (s.heap.objs.size+1)=J (mZ C s.heap.objs.size):=by
  have:=ha (s.heap.push mY) (o:=mZ C s.heap.objs.size) rfl
  rwa [bc.size_push]at this
 have t1:Looks (model X.prog X.w) ((s.heap.push mY).push (mZ C s.heap.objs.size)) (typeOf (.ref (s.heap.objs.size+1))) (.ref C):=(Looks.ld aL).andThen .now
 have md:Looks (model X.prog X.w) ((s.heap.push mY).push (mZ C s.heap.objs.size)) (isInstance (.ref (s.heap.objs.size+1)) (.type "object")) ah:=t1.andThen (Y.top.keeps fun b o e=>er _ (er _ e))
 obtain⟨fN,g,d,t,os⟩:=s
 refine z8 oi_plain entry_oi (@check_slot (model X.prog X.w) _ _ _ "object.__init__" "object" "__init__" (.ref (fN.objs.size+1)) [] [] _ oi_kind oi_split md (oi_args (.ref (fN.objs.size+1))) ?_)
 rw[oi_run]
 exact dD (And.intro I ⟨V.ref (fN.objs.size+1),_,bJ,I,aW⟩)
def ajF(C:ae):TE:=fun _ H Q=>∀x al,H x=aw->H al=aw->al≠x->Q (.ref x) (upd (upd H al (.own x)) x (.ins C al []))
theorem Bx(M:lL X.K C)(aH:il X x)(hm:X.mg x=J (.ref C))(i4:(x == ("__debug__":af))=ag:=by decide):bX X (.Call (.Name x p) [] [] aR) (ajF C):=by
 intro ak s ab H Q aa h
 refine rm (rK aa aH hm ?_ i4)
 exact PySem.W.callWith_K0 aa.eI M.iD (ZI M aa h)
theorem Vm(a b:af)(t u:Tok):MeetsSeq.EqGives (.str a t) (.str b u) (decide (a=b)):=by
 intro prog w A Q E s h
 exact wpAny_eqBool_str h
end
end dT
end
variable {val:Nat->af} {items:Array ao}
section
namespace dT
open PySem PySem.Spec
noncomputable def gn(val:Nat->af):Nat->List af
 |0=>[]
 |i+1=>if val i∈gn val i then gn val i else gn val i++[val i]
theorem yh(val:Nat->af):∀i,(gn val i).length<=i
 |0=>cE _
 |i+1=>by
  have cM:=yh val i
  unfold gn
  split
  .omega
  .rw[cD,hL];omega
theorem Df(val:Nat->af)(i:Nat)(k:af):(decide (k∈gn val i)||decide (k=val i))=decide (k∈gn val (i+1)):=by
 conv=>rhs;unfold gn
 by_cases h:val i∈gn val i
 ·rw[if_pos h]
  by_cases e:k=val i
  .subst e;simp[h]
  .simp[e]
 ·rw[if_neg h]
  by_cases e:k=val i<;>simp[e]
theorem T6(val:Nat->af)(i:Nat):(if decide (val i∈gn val i)=ah then(gn val i).length else(gn val i).length+1)=(gn val (i+1)).length:=by
 conv=>rhs;unfold gn
 by_cases h:val i∈gn val i
 .rw[if_pos h,if_pos (d6 h)]
 .rw[if_neg h,if_neg (by simpa using h),cD];rfl
section
variable {prog:c1} {w:cH} {A:di} {R:Result->aJ->Prop} {aa:ae} {bQ wr:List ae} {G:Array GenState->Array GenState->Prop} {n:Nat} {Pv:Nat->ao->Prop} {St:Nat->aJ->Prop}
abbrev oh(prog:c1)(w:cH)(h:bc)(S:ae)(val:Nat->af)(i:Nat):Prop:=h.SetOf (PySem.strKind prog w) S (fun k=>decide (k∈gn val i)) (gn val i).length
theorem oh.keep{S:ae}(t:oh prog w h S val i)(k:∀o,h.get? S=J o->h'.get? S=J o):oh prog w h' S val i:=by
 obtain⟨o,aZ,fE,dg,aK,rest⟩:=t
 exact⟨o,aZ,fE,dg,k o aK,rest⟩
theorem MA(W:WalksS prog w A.in1 aa bQ wr G n Pv St)(S:ae)(wL:S∉bQ)(val:Nat->af)(aem:∀i v,Pv i v->∃t,v=.str (val i) t)(ar:n+1<scanBound):
  ∀(m i:Nat)(s:aJ),n-i=m->i<=n->St i s->oh prog w s.heap S val i->(∀aF,Moved (S::wr) G s aF->oh prog w aF.heap S val n->R (.ok (.ret .none)) aF)->
   k3 (model prog w) A (.builtin "set.update.loop" ⟨[.ref S,.ref aa],[]⟩) R s:=by
 have OW:S∉wr:=fun h=>wL (W.sub _ h)
 have up:∀b∈wr,b∈S::wr:=fun b h=>fD _ h
 intro m
 induction m with
 |zero =>
  intro i s hm aC st cf cJ
  obtain rfl:i=n:=by omega
  refine codeAny_builtin PyProof.Rows.F.entry_set_update_loop ?_
  rw[di.under_plainId PyProof.Rows.F.plain_set_update_loop _]
  refine bH (m:=pyNext (.ref aa)) (W.done s _ _ st fun aF kU=>?_)
  exact dD (cJ aF (kU.mono up) (cf.keep fun o e=>kU.heap S _ OW e))
 | succ m cM =>
  intro i s hm aC st cf cJ
  have jv:i<n:=by omega
  refine codeAny_builtin PyProof.Rows.F.entry_set_update_loop ?_
  rw[di.under_plainId PyProof.Rows.F.plain_set_update_loop _]
  refine bH (m:=pyNext (.ref aa)) (W.item i s _ _ jv st fun v aF ck jz kU=>?_)
  obtain⟨t,rfl⟩:=aem i v ck
  have wN:oh prog w aF.heap S val i:=cf.keep fun o e=>kU.heap S _ OW e
  have Pf:(PySem.strKind prog w).is (val i) (.str (val i) t)=ah:=by simp[PySem.strKind,ao.isStrOf]
  refine bH (m:=holding [ao.str (val i) t] (setAdd S (.str (val i) t))) (wpAny_holding ?_)
  unfold setAdd
  refine wpAny_holding (bH ((PySem.strKind prog w).pyHash (k:=val i) Pf ?_))
  have room:(gn val i).length+1<scanBound:=by have:=yh val i;omega
  refine wpAny_setAddHashed_of (knd:=PySem.strKind prog w) (s:={aF with toks:=aF.toks+1}) Pf I wN room fun h' nN i2=>?_
  have CE:oh prog w h' S val (i+1):=PyProof.Rows.SetOf_congr i2 (fun k=>Df val i k) (T6 val i)
  refine dD ⟨plainId_quiet PyProof.Rows.F.plain_set_update_loop _,cM (i+1) _ (by omega) jv (W.frame _ aF _ _ jz (Nat.le_succ _) fun b qQ o e=>?_) CE fun oY afY H8=>?_⟩
  .rw[nN.2 b fun z:b=S=>wL (z ▸ qQ)];exact e
  ·refine cJ oY (Moved.trans W.gtrans ((kU.mono up).then_heap (Nat.le_succ _) fun b o ac1 e=>?_) afY) H8
   rw[nN.2 b fun z:b=S=>ac1 (by rw[z];exact hM)];exact e
end
section
variable {prog:c1} {w:cH} {A:di} {E:ao->aJ->Prop} {s:aJ}
noncomputable abbrev kB(led:Bool):bw:={cls :=.type "set",dict:=aw,data :=.set #[] 0 (.fresh 0 0 led)}
abbrev Dv(prog:c1)(w:cH)(s:aJ)(val:Nat->af)(n:Nat)(r:ao)(nO:aJ):Prop:=r=.none/\∃h' cp,nO={s with heap:=h',toks:=cp}/\oh prog w h' s.heap.objs.size val n/\∀b o,b<s.heap.objs.size->s.heap.get? b=J o->h'.get? b=J o
def xO(prog:c1)(w:cH)(A:di)(E:ao->aJ->Prop)(s:aJ)(x:ao)(val:Nat->af)(n:Nat)(led:Bool):Prop :=
 bM (model prog w) A.in1.in1 (c6.«set.__init__» ⟨[.ref s.heap.objs.size,x],[]⟩) (fun cZ aF=>match cZ with
   |Fin.done f=>wants (Dv prog w s val n) E (Except.ok f) aF
   |Fin.again ix=>ix.quiet=ah/\k3 (model prog w) A.in1 ix (wants (Dv prog w s val n) E) aF)
  (fun e aF=>wants (Dv prog w s val n) E (Except.error e) aF) {s with heap:=s.heap.push (kB led)}
set_option maxHeartbeats 3200000 in
theorem Mn{x:ao}
  (ie:∀led:Bool,xO prog w A E s x val n led)
  (h:∀h' cp,oh prog w h' s.heap.objs.size val n->(∀b o,b<s.heap.objs.size->s.heap.get? b=J o->h'.get? b=J o)->Q (.ref s.heap.objs.size) {s with heap:=h',toks:=cp}) :
  bM (model prog w) A (call (.type "set") [x]) Q E s:=by
 obtain⟨c,eg,ami⟩:=F.called_set.mro
 have amg:=F.called_set.made
 have aeb:=F.called_set.sub
 refine qc (codeAny_of_tree ?_)
 show bM _ _ (callAny (.type "set") _) _ _ _
 refine dD ⟨Code.quiet_builtin _ (by decide+kernel),codeAny_builtin F.entry_type_call ?_⟩
 rw[di.under_plain (weight_type_call_type "set" [x] []) rfl]
 have aj:=F.called_set.notType
 have aq:=F.called_set.canCreate
 have alZ:=F.typeCall_set_1 x
 repeat (any_goals (first|assumption|wp_step))
 refine mi (PySem.code_set_new_1 x (E:=E) (Q₁:=fun obj dI=>∃led:Bool,obj=.ref s.heap.objs.size/\dI={s with heap:=s.heap.push (kB led)}) fun led=>⟨led,I,I⟩) fun r dI az=>?_
 cases r with
 |error e=>exact az
 | ok dB =>
  cases dB with
  | ret obj =>
   obtain⟨led,rfl,rfl⟩:=az
   have b2:(s.heap.push (kB led)).get? s.heap.objs.size=J (kB led):=ha _ rfl
   have cf:aJ.TypeIs {s with heap:=s.heap.push (kB led)} (.ref s.heap.objs.size) "set":=⟨_,b2,rfl⟩
   have amc:=F.called_set.init.lookup
   have alW:=F.called_set.init.bind (.ref s.heap.objs.size)
   repeat (any_goals (first|assumption|wp_step))
   refine mi (z8 (R:=wants (Dv prog w s val n) E) F.called_set.init.plain F.entry_set_init (PySem.check_set_init_1 cf ?_)) fun ajb nO IT=>?_
   .exact ie led
   ·cases ajb with
    |error e=>exact IT
    | ok ab3 =>
     cases ab3 with
     |ret r =>
      obtain⟨rfl,h',cp,rfl,kS,hk'⟩:=IT
      repeat (any_goals (first|assumption|wp_step))
      exact h _ _ kS hk'
     |_=>exact IT.elim
  |_=>exact az.elim
set_option maxHeartbeats 3200000 in
theorem ZZ{l:ae}(fN:A.handled=aw)(aB:s.heap.IsList l items)(bg:∀(i:Nat)(v:ao),items[i]?=J v->∃t,v=.str (val i) t)(ar:items.size+1<scanBound)(led:Bool):xO prog w A E s (.ref l) val items.size led:=by
 unfold xO
 obtain⟨ol,sh,qS,nl,l7⟩:=aB
 obtain⟨amE,agD,amF,agF⟩:=ol
 simp only at qS l7
 subst qS;subst l7
 have b2:(s.heap.push (kB led)).get? s.heap.objs.size=J (kB led):=ha _ rfl
 have ad0:(s.heap.push (kB led)).get? l=J {cls :=.type "list",dict:=agD,data :=.seq items nl,slots:=agF}:=er _ sh
 have aea:=F.sub_list_set
 have ad9:=F.sub_list_frozenset
 have oL:(ao.type "list" == ao.type "dict")=ag:=by decide
 have oJ:(s.heap.push (kB led)).IsList l items:=⟨_,ad0,rfl,nl,rfl⟩
 unfold c6.«set.__init__» noKeywords c6.Frozenset.updateFrom
 generalize H7:pyIter=jd
 wp_walk
 subst H7
 refine wpAny_pyIter_list oJ ?_
 refine bH (wpAny_runValue ?_)
 have Pj:l<s.heap.objs.size:=d9 sh
 have IA:A.in1.in1.in1.handled=aw:=by simp[fN]
 have f5:(s.heap.push (kB led)).objs.size=s.heap.objs.size+1:=bc.size_push ..
 have adQ:l≠(s.heap.push (kB led)).objs.size:=by rw[f5];exact fC (Nat.lt_succ_of_lt Pj)
 have wL:s.heap.objs.size∉[(s.heap.push (kB led)).objs.size,l]:=fun z=>by
  rw[f5]at z
  rcases dz.mp z with y|y
  .exact absurd y (fC (Nat.lt_succ_self _))
  .exact absurd (fU.mp y) (Nat.ne_of_gt Pj)
 refine MA ((Walks.list IA _ l adQ items).toS) s.heap.objs.size wL val bg ar items.size 0 _ (by omega) (UF _) ⟨⟨_,ha _ I,I,I⟩,oJ.push _⟩ ?_ ?_
 .exact PyProof.Rows.SetOf_congr ((PyProof.Rows.setObjOf_fresh (knd:=PySem.strKind prog w) led).setOf (er _ b2) (by unfold scanBound;omega)) (fun _=>I) I
 ·intro aF hm kS
  obtain⟨h',g',d',JX,zC⟩:=aF
  have mB:g'=s.gens:=hm.gens
  have yD:d'=s.drawn:=hm.drawn
  have rV:zC=s.os:=hm.os
  subst mB;subst yD;subst rV
  refine dD ?_
  refine dD (a:=Fin.done (Flow.ret ao.none)) ⟨I,h',JX,I,kS,fun b o oI e=>?_⟩
  refine hm.heap b o (fun z=>?_) (er _ (er _ e))
  rcases dz.mp z with y|y
  .exact absurd y (fC oI)
  ·rcases dz.mp y with y|y
   .rw[f5]at y;exact absurd y (fC (Nat.lt_succ_of_lt oI))
   .cases y
end
section
variable {prog:c1} {w:cH} {A:di} {E:ao->aJ->Prop} {s:aJ}
noncomputable def signsOf(x:af)(i:Nat):af:=⟨#[x.cps.getD i 0]⟩
set_option maxHeartbeats 3200000 in
theorem ZY{x:af}{t:Tok}(fN:A.handled=aw)(ar:x.cps.size+1<scanBound)(led:Bool):xO prog w A E s (.str x t) (signsOf x) x.cps.size led:=by
 unfold xO
 have b2:(s.heap.push (kB led)).get? s.heap.objs.size=J (kB led):=ha _ rfl
 have aea:=F.sub_str_set
 have ad9:=F.sub_str_frozenset
 have oL:(ao.type "str" == ao.type "dict")=ag:=by decide
 unfold c6.«set.__init__» noKeywords c6.Frozenset.updateFrom
 generalize H7:pyIter=jd
 wp_walk
 subst H7
 have f5:(s.heap.push (kB led)).objs.size=s.heap.objs.size+1:=bc.size_push ..
 refine wpAny_pyIter_str (s:={s with heap:=s.heap.push (kB led)}) fun o St W DF=>?_
 refine bH (wpAny_runValue ?_)
 have IA:A.in1.in1.in1.handled=aw:=by simp[fN]
 have wL:s.heap.objs.size∉[(s.heap.push (kB led)).objs.size]:=fun z=>by
  rw[f5]at z
  exact absurd (fU.mp z) (fC (Nat.lt_succ_self _))
 refine MA ((W _ IA).toS) s.heap.objs.size wL (signsOf x) (fun i v bg=>?_) ar x.cps.size 0 _ (by omega) (UF _) DF ?_ ?_
 ·obtain⟨c,u,hc,rfl⟩:=bg
  refine⟨u,?_⟩
  unfold signsOf
  rw[Array.getD_eq_getD_getElem?,hc];rfl
 .exact PyProof.Rows.SetOf_congr ((PyProof.Rows.setObjOf_fresh (knd:=PySem.strKind prog w) led).setOf (er _ b2) (by unfold scanBound;omega)) (fun _=>I) I
 ·intro aF hm kS
  obtain⟨h',g',d',JX,zC⟩:=aF
  have mB:g'=s.gens:=hm.gens
  have yD:d'=s.drawn:=hm.drawn
  have rV:zC=s.os:=hm.os
  subst mB;subst yD;subst rV
  refine dD ?_
  refine dD (a:=Fin.done (Flow.ret ao.none)) ⟨I,h',JX,I,kS,fun b ee oI e=>?_⟩
  refine hm.heap b ee (fun z=>?_) (er _ (er _ e))
  rcases dz.mp z with y|y
  .exact absurd y (fC oI)
  ·have y:=fU.mp y
   rw[f5]at y;exact absurd y (fC (Nat.lt_succ_of_lt oI))
theorem Zn{S:ae}(cf:oh prog w s.heap S val i)(h:Q (.int ((gn val i).length:Nat) (s.toks+1)) {s with toks:=s.toks+1+1}):bM (model prog w) A (call (.builtin "len") [.ref S]) Q E s:=by
 obtain⟨o,aZ,fE,t,aK,hex,hd,_,_,ar,aG,bo⟩:=cf
 refine call_len_set aK hex hd aG (by unfold scanBound at ar;omega) ?_
 rw[bo];exact h
end
section
variable {X:bz} {aR p iU Dr:Pos} {e:b5} {cG:TE}
def EL(K:bN)(H:au)(x:V)(val:Nat->af)(n:Nat):Prop:=(∃a,x=.ref a/\dE K H a ((List.range n).map fun i=>V.str (val i)))\/(∃z,x=.str z/\n=z.cps.size/\val=signsOf z)
def ajD(K:bN)(cG:TE):TE:=fun ab H Q=>cG ab H fun x H1=>∃val n,EL K H1 x val n/\n+1<scanBound/\Q (.int ((gn val n).length:Nat)) H1
theorem MG(hg:X.calm=ah)(adr:il X "len")(adL:X.mg "len"=aw)(adt:il X "set")(adN:X.mg "set"=aw)(he:bX X e cG)
  (gw:dt [.Call (.Name "set" iU) [e] [] Dr] X.env=[(ag,eval (.Call (.Name "set" iU) [e] [] Dr) X.env)]:=by rfl) (hS:dt [e] X.env=[(ag,eval e X.env)]:=by rfl) :
  bX X (.Call (.Name "len" p) [.Call (.Name "set" iU) [e] [] Dr] [] aR) (ajD X.K cG):=by
 intro ak s ab H Q aa h
 refine rm (pF aa adr adL d2 ?_ (by decide) (by decide))
 refine PyProof.Rows.callWith_builtin1 ?_ (gw.trans I) I
 rw[gw]
 show bM _ _ (spliced ((ag,eval (.Call (.Name "set" iU) [e] [] Dr) X.env)::[])) _ _ s
 refine Calls.spliced_cons (rm (pF aa adt adN (by decide+kernel:kg "set"=J (.type "set")) ?_ (by decide) (by decide)))
 refine PyProof.Rows.callWith_type1 ?_ (hS.trans I) I
 rw[hS]
 show bM _ _ (spliced ((ag,eval e X.env)::[])) _ _ s
 refine Calls.spliced_cons (cA (he ak s ab H _ aa h) fun u s1 bE=>?_)
 obtain⟨x,H1,aU,cK,val,n,ay,ar,q⟩:=bE
 refine Calls.spliced_nil ?_
 have cZ:∀(h':bc)(cp:Nat),oh X.prog X.w h' s1.heap.objs.size val n->(∀b o,b<s1.heap.objs.size->s1.heap.get? b=J o->h'.get? b=J o)->bM (model X.prog X.w) X.A (spliced []) (fun vs dI=>bM (model X.prog X.w) X.A (call (.builtin "len") (.ref s1.heap.objs.size::vs)) (ik X ak ab Q) X.xe dI) X.xe {s1 with heap:=h',toks:=cp}:=fun h' cp cf hk=>by
  refine Calls.spliced_nil (Zn (s:={s1 with heap:=h',toks:=cp}) cf ?_)
  exact⟨.int _,H1,aU.kept (h':=h') (t':=cp+1+1) fun b o hf=>hk b o (d9 hf) hf,⟨_,I⟩,q⟩
 rcases ay with⟨a,rfl,aW⟩|⟨z,rfl,rfl,rfl⟩
 ·obtain rfl:u=ao.ref a:=cK
  obtain⟨bq,dO,pl,bC⟩:=aU.list aW
  have cL:=dO.length
  rw[cC,mu]at cL
  have f5:bq.toArray.size=n:=by rw[fW];omega
  refine Mn (fun led=>?_) cZ
  have aC:=ZZ (prog:=X.prog) (w:=X.w) (E:=X.xe) (val:=val) (aU.ok.hd hg) pl.isList (fun i v bg=>?_) (by rw[f5];exact ar) led
  .rw[f5]at aC;exact aC
  ·have uD:bq[i]?=J v:=by simpa using bg
   have CN:i<n:=by rw[cL];exact(km.mp uD).1
   obtain⟨u,dY,gS⟩:=dO.get (i:=i) (x :=.str (val i)) (by rw[gf,List.getElem?_range CN];rfl)
   rw[uD]at dY;cases dY
   exact gS
 ·obtain⟨t,rfl⟩:=cK
  exact Mn (fun led=>ZY (aU.ok.hd hg) ar led) cZ
end
end dT
end
variable {m:Nat} {X:List ae} {S:List Nat} {kA:List dT.V} {iy:ae} {use:Option (ao->Sem Unit)} {Qf:ao->aJ->Prop}
section
namespace dT
open PySem PySem.W PySem.Spec PyProof.Rows
variable {g:gW}
theorem aan{x:af}{gy:hl}{Q:bB}{D:ae}(keep:Nat->Bool)(f:Nat->V)(S:St->Prop)(bC:x.cps.size<=bY)(bu:S gJ)(dH:H D=aw)
  (aT:∀c,c∈x.cps.toList->∀cz H1,S cz->eD H H1->∀(R:St->V->au->Prop)(AP:St->au->Prop),(∀b7,S b7->if keep c=ah then R b7 (f c) H1 else AP b7 H1)->g (.str ⟨#[c]⟩) cz H1 fun b7 ax=>gy b7 ax fun b bA=>if b=ah then cG b7 bA fun y hF=>R b7 y hF else AP b7 bA)
  (aW:Q (.ref D) (upd H D (.lst ((x.cps.toList.filter keep).map f)))) :
  qk (vr x) g gy cG Q gJ H D:=by
 have bo:x.cps.toList.length=x.cps.size:=h5
 refine⟨fun i m cz ax=>i<=x.cps.size/\m=x.cps.size-i/\S cz/\ax=upd H D (.lst (((x.cps.toList.take i).filter keep).map f)),⟨x.cps.size,UF _,I,bu,I⟩,?_⟩
 rintro i m cz ax ⟨aj,rfl,aq,rfl⟩
 rcases j4 i x.cps.size with z|z
 ·refine .inr ⟨z,?_⟩
  rintro y bA ⟨rfl,c,hc,rfl⟩
  have pR:x.cps.toList[i]?=J c:=by rw[Array.getElem?_toList];exact hc
  refine aT c (kl pR) cz _ aq (dq dH) (fun b7 y fS=>∃bb b8,fS D=J (.lst bb)/\bb.length<bY/\b8<x.cps.size-i/\(i+1<=x.cps.size/\b8=x.cps.size-(i+1)/\S b7/\upd fS D (.lst (bb++[y]))=upd H D (.lst (((x.cps.toList.take (i+1)).filter keep).map f))))
   (fun b7 gb=>∃b8,b8<x.cps.size-i/\(i+1<=x.cps.size/\b8=x.cps.size-(i+1)/\S b7/\gb=upd H D (.lst (((x.cps.toList.take (i+1)).filter keep).map f)))) fun b7 gq=>?_
  have ll:x.cps.toList.take (i+1)=x.cps.toList.take i++[c]:=by rw[oi,pR];rfl
  by_cases hk:keep c=ah
  ·rw[if_pos hk]
   refine⟨_,x.cps.size-(i+1),aQ,?_,by omega,by omega,rfl,gq,?_⟩
   ·rw[cC]
    have:=List.length_filter_le keep (x.cps.toList.take i)
    rw[hb]at this;omega
   .rw[iv,ll,List.filter_append,fk,List.filter_cons_of_pos hk];rfl
  ·rw[if_neg hk]
   refine⟨x.cps.size-(i+1),by omega,by omega,rfl,gq,?_⟩
   rw[ll,List.filter_append,fk,List.filter_cons_of_neg hk];simp
 ·have e:i=x.cps.size:=by omega
  subst e
  rw[UV (by omega)]
  exact .inl ⟨cE _,aW⟩
theorem Nt{x:af}{Q:bB}{D:ae}(f:Nat->V)(S:St->Prop)(bC:x.cps.size<=bY)(bu:S gJ)(dH:H D=aw)
  (aT:∀c,c∈x.cps.toList->∀cz H1,S cz->eD H H1->∀R:St->V->au->Prop,(∀b7,S b7->R b7 (f c) H1)->g (.str ⟨#[c]⟩) cz H1 fun b7 ax=>cG b7 ax fun y hF=>R b7 y hF)
  (aW:Q (.ref D) (upd H D (.lst (x.cps.toList.map f)))) :
  qk (vr x) g sU cG Q gJ H D:=by
 refine aan (fun _=>ah) f S bC bu dH (fun c hc cz H1 b2 hs R AP cJ=>?_) (by rw[List.filter_eq_self.mpr fun _ _=>rfl];exact aW)
 exact aT c hc cz H1 b2 hs R fun b7 aq=>by have:=cJ b7 aq;rwa [if_pos rfl]at this
structure Ext(H H':au):Prop where
 s:eD H H'
 c:kF H->kF H'
theorem Ext.refl(H:au):Ext H H:=⟨eD.refl _,id⟩
variable {A B:au}
theorem Ext.trans{C:au}(a:Ext A B)(b:Ext B C):Ext A C:=⟨a.s.trans b.s,fun z=>b.c (a.c z)⟩
theorem Ext.new(h:H p=aw)(aK:nd (upd H p o) p o):Ext H (upd H p o):=⟨dq h,fun c=>tl c h aK⟩
theorem Ext.lst(h:H p=aw):Ext H (upd H p (.lst xs)) :=.new h trivial
theorem Ext.tup(h:H p=aw):Ext H (upd H p (.tup xs)) :=.new h trivial
theorem Ext.exc{d:Option ae}(h:H p=aw):Ext H (upd H p (iK p C d)) :=.new h trivial
theorem Ext.made{x al:ae}{fs:List (af×V)}(aj:H x=aw)(aq:H al=aw)(bl:al≠x):Ext H (upd (upd H al (.own x)) x (.ins C al fs)):=by
 have ay:upd H al (.own x) x=aw:=by rw[bO (ea bl)];exact aj
 refine⟨(dq aq).trans (dq ay),fun c=>tl (tl c aq trivial) ay ?_⟩
 show upd (upd H al (.own x)) x (.ins C al fs) al=J (.own x)
 rw[bO bl];exact aQ
theorem Ext.sub(e:Ext H H'):Sub H H' H' :=.all (fun b o h=>⟨o,e.s b o h⟩) e.c
theorem wc(x y:af):(x++y).cps.toList=x.cps.toList++y.cps.toList:=Array.toList_append
theorem pB(x y:af):(x++y).length=x.length+y.length:=Array.size_append
structure mr(n:Nat)(S:List Nat)(x:af):Prop where
 n:x.length<=n
 s:∀c,c∈x.cps.toList->c∈S
theorem mr.app{x y:af}(h:mr n S x)(h':mr m S y):mr (n+m) S (x++y):=⟨by rw[pB];have:=h.n;have:=h'.n;omega,fun c hc=>by
 rw[wc]at hc
 exact(List.mem_append.mp hc).elim (h.s c) (h'.s c)⟩
variable {c:Nat}
theorem mr.one(h:c∈S):mr 1 S ⟨#[c]⟩:=⟨cE _,fun d hd=>by rw[fU.mp hd];exact h⟩
theorem mr.slice{x:af}(h:mr n S x)(lo aC:Option Int):mr n S (Txt.slice x lo aC):=by
 have e:=gc.vV x lo aC
 refine⟨?_,fun c hc=>h.s c ?_⟩
 ·have aL:=congrArg List.length e
  rw[hb,kn]at aL
  have dS:(Txt.slice x lo aC).cps.toList.length=(Txt.slice x lo aC).length:=h5
  have eZ:x.cps.toList.length=x.length:=h5
  have:=h.n
  omega
 ·rw[e]at hc
  exact List.mem_of_mem_drop (List.mem_of_mem_take hc)
theorem L6(x:af)(k:Nat)(h:k<=x.length):(Txt.slice x aw (J (k:Int))).length=k:=by
 have aL:=congrArg List.length (gc.vV x aw (J (k:Int)))
 rw[ek.zK,ek.zL,List.drop_zero,hb]at aL
 have dS:(Txt.slice x aw (J (k:Int))).cps.toList.length=(Txt.slice x aw (J (k:Int))).length:=h5
 have eZ:x.cps.toList.length=x.length:=h5
 omega
theorem LW(x:af)(k:Nat)(h:k<=x.length):(Txt.slice x (J (k:Int)) aw).length=x.length-k:=by
 have aL:=congrArg List.length (gc.vV x (J (k:Int)) aw)
 rw[ek.zK,ek.zL,hb,kn]at aL
 have dS:(Txt.slice x (J (k:Int)) aw).cps.toList.length=(Txt.slice x (J (k:Int)) aw).length:=h5
 have eZ:x.cps.toList.length=x.length:=h5
 omega
theorem Vx{x:af}(h:k<x.length):∃c,c∈x.cps.toList/\eG x.cps.toList ((k:Nat):Int)=J c:=by
 have h':k<x.cps.toList.length:=by rw[h5];exact h
 exact⟨x.cps.toList[k],List.getElem_mem h',dA (dR h')⟩
noncomputable def Ck(ns:List af):Nat:=(gn (fun i=>ns.getD i af.empty) ns.length).length
noncomputable def Cm(s:af):Nat:=(gn (signsOf s) s.cps.size).length
theorem V1(ns:List af):Ck ns<=ns.length:=yh ..
theorem V0(s:af):Cm s<=s.length:=yh ..
theorem Mj(ns:List af):((List.range ns.length).map fun i=>V.str (ns.getD i af.empty))=ns.map V.str:=by
 apply List.ext_getElem
 .rw[cC,mu,cC]
 ·intro i aj aq
  rw[cC]at aq
  rw[ko,ko,List.getElem_range,fu,dR aq];rfl
theorem Yt(h:dE K H a (ns.map V.str)):EL K H (.ref a) (fun i=>ns.getD i af.empty) ns.length :=.inl ⟨a,rfl,by rw[Mj];exact h⟩
theorem Y0(s:af):EL K H (.str s) (signsOf s) s.cps.size :=.inr ⟨s,rfl,rfl,rfl⟩
noncomputable def kj:af:="abcdefghijklmnopqrstuvwxyz"
noncomputable def qr:af:="abcdefghijklmnopqrstuvwxyzABCDEFGHIJKLMNOPQRSTUVWXYZ0123456789"
noncomputable def nF(t s:af):Bool:=t.cps.toList.all fun c=>decide (c∈s.cps.toList)
theorem Vz:qr.length=62:=by decide+kernel
theorem G4:kj.length=26:=by decide+kernel
noncomputable def kR(s:af):Bool:=decide (s.length≠0/\s.length<=60/\Cm s=s.length)&&nF s qr
noncomputable def isName(n:af):Bool:=decide (0<n.length/\n.length<=12)&&nF n kj
noncomputable def jP(ns:List af):Bool:=decide (ns.length≠0/\ns.length<=20/\Ck ns=ns.length)&&ns.all isName
theorem UK(s:af):s=af.ofString ""↔s.length=0:=by
 have e:af.ofString ""=⟨#[]⟩:=by decide+kernel
 rw[e]
 constructor
 .rintro rfl;rfl
 ·intro h
  obtain⟨c⟩:=s
  have:c=#[]:=Array.eq_empty_of_size_eq_zero h
  rw[this]
theorem BB{b:ae}{x y:c2}(h:a≠b):upd (upd H a x) b y=upd (upd H b y) a x:=by
 funext c
 by_cases aj:c=b
 ·subst aj
  rw[aQ,bO (ea h),aQ]
 ·rw[bO aj]
  by_cases aq:c=a
  ·subst aq
   rw[aQ,aQ]
  .rw[bO aq,bO aq,bO aj]
variable {l:List V}
theorem x7{D:ae}(h:H D=J (.lst l))(c:kF H):kF (upd H D (.lst kA)):=fun b u e=>by
 by_cases z:b=D
 .subst z;rw[aQ]at e;cases e;trivial
 ·rw[bO z]at e
  have uN:=c b u e
  clear e
  induction u with
  |ins C al fs =>
   have lB:H al=J (.own b):=uN
   show upd H D (.lst kA) al=J (.own b)
   rw[bO fun z=>by rw[z,h]at lB;cases lB]
   exact lB
  |i1 dN u cM=>exact cM uN
  |_=>trivial
theorem Ext.set{D:ae}(bu:H D=aw)(e:Ext H H')(h:H' D=J (.lst l)):Ext H (upd H' D (.lst kA)) :=
 ⟨fun b u q=>by rw[bO (eN q bu)];exact e.s b u q,fun c=>x7 h (e.c c)⟩
theorem Ve(h:k<n):oT n ((k:Nat):Int)=J k:=by
 have:eG (List.range n) ((k:Nat):Int)=J k:=dA (by rw[List.getElem?_range h])
 unfold eG at this
 rw[mu]at this
 cases ay:oT n ((k:Nat):Int)with
 |none=>rw[ay]at this;cases this
 |some j =>
  rw[ay,Option.bind_some]at this
  rw[km]at this
  obtain⟨_,z⟩:=this
  rw[List.getElem_range]at z
  rw[z]
theorem Gp(val:Nat->af):∀n k,k∈gn val n->∃i,i<n/\k=val i
 |0,k,h=>by cases h
 | n+1,k,h=>by
  unfold gn at h
  by_cases z:val n∈gn val n
  ·rw[if_pos z]at h
   obtain⟨i,aC,e⟩:=Gp val n k h
   exact⟨i,by omega,e⟩
  ·rw[if_neg z]at h
   rcases List.mem_append.mp h with y|y
   ·obtain⟨i,aC,e⟩:=Gp val n k y
    exact⟨i,by omega,e⟩
   .exact⟨n,Nat.lt_succ_self _,fU.mp y⟩
theorem Gq(val:Nat->af):∀n,(∀i j,i<n->j<n->val i=val j->i=j)->(gn val n).length=n
 |0,_=>rfl
 | n+1,h=>by
  unfold gn
  have z:val n∉gn val n:=fun z=>by
   obtain⟨i,aC,e⟩:=Gp val n _ z
   have:=h n i (Nat.lt_succ_self _) (by omega) e
   omega
  rw[if_neg z,cD,Gq val n fun i j aC cv e=>h i j (by omega) (by omega) e]
  rfl
theorem aab{s:af}(h:s.cps.toList.Nodup):Cm s=s.length:=by
 refine Gq _ _ fun i j aC cv e=>?_
 unfold signsOf at e
 injection e with e
 have e:=congrArg (fun a=>a[0]?) e
 simp only[List.getElem?_toArray,List.getElem?_cons_zero,Option.some.injEq]at e
 have uu:i<s.cps.toList.length:=by rw[h5];exact aC
 have adv:j<s.cps.toList.length:=by rw[h5];exact cv
 have g:∀k(hk:k<s.cps.toList.length),s.cps.getD k 0=s.cps.toList[k]:=fun k hk=>by
  rw[Array.getD_eq_getD_getElem?,<-Array.getElem?_toList,dR hk];rfl
 rw[g i uu,g j adv]at e
 exact(List.getElem_inj h).mp e
theorem aac(h:ns.Nodup):Ck ns=ns.length:=by
 refine Gq _ _ fun i j aC cv e=>?_
 have g:∀k(hk:k<ns.length),ns.getD k af.empty=ns[k]:=fun k hk=>by
  rw[fu,dR hk];rfl
 rw[g i aC,g j cv]at e
 exact(List.getElem_inj h).mp e
theorem aaA:qr.cps.toList.Nodup:=by decide+kernel
theorem aaB:kj.cps.toList.Nodup:=by decide+kernel
theorem Zq{f r:af}(h:(f.cps.toList++r.cps.toList).Perm qr.cps.toList)(bu:f.length≠0)(aj:f.length<=60):kR f=ah:=by
 have bp:(f.cps.toList++r.cps.toList).Nodup:=h.nodup_iff.mpr aaA
 have jV:f.cps.toList.Nodup:=(List.nodup_append.mp bp).1
 unfold kR
 rw[d6 ⟨bu,aj,aab jV⟩,Bool.true_and]
 unfold nF
 rw[jf]
 exact fun c hc=>d6 (h.mem_iff.mp (List.mem_append_left _ hc))
theorem ZM{f r a b:List Nat}{x:Nat}(e:r=a++x::b):((f++[x])++(a++b)).Perm (f++r):=by
 subst e
 rw[e2]
 exact List.Perm.append_left f (List.perm_middle (a:=x) (l₁:=a) (l₂:=b)).symm
theorem ZG{x:af}(h:k<x.length):∃c,eG x.cps.toList ((k:Nat):Int)=J c/\x.cps.toList=(Txt.slice x aw (J (k:Int))).cps.toList++c::(Txt.slice x (J ((k+1:Nat):Int)) aw).cps.toList:=by
 have eZ:x.cps.toList.length=x.length:=h5
 have h':k<x.cps.toList.length:=by omega
 refine⟨x.cps.toList[k],dA (dR h'),?_⟩
 rw[gc.vV,gc.vV,ek.zK,ek.zL,ek.zL,ek.zK,List.drop_zero,Nat.sub_zero,Nat.min_eq_left (by omega),Nat.min_eq_left (by omega),UV (l:=List.drop (k+1) _) (by rw[kn];omega)]
 rw[<-AY h',List.take_append_drop]
theorem U9{s:af}{a:Int}{d:Nat}(e:(Txt.slice s aw (J a)++⟨#[c]⟩)++Txt.slice s (J a) aw=(Txt.slice s aw (J a)++⟨#[d]⟩)++Txt.slice s (J a) aw):c=d:=by
 have e:=congrArg (fun x=>x.cps.toList) e
 simp only[wc]at e
 have e:=List.append_cancel_right e
 have e:=List.append_cancel_left e
 have:[c]=[d]:=e
 exact List.head_eq_of_cons_eq this
theorem TG{f x:Int}(ay:x∈([1,3,5,7,9,11]:List Int))(aC:i<26)(cv:j<26)(e:(f+(0+((i:Nat):Int))*x)%26=(f+(0+((j:Nat):Int))*x)%26):i=j:=by
 have aes:x=1\/x=3\/x=5\/x=7\/x=9\/x=11:=by simpa using ay
 rcases aes with rfl|rfl|rfl|rfl|rfl|rfl<;>omega
theorem ZW{n:af}(h:mr 12 kj.cps.toList n)(bu:0<n.length):isName n=ah:=by
 unfold isName
 rw[d6 ⟨bu,h.n⟩,Bool.true_and]
 unfold nF
 rw[jf]
 exact fun c hc=>d6 (h.s c hc)
theorem Ym(bu:ns.length≠0)(aj:ns.length<=20)(bo:ns.Nodup)(hs:∀n,n∈ns->isName n=ah):jP ns=ah:=by
 unfold jP
 rw[d6 ⟨bu,aj,aac bo⟩,Bool.true_and,jf]
 exact hs
theorem Zo{n:af}(h:isName n=ah):n.length<=12:=by
 unfold isName at h
 simp only[hK,jJ]at h
 exact h.1.2
theorem oo(h:jP ns=ah):ns.length<=20/\∀n,n∈ns->n.length<=12:=by
 unfold jP at h
 simp only[hK,jJ,jf]at h
 exact⟨h.1.2.1,fun n bo=>Zo (h.2 n bo)⟩
structure dy(p:ae)(H H':au):Prop where
 k:∀b u,b≠p->H b=J u->H' b=J u
 l:∃ns:List Int,H' p=J (.lst (ns.map V.int))/\ns.length<=90
 c:kF H->kF H'
def lM(p:ae)(H:au):Prop:=∃ns:List Int,H p=J (.lst (ns.map V.int))/\ns.length<=90
theorem dy.refl(h:lM p H):dy p H H:=⟨fun _ _ _ e=>e,h,id⟩
theorem dy.trans{C:au}(a:dy p A B)(b:dy p B C):dy p A C:=⟨fun x u n e=>b.k x u n (a.k x u n e),b.l,fun c=>b.c (a.c c)⟩
theorem dy.ext{C:au}(a:dy p A B)(b:Ext B C):dy p A C:=by
 obtain⟨ns,h,bo⟩:=a.l
 exact⟨fun x u n e=>b.s x u (a.k x u n e),⟨ns,b.s _ _ h,bo⟩,fun c=>b.c (a.c c)⟩
theorem dy.pop{ns:List Int}(h:lM p H)(bo:ns.length<=90):dy p H (upd H p (.lst (ns.map V.int))):=by
 obtain⟨ms,e,_⟩:=h
 exact⟨fun b u nb q=>by rw[bO nb];exact q,⟨ns,aQ,bo⟩,fun c=>x7 e c⟩
theorem dy.sub(h:dy p H H'):Sub H H' H' :=.all (fun b o e=>by
 by_cases z:b=p
 ·subst z
  obtain⟨ns,e,_⟩:=h.l
  exact⟨_,e⟩
 .exact⟨o,h.k b o z e⟩) h.c
theorem dy.free{b:ae}(h:dy p H H')(e:H' b=aw):H b=aw:=by
 cases z:H b with
 |none=>rfl
 | some u =>
  by_cases y:b=p
  ·subst y
   obtain⟨ns,q,_⟩:=h.l
   rw[e]at q;cases q
  .rw[h.k b u y z]at e;cases e
theorem bD.none{x:af}{st:br}{sp:b3}(F:dx K mg x st ps f fd)(h:∀vs H Q E,¬sp vs H Q E):bD P w K mg base k x ps sp :=
 ⟨f,fd,⟨fun vs H Q E q=>absurd q (h _ _ _ _),fun A outer s H args us vs Q E _ _ _ _ q=>absurd q (h _ _ _ _)⟩,F.2.1,F.1.iD,F.2.2⟩
theorem dy.set{l:ae}(g:dy p H H')(bu:H l=aw)(h:H' l=J (.lst xs))(aB:l≠p):dy p H (upd H' l (.lst bb)):=by
 obtain⟨ns,e,bo⟩:=g.l
 exact⟨fun b u nb q=>by rw[bO (eN q bu)];exact g.k b u nb q,⟨ns,by rw[bO (ea aB)];exact e,bo⟩,fun c=>x7 h (g.c c)⟩
theorem dy.ne{l:ae}(g:dy p H H')(h:H' l=aw):l≠p:=fun z=>by
 obtain⟨ns,e,_⟩:=g.l
 rw[z,e]at h;cases h
section
variable {X:bz}
noncomputable def ai1:V->List V->au->bB->Prop:=fun x vs H Q=>∃(l:ae)(ws:List af)(w:af)(k:Nat),x=.ref l/\vs=[.str w]/\H l=J (.lst (ws.map V.str))/\ws[k]?=J w/\(∀j,j<k->ws[j]?≠J w)/\ws.length<100000/\Q (.int ((k:Nat):Int)) H
theorem MI:tq X "list.index" ai1:=by
 intro ak s ab H x vs v us Q aa bt dO h
 obtain⟨l,ws,w,k,rfl,rfl,g4,hk,y5,bC,q⟩:=h
 cases bt
 obtain⟨sW,rfl,⟨t,rfl⟩⟩:=vals1 dO
 obtain⟨z,bq,n,mb,aB,e⟩:=aa.sr g4
 have cL:=mb.length
 rw[cC]at cL
 have al8:k<ws.length:=(km.mp hk).1
 have jr:∀(j:Nat)(cv:j<bq.length),∃t',bq[j] =.str (ws[j]'(by omega)) t':=fun j cv=>by
  obtain⟨u,dY,gS⟩:=mb.get (i:=j) (x :=.str (ws[j]'(by omega))) (by rw[gf,dR (by omega)];rfl)
  rw[dR cv]at dY
  obtain⟨t',aee⟩:=(show ∃t,u=ao.str _ t from gS)
  exact⟨t',by rw[<-aee];exact gX dY⟩
 let pJ:ao->Bool:=fun y=>match y with|.str a _=>decide (a=w)|_=>ag
 have he:∀y,y∈bq.toArray->MeetsSeq.EqGives y (.str w t) (pJ y):=fun y bP=>by
  obtain⟨j,cv,rfl⟩:=List.mem_iff_getElem.mp (List.mem_toArray.mp bP)
  obtain⟨t',e'⟩:=jr j cv
  rw[e']
  exact Vm _ _ _ _
 have se:pJ (bq.toArray[k]'(by rw[fW];omega))=ah:=by
  obtain⟨t',e'⟩:=jr k (by omega)
  rw[List.getElem_toArray,e']
  have:=(km.mp hk).2
  show decide (_=_)=ah
  rw[this];exact d6 I
 have adS:∀m(hm:m<bq.toArray.size),m<k->pJ bq.toArray[m]=ag:=fun m hm adK=>by
  rw[fW]at hm
  obtain⟨t',e'⟩:=jr m hm
  rw[List.getElem_toArray,e']
  show decide (_=_)=ag
  refine gu fun z=>y5 m adK ?_
  rw[dR (by omega),z]
 refine call_meets F.slot_list_index ⟨_,e,I⟩ F.entry_list_index (F.args_list_index_2 _ _) (MeetsSeq.list_index l bq.toArray n (.str w t) pJ he k (by rw[fW];omega) (by omega) se adS) ⟨e,?_⟩
 exact⟨.int _,H,aa.tok _,⟨_,I⟩,q⟩
end
inductive bF where
 |bare (k:Fin 4)
 |sp (a b:Int)
 |le (s:af)
 |one (k:Fin 3) (f:bF)
 |two (k:Fin 2) (ns:List af) (fs:List bF)
noncomputable def lV(s:String):List Nat:=(af.ofString s).cps.toList
noncomputable def num(a:Int):List Nat:=(af.ofString (toString a)).cps.toList
noncomputable def aa3(k:Fin 4):af:=[af.ofString "nothing",af.ofString "truth",af.ofString "whole",af.ofString "fraction"][k]
noncomputable def uN(k:Fin 3):af:=[af.ofString "maybe",af.ofString "many",af.ofString "turned"][k]
noncomputable def DP(k:Fin 2):af:=[af.ofString "record",af.ofString "choice"][k]
mutual
noncomputable def kZ:bF->List Nat
 |.bare k=>(aa3 k).cps.toList
 |.sp a b=>lV "span"++(lV "("++((num a++(lV ", "++num b))++lV ")"))
 |.le s=>lV "letters"++(lV "("++(s.cps.toList++lV ")"))
 |.one k f=>(uN k).cps.toList++(lV "("++(kZ f++lV ")"))
 |.two k ns fs=>(DP k).cps.toList++(lV "("++(Jw fs ns++lV ")"))
noncomputable def Jw:List bF->List af->List Nat
 |[],_=>[]
 |f::fs,ns=>(ns.headD af.empty).cps.toList++(lV " "++(kZ f++(match fs with|[]=>[]|_::_=>lV ", "++Jw fs ns.tail)))
end
mutual
noncomputable def aT:bF->Nat
 |.bare _=>1
 |.sp _ _=>1
 |.le _=>1
 |.one _ f=>aT f+1
 |.two _ _ fs=>hA fs+1
noncomputable def hA:List bF->Nat
 |[]=>0
 |f::fs=>max (aT f) (hA fs)
end
mutual
noncomputable def fq:bF->Prop
 |.bare _=>True
 |.sp a b=>a<=b/\a.natAbs<10^58/\b.natAbs<10^58
 |.le s=>kR s=ah/\s.length<=60
 |.one _ f=>fq f
 |.two _ ns fs=>jP ns=ah/\ns.length=fs.length/\fF fs
noncomputable def fF:List bF->Prop
 |[]=>True
 |f::fs=>fq f/\fF fs
end
structure dP where
 b:Fin 4->ae
 s:ae
 l:ae
 o:Fin 3->ae
 t:Fin 2->ae
mutual
noncomputable def b0(c:dP)(X:List ae)(H:au):bF->ae->Prop
 |.bare k,o=>o∉X/\∃al,H o=J (.ins (c.b k) al [])
 |.sp a b,o=>o∉X/\∃al,H o=J (.ins c.s al [("low",.int a),("high",.int b)])
 |.le s,o=>o∉X/\∃al,H o=J (.ins c.l al [("signs",.str s)])
 |.one k f,o=>o∉X/\∃al i,H o=J (.ins (c.o k) al [("inner",.ref i)])/\b0 c X H f i
 |.two k ns fs,o=>o∉X/\∃al eJ e0 os,H o=J (.ins (c.t k) al [("names",.ref eJ),("forms",.ref e0)])/\eJ∉X/\e0∉X/\H eJ=J (.lst (ns.map V.str))/\H e0=J (.lst (os.map V.ref))/\eL c X H fs os
noncomputable def eL(c:dP)(X:List ae)(H:au):List bF->List ae->Prop
 |[],os=>os=[]
 |f::fs,os=>∃o r,os=o::r/\b0 c X H f o/\eL c X H fs r
end
def ij(P:c1)(w:cH)(K:bN)(mg:af->Option ao)(base:bc)(k:Nat)(m:af)(ps:List af){lD:Type}(cl:lD->ae)(sp:lD->b3):Prop:=∀i,mm P w K mg base k (cl i) m ps (sp i)/\fz K (cl i)
section
variable {X:bz} {k eH:Nat} {m:af} {ps:List af} {lD:Type} {cl:lD->ae} {sp:lD->b3} {e o:b5} {aZ:List b5} {t:gL} {b4:TE} {aR apos:Pos}
inductive Ez{lD:Type}(cl:lD->ae)(m:af)(x:V)(H:au)(R:lD->Prop):Prop where
 |mk (a:ae) (i:lD) (al:ae) (fs:List (af×V)) (e:x=.ref a) (h:H a=J (.ins (cl i) al fs)) (l:fs.lookup m=aw) (q:R i):Ez cl m x H R
theorem jh{pl:Sem Bool}(h:ij X.prog X.w X.K X.mg X.base k m ps cl sp)(az:fj eH X.A)(he:bX X o b4)(bf:hH X (e::aZ) t)(hk:k<=eH:=by decide)
  (jT:dt (e::aZ) X.env=(ag,eval e X.env)::dt aZ X.env:=by rfl) (gk:(backTo aR (dt aZ X.env)).any (·.1)=ag:=by rfl)
  (aT:eval (.Call (.Attribute o m apos) (e::aZ) [] aR) X.env=(do
   let ov <-eval o X.env
   standAt apos.atName
   let (f,first) <-holding [ov] (getMethod ov m pl)
   callWith aR f first (backTo aR (dt (e::aZ) X.env)) (backToKw aR (rl [] X.env))):=by rfl) :
  bX X (.Call (.Attribute o m apos) (e::aZ) [] aR) (fun ab H Q=>b4 ab H fun x H1=>Ez cl m x H1 fun i=>t ab H1 fun vs ax=>sp i (x::vs) ax Q iJ):=by
 intro ak s ab H Q aa aW
 refine z7 (pl:=pl) (cA (he ak s ab H _ aa aW) fun u s1 bE=>?_) aT
 obtain⟨x,H1,aU,bt,a,i,al,fs,ex,dd,l,q⟩:=bE
 subst ex
 obtain rfl:u=ao.ref a:=bt
 obtain⟨⟨f,fd,F,ar,hm⟩,c⟩:=h i
 refine x5 aU dd c hm l ?_
 refine xy (first:=[.ref a]) (h₀:=X.base) aa.ok.mod.q4 hm.iD (cA (bf aR ak s1 ab H1 _ aU q) fun us s2 bE=>?_) jT gk
 obtain⟨vs,ax,bJ,r,cN⟩:=bE
 refine ⟨bJ.eI,?_⟩
 exact BY (us :=.ref a::us) (vs :=.ref a::vs) (dvs:=[]) (ds:=[]) F (az.mono hk) ar .nil zD bJ (.cons I r) (by rw[List.append_nil];exact cN)
end
structure b6(iy:ae)(H H':au):Prop where
 k:∀b u,b≠iy->H b=J u->H' b=J u
 c:kF H->kF H'
theorem b6.refl(iy:ae)(H:au):b6 iy H H:=⟨fun _ _ _ e=>e,id⟩
theorem b6.trans{C:au}(a:b6 iy A B)(b:b6 iy B C):b6 iy A C:=⟨fun x u n e=>b.k x u n (a.k x u n e),fun c=>b.c (a.c c)⟩
theorem b6.ext{C:au}(a:b6 iy A B)(b:Ext B C):b6 iy A C:=⟨fun x u n e=>b.s x u (a.k x u n e),fun c=>b.c (a.c c)⟩
theorem b6.move{al:ae}{fs:List (af×V)}(h:H iy=J (.ins C al fs)):b6 iy H (upd H iy (.ins C al uf)) :=
 ⟨fun b u nb e=>by rw[bO nb];exact e,(Sub.ins (H':=upd H iy (.ins C al uf)) h (fun b u nb e=>by rw[bO nb];exact e) aQ).cl⟩
theorem b6.sub(h:b6 iy H H')(e:H' iy=J o):Sub H H' H' :=.all (fun b u q=>by
 by_cases z:b=iy
 .subst z;exact⟨_,e⟩
 .exact⟨u,h.k b u z q⟩) h.c
theorem b6.free{b:ae}(h:b6 iy H H')(e:H' iy=J o)(q:H' b=aw):H b=aw:=by
 cases z:H b with
 |none=>rfl
 |some u =>
  by_cases y:b=iy
  .subst y;rw[e]at q;cases q
  .rw[h.k b u y z]at q;cases q
mutual
theorem b0.keep{c:dP}{X:List ae}{H H':au}(k:∀b u,b∉X->H b=J u->H' b=J u):∀(f:bF){o:ae},b0 c X H f o->b0 c X H' f o
 |.bare i,o,h=>by
  obtain⟨n,al,e⟩:=h
  exact⟨n,al,k _ _ n e⟩
 |.sp a b,o,h=>by
  obtain⟨n,al,e⟩:=h
  exact⟨n,al,k _ _ n e⟩
 |.le s,o,h=>by
  obtain⟨n,al,e⟩:=h
  exact⟨n,al,k _ _ n e⟩
 |.one i f,o,h=>by
  obtain⟨n,al,j,e,q⟩:=h
  exact⟨n,al,j,k _ _ n e,b0.keep k f q⟩
 |.two i ns fs,o,h=>by
  obtain⟨n,al,eJ,e0,os,e,fo,en,aI,aL,q⟩:=h
  exact⟨n,al,eJ,e0,os,k _ _ n e,fo,en,k _ _ fo aI,k _ _ en aL,eL.keep k fs q⟩
theorem eL.keep{c:dP}{X:List ae}{H H':au}(k:∀b u,b∉X->H b=J u->H' b=J u):∀(fs:List bF){os:List ae},eL c X H fs os->eL c X H' fs os
 |[],os,h=>h
 |f::fs,os,h=>by
  obtain⟨o,r,e,q,cN⟩:=h
  exact⟨o,r,e,b0.keep k f q,eL.keep k fs cN⟩
end
mutual
theorem b0.weak{c:dP}{X Y:List ae}{H:au}(hs:∀x,x∈X->x∈Y):∀(f:bF){o:ae},b0 c Y H f o->b0 c X H f o
 |.bare i,o,h=>⟨fun z=>h.1 (hs _ z),h.2⟩
 |.sp a b,o,h=>⟨fun z=>h.1 (hs _ z),h.2⟩
 |.le s,o,h=>⟨fun z=>h.1 (hs _ z),h.2⟩
 |.one i f,o,h=>by
  obtain⟨n,al,j,e,q⟩:=h
  exact⟨fun z=>n (hs _ z),al,j,e,b0.weak hs f q⟩
 |.two i ns fs,o,h=>by
  obtain⟨n,al,eJ,e0,os,e,fo,en,aI,aL,q⟩:=h
  exact⟨fun z=>n (hs _ z),al,eJ,e0,os,e,fun z=>fo (hs _ z),fun z=>en (hs _ z),aI,aL,eL.weak hs fs q⟩
theorem eL.weak{c:dP}{X Y:List ae}{H:au}(hs:∀x,x∈X->x∈Y):∀(fs:List bF){os:List ae},eL c Y H fs os->eL c X H fs os
 |[],os,h=>h
 |f::fs,os,h=>by
  obtain⟨o,r,e,q,cN⟩:=h
  exact⟨o,r,e,b0.weak hs f q,eL.weak hs fs cN⟩
end
theorem eL.len{c:dP}{X:List ae}{H:au}:∀(fs:List bF){os:List ae},eL c X H fs os->os.length=fs.length
 |[],os,h=>by
  obtain rfl:os=[]:=h
  rfl
 |g::fs,os,h=>by
  obtain⟨ee,r,rfl,q,cN⟩:=h
  rw[dZ,eL.len fs cN];rfl
noncomputable def bd:bF->List Nat
 |.bare _=>[]
 |.sp a b=>num a++(lV ", "++num b)
 |.le s=>s.cps.toList
 |.one _ f=>kZ f
 |.two _ ns fs=>Jw fs ns
theorem ys:∀f:bF,1<=aT f
 |.bare _=>by rw[aT];exact cE _
 |.sp _ _=>by rw[aT];exact cE _
 |.le _=>by rw[aT];exact cE _
 |.one _ f=>by rw[aT];omega
 |.two _ _ fs=>by rw[aT];omega
mutual
theorem b0.add{c:dP}{X:List ae}{H:au}{l:ae}(aB:H l=aw):∀(f:bF){o:ae},b0 c X H f o->b0 c (l::X) H f o
 |.bare i,o,h=>by
  obtain⟨n,al,e⟩:=h
  exact⟨fun z=>(dz.mp z).elim (fun y=>by rw[y,aB]at e;cases e) n,al,e⟩
 |.sp a b,o,h=>by
  obtain⟨n,al,e⟩:=h
  exact⟨fun z=>(dz.mp z).elim (fun y=>by rw[y,aB]at e;cases e) n,al,e⟩
 |.le s,o,h=>by
  obtain⟨n,al,e⟩:=h
  exact⟨fun z=>(dz.mp z).elim (fun y=>by rw[y,aB]at e;cases e) n,al,e⟩
 |.one i f,o,h=>by
  obtain⟨n,al,j,e,q⟩:=h
  exact⟨fun z=>(dz.mp z).elim (fun y=>by rw[y,aB]at e;cases e) n,al,j,e,b0.add aB f q⟩
 |.two i ns fs,o,h=>by
  obtain⟨n,al,eJ,e0,os,e,fo,en,aI,aL,q⟩:=h
  exact⟨fun z=>(dz.mp z).elim (fun y=>by rw[y,aB]at e;cases e) n,al,eJ,e0,os,e,fun z=>(dz.mp z).elim (fun y=>by rw[y,aB]at aI;cases aI) fo,fun z=>(dz.mp z).elim (fun y=>by rw[y,aB]at aL;cases aL) en,aI,aL,eL.add aB fs q⟩
theorem eL.add{c:dP}{X:List ae}{H:au}{l:ae}(aB:H l=aw):∀(fs:List bF){os:List ae},eL c X H fs os->eL c (l::X) H fs os
 |[],os,h=>h
 |f::fs,os,h=>by
  obtain⟨o,r,e,q,cN⟩:=h
  exact⟨o,r,e,b0.add aB f q,eL.add aB fs cN⟩
end
inductive eW where
 |b (k:Fin 4)|s|l|o (k:Fin 3)|t (k:Fin 2)
noncomputable def eO(c:dP):eW->ae
 |.b k=>c.b k
 |.s=>c.s
 |.l=>c.l
 |.o k=>c.o k
 |.t k=>c.t k
noncomputable def slot:bF->eW
 |.bare k =>.b k
 |.sp _ _ =>.s
 |.le _ =>.l
 |.one k _ =>.o k
 |.two k _ _ =>.t k
variable {m:af}
theorem b0.ins{c:dP}(aj:(m == ("low":af))=ag)(aq:(m == ("high":af))=ag)(bl:(m == ("signs":af))=ag)(bW:(m == ("inner":af))=ag)(d0:(m == ("names":af))=ag)(jQ:(m == ("forms":af))=ag):
  ∀(f:bF){o:ae},b0 c X H f o->∃al fs,H o=J (.ins (eO c (slot f)) al fs)/\fs.lookup m=aw
 |.bare i,o,h=>by
  obtain⟨n,al,e⟩:=h
  exact⟨al,_,e,I⟩
 |.sp a b,o,h=>by
  obtain⟨n,al,e⟩:=h
  exact⟨al,_,e,by simp[List.lookup,aj,aq]⟩
 |.le s,o,h=>by
  obtain⟨n,al,e⟩:=h
  exact⟨al,_,e,by simp[List.lookup,bl]⟩
 |.one i f,o,h=>by
  obtain⟨n,al,j,e,q⟩:=h
  exact⟨al,_,e,by simp[List.lookup,bW]⟩
 |.two i ns fs,o,h=>by
  obtain⟨n,al,eJ,e0,os,e,_⟩:=h
  exact⟨al,_,e,by simp[List.lookup,d0,jQ]⟩
def ajy(t u:e1):e1:=fun D ab H=>∃dQ:St->au->Prop,t {D with nx:=dQ} ab H/\∀bU H',dQ bU H'->u D bU H'
variable {X:bz}
theorem BM{st:br}{rest:List br}{t u:e1}(aj:j3 X st t)(aq:ht X rest u):ht X (st::rest) (ajy t u):=by
 intro ak s ab H D aa h
 obtain⟨dQ,h,acP⟩:=h
 refine wpAny_execs_cons (cA (aj ak s ab H {D with nx:=dQ} aa h) fun f s1 q=>?_)
 cases f with
 |next =>
  obtain⟨bU,H',gz,q⟩:=q
  exact aq ak s1 bU H' D gz (acP _ _ q)
 |ret v=>exact q
 |brk=>exact q
 |cont=>exact q
inductive D where
 |bK
 |aN (b:Bool)
 |int (i:Int)
 |str (s:af)
 |tup (ds:List D)
 |lst (ds:List D)
mutual
noncomputable def h3(H:au):D->V->Prop
 |.bK,v=>v=.bK
 |.aN b,v=>v=.aN b
 |.int i,v=>v=.int i
 |.str s,v=>v=.str s/\s.length<=100000
 |.tup ds,v=>∃a vs,v=.ref a/\H a=J (.tup vs)/\gK H ds vs/\vs.length<=1000
 |.lst ds,v=>∃a vs,v=.ref a/\H a=J (.lst vs)/\gK H ds vs/\vs.length<=1000
noncomputable def gK(H:au):List D->List V->Prop
 |[],vs=>vs=[]
 |d::ds,vs=>∃v r,vs=v::r/\h3 H d v/\gK H ds r
end
mutual
theorem h3.same{H H':au}(s:eD H H'):∀(d:D){v:V},h3 H d v->h3 H' d v
 |.bK,v,h=>h
 |.aN b,v,h=>h
 |.int i,v,h=>h
 |.str t,v,h=>h
 |.tup ds,v,h=>by
  obtain⟨a,vs,e,gY,q,z⟩:=h
  exact⟨a,vs,e,s _ _ gY,gK.same s ds q,z⟩
 |.lst ds,v,h=>by
  obtain⟨a,vs,e,gY,q,z⟩:=h
  exact⟨a,vs,e,s _ _ gY,gK.same s ds q,z⟩
theorem gK.same{H H':au}(s:eD H H'):∀(ds:List D){vs:List V},gK H ds vs->gK H' ds vs
 |[],vs,h=>h
 |d::ds,vs,h=>by
  obtain⟨v,r,e,q,cN⟩:=h
  exact⟨v,r,e,h3.same s d q,gK.same s ds cN⟩
end
theorem gK.len{H:au}:∀(ds:List D){vs:List V},gK H ds vs->vs.length=ds.length
 |[],vs,h=>by
  obtain rfl:vs=[]:=h
  rfl
 |g::fs,vs,h=>by
  obtain⟨ee,r,rfl,q,cN⟩:=h
  rw[dZ,gK.len fs cN];rfl
theorem gK.get{H:au}:∀(ds:List D){vs:List V}{i:Nat}{v:V},gK H ds vs->vs[i]?=J v->∃d,ds[i]?=J d/\h3 H d v
 |[],vs,i,v,h,e=>by
  obtain rfl:vs=[]:=h
  cases e
 |d::ds,vs,0,v,h,e=>by
  obtain⟨ee,r,rfl,q,cN⟩:=h
  cases e
  exact⟨d,I,q⟩
 |d::ds,vs,i+1,v,h,e=>by
  obtain⟨ee,r,rfl,q,cN⟩:=h
  exact gK.get ds cN e
noncomputable def rh:D->String
 |.bK=>"NoneType"
 |.aN _=>"bool"
 |.int _=>"int"
 |.str _=>"str"
 |.tup _=>"tuple"
 |.lst _=>"list"
theorem h3.ty{d:D}{v:V}(h:h3 H d v):k8 K H v (.type (rh d)):=by
 cases d with
 |bK=>obtain rfl:v=.bK:=h;exact .bK
 |aN b=>obtain rfl:v=.aN b:=h;exact .aN b
 |int i=>obtain rfl:v=.int i:=h;exact .int i
 |str s=>obtain⟨rfl,_⟩:=h;exact .str s
 |tup ds=>obtain⟨a,vs,rfl,e,_⟩:=h;exact .tup e
 |lst ds=>obtain⟨a,vs,rfl,e,_⟩:=h;exact .lst e
noncomputable def aeI(d:D)(T:String):Bool:=rh d == T||(rh d == "bool"&&T == "int")
theorem BO(K:bN):∀a∈["NoneType","bool","int","str","tuple","list"],∀T∈["int","bool","str","tuple","list"],dn K (.type a) (.type T)=J (a == T||(a == "bool"&&T == "int")):=by
 intro a bf T cf
 have CF:a="NoneType"\/a="bool"\/a="int"\/a="str"\/a="tuple"\/a="list":=by simpa using bf
 have wN:T="int"\/T="bool"\/T="str"\/T="tuple"\/T="list":=by simpa using cf
 rcases CF with rfl|rfl|rfl|rfl|rfl|rfl<;>rcases wN with rfl|rfl|rfl|rfl|rfl<;>
  first
  |exact rH ..
  |(unfold dn;rw[if_neg (by decide)];unfold PySem.W.kitCls;kernel_rfl)
theorem q5(K:bN)(d:D){T:String}(cf:T∈["int","bool","str","tuple","list"]):dn K (.type (rh d)) (.type T)=J (aeI d T):=by
 refine BO K _ ?_ T cf
 cases d<;>simp[rh]
section
variable {X:bz}
noncomputable def Qa:V->Bool
 |.bK=>ah
 |.aN _=>ah
 |.int _=>ah
 |.str _=>ah
 |.ref _=>ah
 |_=>ag
theorem Hc:d5 X (h0 .Is) (fun x y H Q=>∃b,y=.aN b/\Qa x=ah/\Q (.aN (decide (x=.aN b))) H):=by
 intro ak s ab H x y v u Q aa bt cn h
 obtain⟨b,rfl,ay,q⟩:=h
 cases cn
 cases x with
 |bK=>cases bt;exact dD (eX aa q (by cases b<;>rfl))
 |aN c=>cases bt;cases b<;>cases c<;>exact dD (eX aa q I)
 |int i=>obtain⟨t,rfl⟩:=bt;exact dD (eX aa q (by cases b<;>rfl))
 |str i=>obtain⟨t,rfl⟩:=bt;exact dD (eX aa q (by cases b<;>rfl))
 |ref a=>cases bt;exact dD (eX aa q (by cases b<;>rfl))
 |_=>cases ay
end
variable {t:ae}
section
variable {prog:c1} {w:cH} {A:di} {E:ao->aJ->Prop} {s:aJ}
theorem XQ{x:ao}(se:s.heap.IsTupleIter it t i)(aT:s.heap.IsTuple t items)(ay:items[i]?=J x)(fY:∀h',h'.IsTupleIter it t (i+1)->bc.SameBut it s.heap h'->Q x {s with heap:=h'}):
  bM (model prog w) A (c6.SmallTypes.nextOf (.ref it)) Q E s:=by
 have ty:=se.typeIs
 have Pg:=se
 obtain⟨o,aK,hc,hd⟩:=se
 obtain⟨agG,IQ,_,agu,Iu⟩:=aT
 unfold c6.SmallTypes.nextOf
 refine bH (wpAny_callSpecial?_slot (name:=af.ofString "__next__") ty F.slot_tuple_iterator_next (wpAny_call_entry F.slot_tuple_iterator_next ty F.entry_tuple_iterator_next ?_ (F.args_tuple_iterator_next_1 _)))
 show bM _ _ (field (.ref it) 0 >>= _) _ _ s
 refine bH (ja aK hd (x :=.ref t) I ?_)
 have nn:¬((ao.ref t == ao.none)=ah):=hI
 show bM _ _ (if(ao.ref t == ao.none)=ah then _ else _) _ _ s
 rw[if_neg nn]
 show bM _ _ (field (.ref it) 1 >>= _) _ _ s
 refine bH (ja aK hd (x :=.int i 0) I ?_)
 show bM _ _ (seqItems? (.ref t) >>= _) _ _ s
 refine bH (s6 IQ Iu ?_)
 simp only[Int.toNat_natCast,ay]
 refine bH (s7 aK hd (by simp) (dD ⟨x,I,dD (fY _ ⟨_,bc.get?_update_self _ aK (bw.isFreed_of_fields (bw.data_mapFields hd _)),(bw.cls_mapFields ..).trans hc,?_⟩ (bc.SameBut.update ..))⟩))
 rw[bw.data_mapFields hd];simp[rawInt]
theorem Ys(fN:A.handled=aw)(se:s.heap.IsTupleIter it t i)(aT:s.heap.IsTuple t items)(ay:items[i]?=aw)(gG:∀h' e,bc.ExtBut it s.heap h'->(∃o,h'.get? e=J o/\o.cls=.type "StopIteration")->E (.ref e) {s with heap:=h'}):
  bM (model prog w) A (c6.SmallTypes.nextOf (.ref it)) Q E s:=by
 have ty:=se.typeIs
 obtain⟨o,aK,hc,hd⟩:=se
 obtain⟨agG,IQ,_,agu,Iu⟩:=aT
 unfold c6.SmallTypes.nextOf
 refine bH (wpAny_callSpecial?_slot (name:=af.ofString "__next__") ty F.slot_tuple_iterator_next (wpAny_call_entry F.slot_tuple_iterator_next ty F.entry_tuple_iterator_next ?_ (F.args_tuple_iterator_next_1 _)))
 show bM _ _ (field (.ref it) 0 >>= _) _ _ s
 refine bH (ja aK hd (x :=.ref t) I ?_)
 have nn:¬((ao.ref t == ao.none)=ah):=hI
 show bM _ _ (if(ao.ref t == ao.none)=ah then _ else _) _ _ s
 rw[if_neg nn]
 show bM _ _ (field (.ref it) 1 >>= _) _ _ s
 refine bH (ja aK hd (x :=.int i 0) I ?_)
 show bM _ _ (seqItems? (.ref t) >>= _) _ _ s
 refine bH (s6 IQ Iu ?_)
 simp only[Int.toNat_natCast,ay]
 refine bH (wpAny_rule (bH (s7 aK hd (by simp) ?_)))
 show bM _ _ (newExc (.type "StopIteration") [] >>= _) _ _ _
 refine bH ?_
 simp only[newExc,newTuple]
 refine bH (wpAny_newObj_type ?_ (by size_fits))
 refine bH (m:=firstArgMember _ _) (wpAny_of_eq (a:=ao.none) (by first|rfl|(simp only[firstArgMember];rfl)) ?_)
 refine wpAny_newObj_type ?_ (by size_fits)
 simp only[raiseNew]
 refine bH (wpAny_handled ?_)
 first|rw[show A.in1.handled=aw from fN]|rw[fN]
 exact bH (dD (wpAny_throw (gG _ _ (((bc.SameBut.update ..).extBut.push _).push _) ⟨_,ha _ I,I⟩)))
end
theorem ako(x:h.IsTuple a items)(k:∀o,h.get? a=J o->h'.get? a=J o):h'.IsTuple a items :=
 let ⟨o,aK,r⟩:=x;⟨o,k o aK,r⟩
theorem RU(x:h.IsTupleIter a t i)(k:∀o,h.get? a=J o->h'.get? a=J o):h'.IsTupleIter a t i :=
 let ⟨o,aK,r⟩:=x;⟨o,k o aK,r⟩
theorem Draws.tup{A:di}(fN:A.handled=aw)(it t:ae)(oL:t≠it)(items:Array ao):
  Draws prog w A it [it,t] items.size (fun i v=>items[i]?=J v) (fun i h=>h.IsTupleIter it t i/\h.IsTuple t items) where
 live:=fun _ _ st=>let ⟨o,aK,_⟩:=st.1;⟨o,aK⟩
 frame:=fun _ _ _ st hk=>⟨RU st.1 fun o e=>hk it (by simp) o e,ako st.2 fun o e=>hk t (by simp) o e⟩
 item:=fun i s Q E aC st fY=>XQ st.1 st.2 (x:=items[i]) (by simp[aC]) fun h' Pg uB=>fY _ h' s.toks (by simp[aC]) ⟨Pg,st.2.extBut uB.extBut oL⟩ uB
 done:=fun s Q E st gG=>Ys fN st.1 st.2 (by simp) gG
structure vT(z d8 dK ew eA:ae)(nu nv:List ae):Prop where
 TIz:d8≠z
 TOz:dK≠z
 i1z:ew≠z
 i2z:eA≠z
 TITO:d8≠dK
 TIi1:d8≠ew
 TIi2:d8≠eA
 TOi1:dK≠ew
 TOi2:dK≠eA
 dh:z∉nu
 Ji:dK∉nu
 w2:eA∉nu
 de:z∉nv
 zx:dK∉nv
 w3:ew∉nv
section
variable {prog:c1} {w:cH} {A:di} {E:ao->aJ->Prop} {s:aJ}
variable {z d8 dK ew eA:ae} {nu nv:List ae} {fo en i:Nat} {vI vJ:Nat->ao->Prop} {oc oe:Nat->bc->Prop}
theorem Draws.but{A:di}{b:ae}{i:Nat}{P:Nat->ao->Prop}{St:Nat->bc->Prop}(D:Draws prog w A it bQ n P St)(x:bc.ExtBut b h h')(ar:b∉bQ)(st:St i h):St i h' :=
 D.frame i h h' st fun c hc o e=>x c o (fun z=>ar (z ▸ hc)) e
theorem UC{a b:ao}(eh:Draws prog w A ew nu fo vI oc)(kh:Draws prog w A eA nv en vJ oe)(Z:vT z d8 dK ew eA nu nv)(bC:IsZip s.heap z d8 dK .none)(uk:IsPair s.heap d8 (.ref ew) (.ref eA))(um:IsPair s.heap dK a b)(eJ:i<fo)(e0:i<en)(t1:oc i s.heap)(md:oe i s.heap)
  (fY:∀x y h' cp,vI i x->vJ i y->IsZip h' z d8 dK (rawInt s.heap.objs.size)->IsPair h' dK x y->oc (i+1) h'->oe (i+1) h'->IsPair h' s.heap.objs.size x y->(∀c o,c≠z->c≠dK->c≠ew->c≠eA->s.heap.get? c=J o->h'.get? c=J o)->Q (.ref s.heap.objs.size) {s with heap:=h',toks:=cp}) :
  bM (model prog w) A (c6.«zip.__next__» ⟨[.ref z],[]⟩) (fun cZ aF=>∃v,cZ=.done (.ret v)/\Q v aF) E s:=by
 show bM _ _ (field (.ref z) 2 >>= _) _ _ _
 refine bH (ja bC I (x :=.bool ag) I ?_)
 show bM _ _ (field (.ref z) 3 >>= _) _ _ _
 refine bH (ja bC I (x :=.ref d8) I (bH (s6 uk I ?_)))
 show bM _ _ (c6.SmallTypes.ownedTupleIsFree (.ref z) >>= _) _ _ _
 refine bH ?_
 unfold c6.SmallTypes.ownedTupleIsFree
 refine bH (ja bC I (x :=.none) I (dD ?_))
 simp only[if_true]
 refine bH (wpAny_rule (bH (ja bC I (x :=.ref dK) I (bH (xB bC (by simp) fun bf s4 nU=>?_)))))
 replace s4:IsZip bf z d8 dK .ellipsis:=s4
 refine bH ?_
 simp only[List.zipIdx_cons,List.zipIdx_nil,List.forIn_cons,List.forIn_nil]
 refine bH (bH (wpAny_onRaise ?_))
 show bM _ _ (c6.SmallTypes.nextOf (.ref ew) >>= _) _ _ _
 refine bH (eh.item i _ _ _ eJ (Draws.but eh nU.extBut Z.dh t1) fun x ar RQ jW dg mX=>dD ?_)
 have dN:IsPair ar dK a b:=mX.extBut _ _ Z.TOi1 (nU.extBut _ _ Z.TOz um)
 refine bH (s6 dN I (bH (wpAny_updateSeq_pair dN fun hc iE e6=>?_)))
 replace iE:IsPair hc dK x b:=iE
 refine bH (wpAny_letGo (dD ?_))
 refine bH (bH (wpAny_onRaise ?_))
 show bM _ _ (c6.SmallTypes.nextOf (.ref eA) >>= _) _ _ _
 refine bH (kh.item i _ _ _ e0 (Draws.but kh e6.extBut Z.zx (Draws.but kh mX.extBut Z.w3 (Draws.but kh nU.extBut Z.de md))) fun y hd aj6 iU aj0 i9=>dD ?_)
 have od:IsPair hd dK x b:=i9.extBut _ _ Z.TOi2 iE
 refine bH (s6 od I (bH (wpAny_updateSeq_pair od fun he ey xe=>?_)))
 replace ey:IsPair he dK x y:=ey
 refine bH (wpAny_letGo (dD (dD ?_)))
 refine bH (s6 ey I (bH (wpAny_newTuple ?_)))
 have c0:he.objs.size=s.heap.objs.size:=by rw[xe.1,i9.1,e6.1,mX.1,nU.1]
 have Sd:IsZip he z d8 dK .ellipsis:=xe.extBut _ _ Z.TOz.symm (i9.extBut _ _ Z.i2z.symm (e6.extBut _ _ Z.TOz.symm (mX.extBut _ _ Z.i1z.symm s4)))
 have PQ:z<he.objs.size:=d9 Sd
 show bM _ _ (c6.SmallTypes.ownedTupleHandOut (.ref z) (.ref he.objs.size) >>= _) _ _ _
 refine bH ?_
 unfold c6.SmallTypes.ownedTupleHandOut
 refine bH (xB (show IsZip (he.push {cls :=.type "tuple",data :=.seq #[x,y]}) z d8 dK .ellipsis from er _ Sd) (by simp) fun aG Ke z3=>?_)
 replace Ke:IsZip aG z d8 dK (rawInt he.objs.size):=Ke
 refine xB Ke (by simp) fun aH DW R6=>dD ⟨_,I,?_⟩
 replace DW:IsZip aH z d8 dK (rawInt he.objs.size):=DW
 have up:bc.ExtBut z he aH:=fun c o fl e=>R6.extBut _ _ fl (z3.extBut _ _ fl (er _ e))
 have pn:IsPair aH he.objs.size x y:=R6.extBut _ _ (Nat.ne_of_gt PQ) (z3.extBut _ _ (Nat.ne_of_gt PQ) (ha _ rfl))
 have aj1:oc (i+1) aH:=Draws.but eh up Z.dh (Draws.but eh xe.extBut Z.Ji (Draws.but eh i9.extBut Z.w2 (Draws.but eh e6.extBut Z.Ji dg)))
 have aj2:oe (i+1) aH:=Draws.but kh up Z.de (Draws.but kh xe.extBut Z.zx aj0)
 show Q (.ref he.objs.size) _
 rw[c0]at DW pn ⊢
 exact fY x y aH aj6 jW iU DW (up _ _ Z.TOz ey) aj1 aj2 pn fun c o fl gv fX mz e=>up c o fl (xe.extBut _ _ gv (i9.extBut _ _ mz (e6.extBut _ _ gv (mX.extBut _ _ fX (nU.extBut _ _ fl e)))))
theorem VA{a b:ao}{Q:Fin->aJ->Prop}(eh:Draws prog w A ew nu fo vI oc)(kh:Draws prog w A eA nv en vJ oe)(Z:vT z d8 dK ew eA nu nv)(bC:IsZip s.heap z d8 dK .none)(uk:IsPair s.heap d8 (.ref ew) (.ref eA))(um:IsPair s.heap dK a b)(l:i=fo\/(i<fo/\i=en))(t1:oc i s.heap)(md:oe i s.heap)
  (gG:∀h' e cp,(∀c o,c≠z->c≠dK->c≠ew->c≠eA->s.heap.get? c=J o->h'.get? c=J o)->(∃o,h'.get? e=J o/\o.cls=.type "StopIteration")->E (.ref e) {s with heap:=h',toks:=cp}) :
  bM (model prog w) A (c6.«zip.__next__» ⟨[.ref z],[]⟩) Q E s:=by
 show bM _ _ (field (.ref z) 2 >>= _) _ _ _
 refine bH (ja bC I (x :=.bool ag) I ?_)
 show bM _ _ (field (.ref z) 3 >>= _) _ _ _
 refine bH (ja bC I (x :=.ref d8) I (bH (s6 uk I ?_)))
 show bM _ _ (c6.SmallTypes.ownedTupleIsFree (.ref z) >>= _) _ _ _
 refine bH ?_
 unfold c6.SmallTypes.ownedTupleIsFree
 refine bH (ja bC I (x :=.none) I (dD ?_))
 simp only[if_true]
 refine bH (wpAny_rule (bH (ja bC I (x :=.ref dK) I (bH (xB bC (by simp) fun bf s4 nU=>?_)))))
 replace s4:IsZip bf z d8 dK .ellipsis:=s4
 refine bH ?_
 simp only[List.zipIdx_cons,List.zipIdx_nil,List.forIn_cons,List.forIn_nil]
 refine bH (bH (wpAny_onRaise ?_))
 show bM _ _ (c6.SmallTypes.nextOf (.ref ew) >>= _) _ _ _
 rcases l with rfl|⟨eJ,rfl⟩
 ·refine bH (eh.done _ _ _ (Draws.but eh nU.extBut Z.dh t1) fun ar e mX he=>?_)
  obtain⟨ey,ge,ce⟩:=he
  have Kd:IsZip ar z d8 dK .ellipsis:=mX _ _ Z.i1z.symm s4
  have HE:e≠z:=fun x=>by subst x;rw[Kd]at ge;cases ge;simp at ce
  exact xB Kd (by simp) fun hc _ e6=>gG hc e s.toks (fun c o fl _ fX _ g=>e6.extBut _ _ fl (mX _ _ fX (nU.extBut _ _ fl g))) ⟨ey,e6.extBut _ _ HE ge,ce⟩
 ·refine bH (eh.item i _ _ _ eJ (Draws.but eh nU.extBut Z.dh t1) fun x ar RQ jW dg mX=>dD ?_)
  have dN:IsPair ar dK a b:=mX.extBut _ _ Z.TOi1 (nU.extBut _ _ Z.TOz um)
  refine bH (s6 dN I (bH (wpAny_updateSeq_pair dN fun hc iE e6=>?_)))
  refine bH (wpAny_letGo (dD ?_))
  refine bH (bH (wpAny_onRaise ?_))
  show bM _ _ (c6.SmallTypes.nextOf (.ref eA) >>= _) _ _ _
  refine bH (kh.done _ _ _ (Draws.but kh e6.extBut Z.zx (Draws.but kh mX.extBut Z.w3 (Draws.but kh nU.extBut Z.de md))) fun hd e i9 he=>?_)
  obtain⟨ey,ge,ce⟩:=he
  have Sb:IsZip hd z d8 dK .ellipsis:=i9 _ _ Z.i2z.symm (e6.extBut _ _ Z.TOz.symm (mX.extBut _ _ Z.i1z.symm s4))
  have HE:e≠z:=fun x=>by subst x;rw[Sb]at ge;cases ge;simp at ce
  exact xB Sb (by simp) fun aG _ z3=>gG aG e RQ (fun c o fl gv fX mz g=>z3.extBut _ _ fl (i9 _ _ mz (e6.extBut _ _ gv (mX.extBut _ _ fX (nU.extBut _ _ fl g))))) ⟨ey,z3.extBut _ _ HE ge,ce⟩
theorem XP{a b:ao}{Q:Option ao->aJ->Prop}(eh:Draws prog w A.in1 ew nu fo vI oc)(kh:Draws prog w A.in1 eA nv en vJ oe)(Z:vT z d8 dK ew eA nu nv)(bC:IsZip s.heap z d8 dK .none)(uk:IsPair s.heap d8 (.ref ew) (.ref eA))(um:IsPair s.heap dK a b)(eJ:i<fo)(e0:i<en)(t1:oc i s.heap)(md:oe i s.heap)
  (fY:∀x y h' cp,vI i x->vJ i y->IsZip h' z d8 dK (rawInt s.heap.objs.size)->IsPair h' dK x y->oc (i+1) h'->oe (i+1) h'->IsPair h' s.heap.objs.size x y->(∀c o,c≠z->c≠dK->c≠ew->c≠eA->s.heap.get? c=J o->h'.get? c=J o)->Q (J (.ref s.heap.objs.size)) {s with heap:=h',toks:=cp}) :
  bM (model prog w) A (pyNext (.ref z)) Q E s:=by
 have cf:s.TypeIs (.ref z) "zip":=⟨_,bC,rfl⟩
 unfold pyNext
 exact bH (wpAny_attempt (wpAny_callSpecial?_slot (name:=af.ofString "__next__") cf F.slot_zip_next (wpAny_call_entry F.slot_zip_next cf F.entry_zip_next (UC eh kh Z bC uk um eJ e0 t1 md fun x y h' cp a1 a2 a3 a4 a5 a6 a7 a8=>dD (fY x y h' cp a1 a2 a3 a4 a5 a6 a7 a8)) (F.args_zip_next_1 _))))
theorem Yq{a b:ao}{Q:Option ao->aJ->Prop}(eh:Draws prog w A.in1 ew nu fo vI oc)(kh:Draws prog w A.in1 eA nv en vJ oe)(Z:vT z d8 dK ew eA nu nv)(bC:IsZip s.heap z d8 dK .none)(uk:IsPair s.heap d8 (.ref ew) (.ref eA))(um:IsPair s.heap dK a b)(l:i=fo\/(i<fo/\i=en))(t1:oc i s.heap)(md:oe i s.heap)
  (fY:∀h' cp,(∀c o,c≠z->c≠dK->c≠ew->c≠eA->s.heap.get? c=J o->h'.get? c=J o)->Q aw {s with heap:=h',toks:=cp}) :
  bM (model prog w) A (pyNext (.ref z)) Q E s:=by
 have cf:s.TypeIs (.ref z) "zip":=⟨_,bC,rfl⟩
 unfold pyNext
 refine bH (wpAny_attempt (wpAny_callSpecial?_slot (name:=af.ofString "__next__") cf F.slot_zip_next (wpAny_call_entry F.slot_zip_next cf F.entry_zip_next (VA eh kh Z bC uk um l t1 md fun h' e cp hk he=>?_) (F.args_zip_next_1 _))))
 obtain⟨o,aK,hc⟩:=he
 exact bH (wpAny_isInstance (T:="StopIteration") (b:=ah) ⟨o,aK,hc⟩ isSubtype_stop (dD (fY _ _ hk)))
end
theorem alg{a b:Nat}(aj:a<n)(aq:b<n):vT (n+4) (n+2) (n+3) n (n+1) [n,a] [n+1,b]:=by
 have nm:∀{x y z:Nat},x≠y->x≠z->x∉[y,z]:=fun aI aL h=>by
  rcases dz.mp h with h|h
  .exact aI h
  .exact aL (fU.mp h)
 refine⟨?_,?_,?_,?_,?_,?_,?_,?_,?_,nm ?_ ?_,nm ?_ ?_,nm ?_ ?_,nm ?_ ?_,nm ?_ ?_,nm ?_ ?_⟩<;>(show(_:Nat)≠_;omega)
section
variable {prog:c1} {w:cH} {A:di} {E:ao->aJ->Prop} {s:aJ}
noncomputable abbrev DX(h:bc)(a:ae):bc:=h.push {cls :=.type "list_iterator",data :=.fields #[.ref a,.int 0 0]}
noncomputable abbrev DY(h:bc)(a b:ae):bc:=(DX h a).push {cls :=.type "tuple_iterator",data :=.fields #[.ref b,.int 0 0]}
noncomputable abbrev DZ(h:bc)(a b:ae):bc:=(DY h a b).push {cls :=.type "tuple",data :=.seq #[.ref h.objs.size,.ref (DX h a).objs.size]}
noncomputable abbrev D0(h:bc)(a b:ae):bc:=(DZ h a b).push {cls :=.type "tuple",data :=.seq #[.none,.none]}
noncomputable abbrev xw(h:bc)(a b:ae):bc:=(D0 h a b).push {cls :=.type "zip",data :=.fields #[.none,.bool ag,.bool ag,.ref (DY h a b).objs.size,.ref (DZ h a b).objs.size]}
theorem UD(a b:ae)(xs bb:Array ao):
  Meets (c6.«zip.__new__» ⟨[.type "zip",.ref a,.ref b],[]⟩) (fun _ R s=>s.heap.IsList a xs/\s.heap.IsTuple b bb/\R (.ok (.ret (.ref (D0 s.heap a b).objs.size))) {s with heap:=xw s.heap a b}) :=
 .of_wp fun prog w A R s h=>by
  obtain⟨bj,g,d,cp,os⟩:=s
  obtain⟨aI,aL,h⟩:=h
  have aeb:=sub_zip
  have f6:bc.IsList (aJ.heap ⟨bj,g,d,cp,os⟩) a xs:=aI
  have l9:bc.IsTuple (aJ.heap ⟨bj.push {cls :=.type "list_iterator",data :=.fields #[.ref a,.int 0 0]},g,d,cp,os⟩) b bb:=bc.IsTuple.push aL _
  wp_walk using wpAny_pyIter_list f6,wpAny_pyIter_tuple l9
  exact⟨_,I,h⟩
theorem Uu{b:ae}{xs bb:Array ao}(aI:s.heap.IsList a xs)(aL:s.heap.IsTuple b bb)
  (h:∀h',IsZip h' (s.heap.objs.size+4) (s.heap.objs.size+2) (s.heap.objs.size+3) .none->IsPair h' (s.heap.objs.size+2) (.ref s.heap.objs.size) (.ref (s.heap.objs.size+1))->IsPair h' (s.heap.objs.size+3) .none .none->h'.IsListIter s.heap.objs.size a 0->h'.IsTupleIter (s.heap.objs.size+1) b 0->(∀c o,s.heap.get? c=J o->h'.get? c=J o)->Q (.ref (s.heap.objs.size+4)) {s with heap:=h'}) :
  bM (model prog w) A (call (.type "zip") [.ref a,.ref b]) Q E s:=by
 refine callType_new F.called_zip (by decide) (F.typeCall_zip_2 _ _) (F.newCall_zip_2 _ _) (fun obj=>F.args_object_init_3 obj _ _) F.entry_zip_new (UD a b xs bb) ⟨aI,aL,?_⟩
 have up:∀{h:bc}{c o ee},h.get? c=J o->(h.push ee).get? c=J o:=fun e=>er _ e
 have s1:(DX s.heap a).objs.size=s.heap.objs.size+1:=bc.size_push ..
 have s2:(DY s.heap a b).objs.size=s.heap.objs.size+2:=by rw[bc.size_push,s1]
 have hE:(DZ s.heap a b).objs.size=s.heap.objs.size+3:=by rw[bc.size_push,s2]
 have rb:(D0 s.heap a b).objs.size=s.heap.objs.size+4:=by rw[bc.size_push,hE]
 have HJ:(xw s.heap a b).get? (D0 s.heap a b).objs.size=J _:=ha _ rfl
 have oC:(xw s.heap a b).get? (DZ s.heap a b).objs.size=J _:=up (ha _ rfl)
 have g3:(xw s.heap a b).get? (DY s.heap a b).objs.size=J _:=up (up (ha _ rfl))
 have g2:(xw s.heap a b).get? (DX s.heap a).objs.size=J _:=up (up (up (ha _ rfl)))
 have g1:(xw s.heap a b).get? s.heap.objs.size=J _:=up (up (up (up (ha _ rfl))))
 show _/\_
 rw[s2,hE,rb]at HJ
 rw[hE]at oC
 rw[s1,s2]at g3
 rw[s1]at g2
 rw[rb]
 exact⟨⟨_,HJ,I⟩,h _ HJ g3 oC ⟨_,g1,I,I⟩ ⟨_,g2,I,I⟩ fun c o e=>up (up (up (up (up e))))⟩
end
noncomputable def Ai(K:bN)(a b:ae)(xs bb:List V):kH :=
 ⟨fun i H=>dE K H a xs/\jI K H b bb/\i<min xs.length bb.length,fun i H x H'=>∃(T:ae)(u v:V),H T=aw/\xs[i]?=J u/\bb[i]?=J v/\x=.ref T/\H'=upd H T (.tup [u,v]),fun i H=>dE K H a xs/\jI K H b bb/\min xs.length bb.length<=i⟩
theorem x4{xs:Array ao}(x:IsTup h a xs):h.IsTuple a xs:=x
theorem ZD(a b z d8 dK ew eA:ae)(xs bb:List V)(fo:a≠ew)(en:b≠eA)(D:vT z d8 dK ew eA [ew,a] [eA,b]):
  Turn P w K (.Tuple elts k aR) (Ai K a b xs bb) [z,d8,dK,ew,eA] z (fun i h=>i<=min xs.length bb.length/\IsZip h z d8 dK .none/\IsPair h d8 (.ref ew) (.ref eA)/\(∃a b,IsPair h dK a b)/\h.IsListIter ew a i/\h.IsTupleIter eA b i) where
 mem:=by simp
 obj:=fun i h st c hc=>by
  obtain⟨_,jA,kc,⟨p,q,mc⟩,sR,k0⟩:=st
  rcases dz.mp hc with e|hc
  .subst e;exact⟨_,jA,fun v z=>by cases z⟩
  rcases dz.mp hc with e|hc
  .subst e;exact⟨_,kc,fun v z=>by cases z⟩
  rcases dz.mp hc with e|hc
  .subst e;exact⟨_,mc,fun v z=>by cases z⟩
  rcases dz.mp hc with e|hc
  ·subst e
   obtain⟨o,e,c,d⟩:=sR
   exact⟨o,e,fun v z=>by rw[d]at z;cases z⟩
  ·obtain rfl:=fU.mp hc
   obtain⟨o,e,c,d⟩:=k0
   exact⟨o,e,fun v z=>by rw[d]at z;cases z⟩
 keep:=fun i h h' st k=>by
  obtain⟨aC,jA,kc,⟨p,q,mc⟩,sR,k0⟩:=st
  exact⟨aC,k z (by simp) _ jA,k d8 (by simp) _ kc,⟨p,q,k dK (by simp) _ mc⟩,sR.at fun o e=>k ew (by simp) o e,RU k0 fun o e=>k eA (by simp) o e⟩
 item:=by
  intro X ck hw g5 hc i ak s ab H E aa aG st aH
  subst ck hw g5
  obtain⟨y8,y9,aC⟩:=aH
  obtain⟨zi,zH,jW,PA⟩:=aa.list y8
  obtain⟨q0,zI,iU,PB⟩:=aa.tuple y9
  have adC:=zH.length
  have adD:=zI.length
  obtain⟨_,jA,kc,⟨nM,agO,mc⟩,sR,k0⟩:=st
  have fN:=aa.ok.hd hc
  refine XP (i:=i) (Draws.list (A:=X.A.in1) fN ew a fo zi.toArray) (Draws.tup (A:=X.A.in1) fN eA b en q0.toArray) D jA kc mc (by rw[fW];omega) (by rw[fW];omega) ⟨sR,jW.isList⟩ ⟨k0,x4 iU⟩ fun sW o2 h' cp C2 C3 fl gv fX mz Cg fP=>?_
  refine⟨_,I,wpAny_letOwnedTupleGo_zip fl fun OH aa4 akS=>?_⟩
  have aek:zi[i]?=J sW:=by simpa using C2
  have ael:q0[i]?=J o2:=by simpa using C3
  have nC:xs[i]?=J (xs[i]'(by omega)):=dR _
  have Pz:bb[i]?=J (bb[i]'(by omega)):=dR _
  obtain⟨v1,nB,Js⟩:=zH.get nC
  obtain⟨v2,pT,Jt⟩:=zI.get Pz
  rw[aek]at nB;cases nB
  rw[ael]at pT;cases pT
  have cf:s.heap.objs.size<=s.heap.objs.size:=cE _
  have H9:=aa.aP.fresh cf
  have lt:∀{c o},s.heap.get? c=J o->c≠s.heap.objs.size:=fun e=>fC (d9 e)
  have PU:∀c∈[z,d8,dK,ew,eA],c≠s.heap.objs.size:=fun c hg=>by
   rcases dz.mp hg with e|hg
   .rw[e];exact lt jA
   rcases dz.mp hg with e|hg
   .rw[e];exact lt kc
   rcases dz.mp hg with e|hg
   .rw[e];exact lt mc
   rcases dz.mp hg with e|hg
   .rw[e];obtain⟨o,e,_⟩:=sR;exact lt e
   .rw[fU.mp hg];obtain⟨o,e,_⟩:=k0;exact lt e
  have w7:bc.ExtBut z h' OH:=akS.extBut
  refine⟨.ref s.heap.objs.size,upd H s.heap.objs.size (.tup [xs[i]'(by omega),bb[i]'(by omega)]),?_,I,⟨_,_,_,H9,nC,Pz,I,I⟩,⟨by omega,aa4,w7 _ _ D.TIz (fP _ _ D.TIz D.TITO D.TIi1 D.TIi2 kc),⟨_,_,w7 _ _ D.TOz gv⟩,fX.1.extBut w7 D.i1z,mz.1.extBut w7 D.i2z⟩,fun c hg=>?_⟩
  ·refine aa.RW (ch:=[z,dK,ew,eA]) (t':=cp) (fun c o qT qD=>?_) (fun c hg=>aG c ?_) cf ?_
   ·have nn:∀{d:ae},d∈[z,dK,ew,eA]->c≠d:=fun hd e=>qT (e ▸ hd)
    exact w7 c o (nn (by simp)) (fP c o (nn (by simp)) (nn (by simp)) (nn (by simp)) (nn (by simp)) qD)
   ·rcases dz.mp hg with e|hg
    .rw[e];simp
    .exact fD _ (fD _ hg)
   ·refine⟨by show 2<=bY;decide,[sW,o2],.cons Js (.cons Jt .nil),?_⟩
    exact⟨_,w7 _ _ (PU z (by simp)).symm Cg,I,_,I⟩
  ·rw[bO (PU c hg)]
   exact(aG c hg).1
 done:=by
  intro X ck hw g5 hc i ak s ab H E aa aG st aH
  subst ck hw g5
  obtain⟨y8,y9,aC⟩:=aH
  obtain⟨zi,zH,jW,PA⟩:=aa.list y8
  obtain⟨q0,zI,iU,PB⟩:=aa.tuple y9
  have adC:=zH.length
  have adD:=zI.length
  obtain⟨hle,jA,kc,⟨nM,agO,mc⟩,sR,k0⟩:=st
  have fN:=aa.ok.hd hc
  refine Yq (i:=i) (Draws.list (A:=X.A.in1) fN ew a fo zi.toArray) (Draws.tup (A:=X.A.in1) fN eA b en q0.toArray) D jA kc mc (by rw[fW,fW];omega) ⟨sR,jW.isList⟩ ⟨k0,x4 iU⟩ fun h' cp fP=>⟨I,aa.RV (ch:=[z,dK,ew,eA]) (t':=cp) (fun c o qT qD=>?_) fun c hg=>aG c ?_⟩
  ·have nn:∀{d:ae},d∈[z,dK,ew,eA]->c≠d:=fun hd e=>qT (e ▸ hd)
   exact fP c o (nn (by simp)) (nn (by simp)) (nn (by simp)) (nn (by simp)) qD
  ·rcases dz.mp hg with e|hg
   .rw[e];simp
   .exact fD _ (fD _ hg)
 self:=fun A i s Q E st h=>wpAny_pyIter_zip st.2.1 h
section
variable {X:bz}
def aeH(K:bN)(b4:gL):d8:=fun ab H R=>b4 ab H fun vs H1=>∃a b xs bb,vs=[.ref a,.ref b]/\dE K H1 a xs/\jI K H1 b bb/\R (Ai K a b xs bb) H1
theorem NA{l m:b5}{b4:gL}{p:Pos}(aH:il X "zip")(hm:X.mg "zip"=aw)(bf:hH X [l,m] b4)(hs:dt [l,m] X.env=[(ag,eval l X.env),(ag,eval m X.env)]:=by rfl)(hS:dt [m] X.env=[(ag,eval m X.env)]:=by rfl):
  jd X (.Tuple elts k xt) (.Call (.Name "zip" p) [l,m] [] aR) (aeH X.K b4):=by
 intro ak s ab H R aa h
 refine Call_ (pF aa aH hm boot_zip (PyProof.Rows.callWith_type1 (cA (bf aR ak s ab H (fun vs H1=>∃a b xs bb,vs=[.ref a,.ref b]/\dE X.K H1 a xs/\jI X.K H1 b bb/\R (Ai X.K a b xs bb) H1) aa h) fun us s1 ⟨vs,H1,aU,cK,cm⟩=>?_) (by rw[hs,hS]) (by rw[hS];rfl)))
 obtain⟨a,b,xs,bb,rfl,y8,y9,q⟩:=cm
 obtain⟨sW,o2,rfl,Js,Jt⟩:=vals2 cK
 obtain rfl:sW=ao.ref a:=Js
 obtain rfl:o2=ao.ref b:=Jt
 obtain⟨zi,zH,jW,PA⟩:=aU.list y8
 obtain⟨q0,zI,iU,PB⟩:=aU.tuple y9
 have eJ:a<s1.heap.objs.size:=by obtain⟨o,aK,_⟩:=jW.isList;exact d9 aK
 have e0:b<s1.heap.objs.size:=by obtain⟨o,aK,_⟩:=x4 iU;exact d9 aK
 refine Uu jW.isList (x4 iU) fun h' dh de g8 Kc rj fP=>?_
 have bJ:Inv X ak ab H1 {s1 with heap:=h'}:=aU.kept (t':=s1.toks) fP
 refine wpAny_pyIter_zip dh ?_
 refine⟨_,_,_,_,H1,I,bJ,ZD a b _ _ _ _ _ xs bb (fC eJ) (fC (Nat.lt_succ_of_lt e0)) (alg eJ e0),⟨UF _,dh,de,⟨_,_,g8⟩,Kc,rj⟩,fun c hc=>?_,q⟩
 have qS:s1.heap.objs.size<=c:=by
  rcases dz.mp hc with e|hc
  .rw[e];exact Nat.le_add_right ..
  rcases dz.mp hc with e|hc
  .rw[e];exact Nat.le_add_right ..
  rcases dz.mp hc with e|hc
  .rw[e];exact Nat.le_add_right ..
  rcases dz.mp hc with e|hc
  .rw[e];exact cE _
  .rw[fU.mp hc];exact Nat.le_succ _
 exact aU.qF qS (aU.aP.fresh qS)
end
theorem MW{b:ae}{Q:bB}{D:ae}(jO:Nat->V)(S:St->Prop)(bC:min xs.length bb.length<=100000)(bu:S gJ)(dH:H D=aw)(oJ:dE K H a xs)(ju:jI K H b bb)
  (aT:∀i x y,xs[i]?=J x->bb[i]?=J y->∀cz H1 T,S cz->eD H H1->H1 T=aw->∀R:St->V->au->Prop,(∀b7 bA,S b7->eD (upd H1 T (.tup [x,y])) bA->R b7 (jO i) bA)->g (.ref T) cz (upd H1 T (.tup [x,y])) fun b7 ax=>cG b7 ax fun z bA=>R b7 z bA)
  (aW:∀H':au,eD H H'->H' D=J (.lst ((List.range (min xs.length bb.length)).map jO))->Q (.ref D) H') :
  qk (Ai K a b xs bb) g sU cG Q gJ H D:=by
 refine⟨fun i m cz ax=>i<=min xs.length bb.length/\m=min xs.length bb.length-i/\S cz/\eD H ax/\ax D=J (.lst ((List.range i).map jO)),⟨min xs.length bb.length,UF _,I,bu,dq dH,aQ⟩,?_⟩
 rintro i m cz ax ⟨aj,rfl,aq,hs,mD⟩
 have cm:=hs.seq oJ
 have cN:jI K ax b bb:=ju.elim (fun e =>.inl (e.elim (fun e =>.inl (hs _ _ e)) fun⟨o,e⟩ =>.inr ⟨o,hs _ _ e⟩)) .inr
 rcases j4 i (min xs.length bb.length)with z|z
 ·refine .inr ⟨⟨cm,cN,z⟩,?_⟩
  rintro x bA ⟨T,u,v,cf,dY,bg,rfl,rfl⟩
  refine aT i u v dY bg cz ax T aq hs cf (fun b7 y fS=>∃zs b8,fS D=J (.lst zs)/\zs.length<bY/\b8<min xs.length bb.length-i/\(i+1<=min xs.length bb.length/\b8=min xs.length bb.length-(i+1)/\S b7/\eD H (upd fS D (.lst (zs++[y])))/\upd fS D (.lst (zs++[y])) D=J (.lst ((List.range (i+1)).map jO)))) fun b7 fS gq CY=>?_
  have af0:D≠T:=fun e=>by rw[e,cf]at mD;cases mD
  refine⟨(List.range i).map jO,min xs.length bb.length-(i+1),CY _ _ (by rw[bO af0];exact mD),?_,by omega,by omega,rfl,gq,?_,?_⟩
  ·rw[cC,mu]
   exact fB (show i<100000 by omega) (by decide)
  ·intro c o e
   rw[bO (eN e dH)]
   refine CY c o ?_
   rw[bO (fun e'=>by rw[e',hs.free cf]at e;cases e)]
   exact hs c o e
  .rw[aQ,List.range_succ,fk];rfl
 ·have e:i=min xs.length bb.length:=by omega
  subst e
  exact .inl ⟨⟨cm,cN,cE _⟩,aW ax hs mD⟩
noncomputable def inD(ns:List af):D->Bool
 |.str s=>ns.any fun n=>n == s
 |_=>ag
noncomputable def Cp(d:D)(u:ao):Bool:=match u with
 |.str n _=>(match d with|.str s=>n == s|_=>ag)
 |_=>ag
theorem NV(d:D):∀{ns:List af}{us:List ao},Vals (ns.map V.str) us->us.any (Cp d)=inD ns d
 |[],us,h=>by cases h;cases d<;>rfl
 |n::ns,us,h=>by
  obtain⟨u,r,rfl,⟨t,rfl⟩,az⟩:∃u r,us=u::r/\RelV (.str n) u/\Vals (ns.map V.str) r:=by cases h with|cons a b=>exact⟨_,_,I,a,b⟩
  rw[List.any_cons,NV d az]
  cases d<;>rfl
theorem Na{u:ao}:∀{ns:List af}{us:List ao},Vals (ns.map V.str) us->u∈us->∃n t,u=.str n t
 |[],us,h,dY=>by cases h;cases dY
 |n::ns,us,h,dY=>by
  obtain⟨v,r,rfl,⟨t,rfl⟩,az⟩:∃u r,us=u::r/\RelV (.str n) u/\Vals (ns.map V.str) r:=by cases h with|cons a b=>exact⟨_,_,I,a,b⟩
  rcases dz.mp dY with rfl|dY
  .exact⟨n,t,I⟩
  .exact Na az dY
section
variable {X:bz}
theorem ZO(dY:X.A.units+64<cLine):d5 X (h0 .NotIn) (fun x y H Q=>∃p ns d,y=.ref p/\dE X.K H p (ns.map V.str)/\h3 H d x/\Q (.aN (!inD ns d)) H):=by
 intro ak s ab H x y v u Q aa bt cn h
 obtain⟨p,ns,d,rfl,aW,hd,q⟩:=h
 cases cn
 obtain⟨bq,r,pl,bC⟩:=aa.list aW
 have C2:X.A.in1.units<cLine:=by show X.A.units+1<cLine;omega
 refine SeqAt.notIn_listAt (Cp d) pl.isList (fun w hw=>?_) ⟨.aN _,H,aa,I,?_⟩
 ·obtain⟨n,t,rfl⟩:=Na r (by simpa using hw)
  cases d with
  |bK=>obtain rfl:x=.bK:=hd;cases bt;exact SeqAt.EqAt.str_none n t
  |aN b=>obtain rfl:x=.aN b:=hd;cases bt;exact SeqAt.EqAt.str_bool n t b
  |int i=>obtain rfl:x=.int i:=hd;obtain⟨t',rfl⟩:=bt;exact SeqAt.EqAt.str_int n t i t'
  |str z=>obtain⟨rfl,_⟩:=hd;obtain⟨t',rfl⟩:=bt;exact SeqAt.EqAt.str_str n t z t'
  |tup ds =>
   obtain⟨a,vs,rfl,e,_⟩:=hd
   cases bt
   obtain⟨its',fe,uO,_⟩:=aa.tuple (jI.of e)
   exact SeqAt.EqAt.str_tuple n t (x4 uO) C2
  |lst ds =>
   obtain⟨a,vs,rfl,e,_⟩:=hd
   cases bt
   obtain⟨its',fe,uO,_⟩:=aa.list (dE.of e)
   exact SeqAt.EqAt.str_list n t uO.isList C2
 ·rw[show bq.toArray.any (Cp d)=bq.any (Cp d) by simp,NV d r]
  exact q
end
variable {f:bF}
theorem nk{k:Fin 4}(h:slot f=.b k):f=.bare k:=by
 cases f with
 |bare j=>injection h with h;rw[h]
 |sp a b=>cases h
 |le s=>cases h
 |one j f=>cases h
 |two j ns fs=>cases h
theorem GC(h:slot f=.s):∃a b,f=.sp a b:=by
 cases f with
 |sp a b=>exact⟨a,b,I⟩
 |bare j=>cases h
 |le s=>cases h
 |one j f=>cases h
 |two j ns fs=>cases h
theorem GD(h:slot f=.l):∃s,f=.le s:=by
 cases f with
 |le s=>exact⟨s,I⟩
 |sp a b=>cases h
 |bare j=>cases h
 |one j f=>cases h
 |two j ns fs=>cases h
theorem qq{k:Fin 3}(h:slot f=.o k):∃g,f=.one k g:=by
 cases f with
 |one j g=>injection h with h;rw[h];exact⟨g,I⟩
 |sp a b=>cases h
 |bare j=>cases h
 |le s=>cases h
 |two j ns fs=>cases h
theorem vY{k:Fin 2}(h:slot f=.t k):∃ns fs,f=.two k ns fs:=by
 cases f with
 |two j ns fs=>injection h with h;rw[h];exact⟨ns,fs,I⟩
 |sp a b=>cases h
 |bare j=>cases h
 |le s=>cases h
 |one j f=>cases h
theorem eL.get{c:dP}{X:List ae}{H:au}:∀(fs:List bF){os:List ae}{i:Nat}{o:ae},eL c X H fs os->os[i]?=J o->∃f,fs[i]?=J f/\b0 c X H f o
 |[],os,i,o,h,e=>by
  obtain rfl:os=[]:=h
  cases e
 |f::fs,os,0,o,h,e=>by
  obtain⟨ee,r,rfl,q,cN⟩:=h
  cases e
  exact⟨f,I,q⟩
 |f::fs,os,i+1,o,h,e=>by
  obtain⟨ee,r,rfl,q,cN⟩:=h
  exact eL.get fs cN e
theorem Gn:∀{fs:List bF}{i:Nat}{f:bF},fF fs->fs[i]?=J f->fq f/\aT f<=hA fs
 |[],i,f,h,e=>by cases e
 |g::fs,0,f,h,e=>by
  cases e
  rw[fF]at h
  rw[hA]
  exact⟨h.1,Nat.le_max_left ..⟩
 |g::fs,i+1,f,h,e=>by
  rw[fF]at h
  have:=Gn h.2 e
  rw[hA]
  exact⟨this.1,eE this.2 (Nat.le_max_right ..)⟩
theorem ub:∀k:Fin 4,k=0\/k=1\/k=2\/k=3:=by decide
theorem rZ:∀k:Fin 3,k=0\/k=1\/k=2:=by decide
theorem wB:∀k:Fin 2,k=0\/k=1:=by decide
section
variable {P:c1} {w:cH} {K:bN} {mg:af->Option ao} {base:bc}
structure MethAt(K:bN)(C:ae)(m dJ:af)(st:br)(ps:List af):Prop where
 ex:∃f fd,c5 K m dJ st f fd/\Binds K fd ps []/\tp K C m f
 cl:fz K C
theorem MJ{st:br}{sp:b3}(M:MethAt K C m dJ st ps)(h:∀vs H Q E,¬sp vs H Q E):mm P w K mg base k C m ps sp:=by
 obtain⟨f,fd,F,ar,hm⟩:=M.ex
 exact⟨f,fd,⟨fun vs H Q E q=>absurd q (h _ _ _ _),fun A outer s H args us vs Q E _ _ _ _ q=>absurd q (h _ _ _ _)⟩,ar,hm⟩
end
mutual
noncomputable def oS(has:eW->Bool):bF->Prop
 |.bare k=>has (.b k)=ah
 |.sp _ _=>has .s=ah
 |.le _=>has .l=ah
 |.one k f=>has (.o k)=ah/\oS has f
 |.two k _ fs=>has (.t k)=ah/\so has fs
noncomputable def so(has:eW->Bool):List bF->Prop
 |[]=>True
 |f::fs=>oS has f/\so has fs
end
def ka(has:eW->Bool)(f:bF):Prop:=fq f/\oS has f
def Dm(has:eW->Bool)(fs:List bF):Prop:=fF fs/\so has fs
variable {has:eW->Bool}
theorem ka.one{k:Fin 3}(h:ka has (.one k f)):ka has f:=by
 obtain⟨a,b⟩:=h
 rw[fq]at a
 rw[oS]at b
 exact⟨a,b.2⟩
theorem ka.two{k:Fin 2}{fs:List bF}(h:ka has (.two k ns fs)):jP ns=ah/\ns.length=fs.length/\Dm has fs:=by
 obtain⟨a,b⟩:=h
 rw[fq]at a
 rw[oS]at b
 exact⟨a.1,a.2.1,a.2.2,b.2⟩
theorem Nf{has:eW->Bool}:∀{fs:List bF}{i:Nat}{f:bF},so has fs->fs[i]?=J f->oS has f
 |[],i,f,h,e=>by cases e
 |g::fs,0,f,h,e=>by
  cases e
  rw[so]at h
  exact h.1
 |g::fs,i+1,f,h,e=>by
  rw[so]at h
  exact Nf h.2 e
theorem Dm.get{fs:List bF}(h:Dm has fs)(e:fs[i]?=J f):ka has f/\aT f<=hA fs :=
 ⟨⟨(Gn h.1 e).1,Nf h.2 e⟩,(Gn h.1 e).2⟩
theorem Ui{l:List Nat}(h:l[i]?=J c)(hk:∀k,k<i->l[k]?≠J c):l.idxOf c=i:=by
 induction l generalizing i with
 |nil=>cases h
 | cons a r cM =>
  cases i with
  |zero=>cases h;rw[List.idxOf_cons_self]
  |succ i =>
   have bf:a≠c:=fun e=>hk 0 (by omega) (by rw[e];rfl)
   have ar:(a == c)=ag:=by simpa using bf
   rw[List.idxOf_cons,ar]
   show r.idxOf c+1=i+1
   rw[cM h fun k hk' e=>hk (k+1) (by omega) e]
section
variable {X:bz}
theorem Zi:tq X "str.index" (fun x xs H Q=>∃(y:af)(c:Nat),x=.str y/\xs=[.str ⟨#[c]⟩]/\c∈y.cps.toList/\Q (.int ((y.cps.toList.idxOf c:Nat):Int)) H):=by
 intro ak s ab H x xs v us Q aa bt dO h
 obtain⟨y,c,rfl,rfl,hc,q⟩:=h
 obtain⟨t,rfl⟩:=bt
 obtain⟨u,rfl,t',rfl⟩:=dO.one
 rcases StrLaws.occ_head y ⟨#[c]⟩ 1 (cE _)with⟨_,no⟩|⟨i,r,aK,jr,y5⟩
 ·obtain⟨i,aC⟩:=List.getElem?_of_mem hc
  exact absurd ((StrLaws.subAt_one y c i).mpr aC) (no i)
 ·have e:=Ui ((StrLaws.subAt_one y c i).mp jr) fun k hk z=>y5 k hk ((StrLaws.subAt_one y c k).mpr z)
  rw[e]at q
  exact call_gives F.slot_str_index (typeIs_str s y t) F.entry_str_index (F.args_str_index_2 _ _) (gives_str_index y ⟨#[c]⟩ t t' i r aK) ⟨.int _,H,aa.tok _,⟨_,I⟩,q⟩
end
theorem ZT{e:ao}{Oj:Env}(h:env.frame=Oj.frame):noteFrame e env=noteFrame e Oj:=by
 unfold noteFrame PySem.frameOf
 rw[h]
theorem NG{h h' base:bc}:∀{l:List Env},h.FunFrames base l->(∀b o,b∈l.filterMap (·.frame)->h.get? b=J o->(∀vs,o.data≠.fields vs)->h'.get? b=J o)->h'.FunFrames base l
 |[],_,_=>trivial
 |env::rest,aB,k=>by
  obtain⟨hk,⟨L,o,aG,bo,aK,hd⟩,az⟩:=aB
  have hm:L∈(env::rest).filterMap (·.frame):=by rw[List.filterMap_cons,aG];exact hM
  refine⟨hk,⟨L,o,aG,bo,k L o hm aK hd,hd⟩,NG az fun b o ar=>k b o ?_⟩
  rw[List.filterMap_cons,aG]
  exact fD _ ar
section
variable {M:Model} {A:di} {E:ao->aJ->Prop} {s:aJ} {base:bc} {env:Env} {outer:List Env} {L e T:ae} {Q:Unit->aJ->Prop} {cls:ao} {d:Option ae} {dB:ao}
theorem agq(lx:A.frames=J (env::outer))(aB:s.heap.FunFrames base (env::outer))(aG:env.frame=J L)(aT:kG s.heap e cls d T dB)
  (h:∀h' dF,kG h' e cls d dF (rawInt L)->(dF=T\/s.heap.get? dF=aw)->h'.FunFrames base (env::outer)->vO ((env::outer).filterMap (·.frame)) e (J T) s.heap h'->Q () {s with heap:=h'}):bM M A (noteFrame (.ref e) env) Q E s:=by
 by_cases z:dB=rawInt L
 ·subst z
  obtain⟨ey,vs,j9,jB,he,hc,ed,hd,aj,l4,cf,ic,bl,j8⟩:=id aT
  exact wpAny_noteFrame_inFlight aG he hd aj cf ic bl (h s.heap T aT (.inl I) aB ⟨fun b o _ _ _ e=>e,fun b o _ _ e=>⟨o.slots,e⟩⟩)
 obtain⟨ey,vs,j9,jB,he,hc,ed,hd,aj,l4,cf,ic,bl,j8⟩:=aT
 unfold noteFrame
 simp only[aG]
 refine bH (ja he hd aj ?_)
 rw[if_pos (show(ao.ref T != ao.none)=ah from by simp)]
 refine bH (ja cf ic bl ?_)
 rw[if_neg (show ¬((dB == rawInt L)=ah)from fun y=>z (beq_iff_eq.mp y))]
 refine bH (s7 cf ic (Array.getElem?_eq_some_iff.mp bl).1 ?_)
 have other:∀b,b≠T->(s.heap.update T (bw.mapFields (·.setIfInBounds 3 ao.none))).get? b=s.heap.get? b:=fun b ar=>bc.get?_update_other _ _ (ea ar)
 have uJ:∀b o,s.heap.get? b=J o->(∀vs,o.data≠.fields vs)->b≠T:=fun b o ar jS q=>by
  rw[q,cf]at ar;injection ar with ar;subst ar;exact jS jB ic
 have back:∀b,(s.heap.update T (bw.mapFields (·.setIfInBounds 3 ao.none))).get? b=aw->s.heap.get? b=aw:=fun b ar=>by
  by_cases Sf:b=T
  ·subst Sf
   rw[bc.get?_update_self _ cf (bw.isFreed_of_fields (bw.data_mapFields ic _))]at ar;cases ar
  .rw[other b Sf]at ar;exact ar
 subst hc
 refine HC (s:={s with heap:=s.heap.update T (bw.mapFields (·.setIfInBounds 3 ao.none))}) lx (aB.of_keeps fun b o ar jS=>⟨o,(other b (uJ b o ar jS)).trans ar,I⟩) aG ((other e (ea l4)).trans he) hd (Array.getElem?_eq_some_iff.mp aj).1 ed fun h' dF iH hr lC ke=>?_
 exact h h' dF iH (.inr (back _ hr)) lC ⟨fun b o aj aq bl bW=>ke.keep b o aj (by simp) bl ((other b (fun z=>aq (by rw[z]))).trans bW),fun b o aj aq bW=>ke.slot b o aj (by simp) ((other b (fun z=>aq (by rw[z]))).trans bW)⟩
end
structure KU(fs Z:List ae)(h h':bc):Prop where
 keep:∀b o,b∉Z->b∉fs->h.get? b=J o->h'.get? b=J o
 slot:∀b o,b∉Z->h.get? b=J o->∃df,h'.get? b=J {o with slots:=df}
theorem UL{s1:aJ}{Z:List ae}(aa:Inv X ak ab H1 s1)(ay:X.ex=[])(S:KU (iS X.stack) Z s1.heap h')
  (Dk:∀z,z∈Z->X.dm.heap.get? z=aw) (Ct:∀z,z∈Z->H1 z=aw):fV (iS X.outer) [] X.hi H1 X.dm.heap h'/\fA X.prog X.w H1 h':=by
 have B:=aa.base
 rw[ay]at B
 have Jc:∀b o,X.dm.heap.get? b=J o->b∉Z:=fun b o e z=>by rw[Dk b z]at e;cases e
 have sx:∀b o,X.dm.heap.get? b=J o->b≠X.env.locals:=fun b o e=>fC (fB (d9 e) aa.ok.above)
 refine⟨⟨fun b o e n ar ay=>?_,fun b o e n ar ay=>?_,B.free,fun b o e ay=>?_,B.mf,B.lq,B.me⟩,fun b u e=>(aa.aP b u e).mW (fun c v hc q=>?_) (fun _ q=>q) fun _ _ q=>q⟩
 ·refine S.keep b o (Jc b o e) (fun z=>?_) (B.keep b o e n ar ay)
  exact(dz.mp (aa.sS b z)).elim (sx b o e) ar
 ·obtain⟨df,aI⟩:=B.slot b o e n ar ay
  obtain⟨lA,aL⟩:=S.slot b _ (Jc b o e) aI
  exact⟨lA,aL⟩
 ·obtain⟨ee,aI⟩:=B.there b o e ay
  obtain⟨lA,aL⟩:=S.slot b _ (Jc b o e) aI
  exact⟨_,aL⟩
 ·have qT:∃z,H1 c=J z:=by
   rcases hc with rfl|hc
   .exact⟨_,e⟩
   .exact⟨_,hc⟩
  obtain⟨z,bC⟩:=qT
  refine S.keep c v (fun y=>?_) (fun y=>?_) q
  .rw[Ct c y]at bC;cases bC
  .rw[aa.zX c y]at bC;cases bC
noncomputable def C9(X:bz)(E:bR):ao->aJ->Prop:=fun e aF=>bM (model X.prog X.w) X.A (leaving X.env e) (fun _ oY=>fH X.prog X.w X.outer X.hi X.dm E e oY) (fun e' oY=>fH X.prog X.w X.outer X.hi X.dm E e' oY) aF
variable {E:bR}
theorem Zz{yz:Env}{gI:aJ}{Cl:ae}{d:Option ae}
  (zh:X.xe=C9 X E) (hs:X.stack=X.env::X.outer) (aG:X.env.frame=J X.env.locals) (hex:X.ex=[]) (aa:Inv X ak ab ax gI) (lp:kG gI.heap a (.ref C) d T .none) (fa:ax a=aw) (j7:ax T=aw)
  (i7:X.dm.heap.get? a=aw) (ih:X.dm.heap.get? T=aw) (q:E (.ref C) d ax) (ia:ax Cl=aw) (zt:X.dm.heap.get? Cl=aw) (acM:Cl∉iS X.stack) (acS:∃m,gI.heap.Ns Cl m) (Il:yz.frame=X.env.frame) :
  notedBy (model X.prog X.w) X.A yz (fun e aF=>compPost (model X.prog X.w) X.A X.xe use Qf acc Cl (.error e) aF) (.ref a) gI:=by
 unfold notedBy
 rw[ZT Il]
 have fr:X.A.frames=J (X.env::X.outer):=aa.ok.frames.trans (congrArg J hs)
 have fst:gI.heap.FunFrames X.base (X.env::X.outer):=hs ▸ aa.stack
 have Oi:iS X.stack=(X.env::X.outer).filterMap (·.frame):=by rw[hs];rfl
 have OJ:Cl∉(X.env::X.outer).filterMap (·.frame):=by rw[<-Oi];exact acM
 refine Jh fr fst aG lp fun r2 dF iH hr lC ke=>?_
 suffices yW:∃m,r2.Ns Cl m/\∀h',bc.SameBut Cl r2 h'->∀yz:Env,yz.locals=Cl->bM (model X.prog X.w) X.A (PySem.passOn "comprehension.variables-let-go" (.ref a) yz:Sem ao) (fun _ _=>False) X.xe {gI with heap:=h'} by
  cases use<;>exact yW
 obtain⟨m,zy,aZ,fE,y6,O5,aiY⟩:=acS
 have Je:∀{h:bc}{b:ae}{o:bw}{vs:Array ao},h.get? b=J o->o.data=.fields vs->h.get? Cl=J zy->b≠Cl:=fun aI aL dS z=>by
  subst z
  rw[aI]at dS;cases dS
  rw[O5]at aL;cases aL
 have Cv:Cl≠a:=by
  obtain⟨ey,vs,j9,jB,he,hc,ed,hd,_⟩:=lp
  exact(Je he hd y6).symm
 have acK:Cl≠T:=by
  obtain⟨ey,vs,j9,jB,he,hc,ed,hd,aj,l4,cf,ic,_⟩:=lp
  exact(Je cf ic y6).symm
 have uL:r2.get? Cl=J zy:=ke.keep Cl zy Cv (fun z=>acK (gX z)) OJ y6
 refine⟨m,⟨zy,aZ,fE,uL,O5,aiY⟩,fun h' nN Oc _=>?_⟩
 obtain⟨ey,vs,j9,jB,he,hc,ed,hd,aj,l4,cf,ic,bl,j8⟩:=id iH
 have acL:dF≠Cl:=Je cf ic uL
 have uq:h'.get? a=J ey:=nN.extBut a ey (ea Cv) he
 have wN:h'.get? dF=J j9:=nN.extBut _ _ acL cf
 have zc:3<jB.size:=(Array.getElem?_eq_some_iff.mp bl).1
 have step:bM (model X.prog X.w) X.A (setFlight (.ref a) Oc.frame) (fun _ nO=>X.xe (.ref a) nO) X.xe {gI with heap:=h'}:=by
  unfold setFlight
  refine bH (ja uq hd aj ?_)
  rw[if_pos (show(ao.ref dF != ao.none)=ah from by simp)]
  refine s7 wN ic zc ?_
  generalize adk:(Oc.frame.elim ao.none fun f=>rawInt f)=dB
  have other:∀b,b≠dF->(h'.update dF (bw.mapFields (·.setIfInBounds 3 dB))).get? b=h'.get? b:=fun b ar=>bc.get?_update_other _ _ (ea ar)
  have OB:kG (h'.update dF (bw.mapFields (·.setIfInBounds 3 dB))) a (.ref C) d dF dB:=⟨ey,vs,_,_,(other a (ea l4)).trans uq,hc,ed,hd,aj,l4,bc.get?_update_self _ wN (bw.isFreed_of_fields (bw.data_mapFields ic _)),bw.data_mapFields ic _,by simp[zc],j8⟩
  have C8:∀b o,b≠Cl->b≠dF->r2.get? b=J o->(h'.update dF (bw.mapFields (·.setIfInBounds 3 dB))).get? b=J o:=fun b o gD f3 e=>(other b f3).trans (nN.extBut b o gD e)
  have Oz:(h'.update dF (bw.mapFields (·.setIfInBounds 3 dB))).FunFrames X.base (X.env::X.outer):=NG lC fun b o ar e jS=>C8 b o (fun z=>OJ (z ▸ ar)) (fun z=>by
   rw[z,cf]at e;cases e;exact jS jB ic) e
  generalize (h'.update dF (bw.mapFields (·.setIfInBounds 3 dB)))=HX at OB Oz C8 ⊢
  rw[zh]
  unfold C9 leaving
  refine bH (agq (s:={gI with heap:=HX}) fr Oz aG OB fun oD mq p9 u5 nV Sa=>?_)
  refine zk (s:={gI with heap:=oD}) nV p9 fun acI dh de g8=>?_
  have pX:∀b o,gI.heap.get? b=J o->b≠dF:=fun b o e z=>by rw[z,hr]at e;cases e
  have RS:∀b o,b∉[a,T,Cl]->gI.heap.get? b=J o->∃df,HX.get? b=J {o with slots:=df}:=fun b o ar e=>by
   simp only[dz,List.not_mem_nil,or_false,not_or]at ar
   obtain⟨df,Hx⟩:=ke.slot b o ar.1 (fun z=>ar.2.1 (gX z)) e
   exact⟨df,C8 b _ ar.2.2 (pX b o e) Hx⟩
  have Ja:∀b o,b∉[a,T,Cl]->gI.heap.get? b=J o->b≠mq:=fun b o ar e z=>by
   rcases u5 with y|y
   .exact pX b o e (z.trans y)
   ·obtain⟨df,Cn⟩:=RS b o ar e
    have akX:HX.get? mq=aw:=y
    rw[z,akX]at Cn;cases Cn
  have S:KU (iS X.stack) [a,T,Cl] gI.heap acI:=by
   refine⟨fun b o ar qQ e=>?_,fun b o ar e=>?_⟩
   ·have js:=ar
    simp only[dz,List.not_mem_nil,or_false,not_or]at js
    rw[Oi]at qQ
    refine g8 b o (Ja b o ar e) (Sa.keep b o js.1 (fun z=>pX b o e (gX z)) qQ ?_)
    exact C8 b o js.2.2 (pX b o e) (ke.keep b o js.1 (fun z=>js.2.1 (gX z)) qQ e)
   ·have js:=ar
    simp only[dz,List.not_mem_nil,or_false,not_or]at js
    obtain⟨df,Cn⟩:=RS b o ar e
    obtain⟨lA,abn⟩:=Sa.slot b _ js.1 (fun z=>pX b o e (gX z)) Cn
    exact⟨lA,g8 b _ (Ja b o ar e) abn⟩
  have Dk:∀z,z∈[a,T,Cl]->X.dm.heap.get? z=aw:=fun z bC=>by
   simp only[dz,List.not_mem_nil,or_false]at bC
   rcases bC with rfl|rfl|rfl
   .exact i7
   .exact ih
   .exact zt
  have Ct:∀z,z∈[a,T,Cl]->ax z=aw:=fun z bC=>by
   simp only[dz,List.not_mem_nil,or_false]at bC
   rcases bC with rfl|rfl|rfl
   .exact fa
   .exact j7
   .exact ia
  obtain⟨u,hk⟩:=UL aa hex S Dk Ct
  have PT:mq∉[a,T,Cl]->gI.heap.get? mq=aw:=fun bC=>by
   cases e:gI.heap.get? mq with
   |none=>rfl
   |some o=>exact absurd I (Ja mq o bC e)
  have f2:ax mq=aw:=by
   by_cases bC:mq∈[a,T,Cl]
   .exact Ct _ bC
   .exact aa.aP.none (PT bC)
  have en:X.dm.heap.get? mq=aw:=by
   by_cases bC:mq∈[a,T,Cl]
   .exact Dk _ bC
   ·cases e:X.dm.heap.get? mq with
    |none=>rfl
    |some o =>
     obtain⟨ee,e'⟩:=aa.base.there mq o e (by rw[hex];simp)
     rw[PT bC]at e';cases e'
  exact⟨a,C,d,ax,mq,I,aa.os,aa.bare,u,hk,dh,fa,f2,i7,en,q⟩
 unfold PySem.passOn
 refine bH (ja uq hd aj ?_)
 rw[if_neg (show ¬((ao.ref dF == ao.none)=ah)from by simp)]
 exact bH (cA step fun _ nO h=>wpAny_throw h)
noncomputable def abc(Y:bz)(E:bR):ao->aJ->Prop:=fun e aF=>∃(ak:List (ae×bw))(cz:St)(H1:au)(s1:aJ),Inv Y ak cz H1 s1/\fH Y.prog Y.w Y.stack H1 s1 E e aF
noncomputable def lX(X:bz)(E:bR)(cX:Scope)(cl:List (af×ae))(C:ae)(N:List af)(s2:aJ)(ax:au)(bQ:List ae):bz:=(Hs X cX cl C N s2 ax bQ).nT (abc (Hs X cX cl C N s2 ax bQ) E)
theorem YB{cl:List (af×ae)}{N:List af}{s2:aJ}:vL (fH X.prog X.w) (lX X E cX cl C N s2 ax bQ) fun _=>E :=
 fun ak ab H s e aF aa h=>⟨ak,ab,H,s,aa.mh,h⟩
section
variable {X:bz} {elt h1 iter:b5} {ifs:List b5} {cX:Scope} {aR p:Pos} {e8:List (Nat×af)} {f7:List af} {hZ:d8} {g:gW} {gy:hl} {cG:TE}
set_option maxHeartbeats 1000000
theorem F2{Q:bB}
  (Px:(X.xe=C9 X E/\X.stack=X.env::X.outer/\X.env.frame=J X.env.locals/\X.ex=[])\/∀c d H,¬E c d H) (hc:X.calm=ah) (si:yA cX (e8.map (·.2))=ah) (qR:rn X e8) (aC:jd X h1 iter hZ)
  (aH:∀cl C s2 ax bQ,oa (lX X E cX cl C (f7++e8.map (·.2)) s2 ax bQ) h1 g)
  (aT:∀cl C s2 ax bQ,vK (lX X E cX cl C (f7++e8.map (·.2)) s2 ax bQ) ifs gy)
  (he:∀cl C s2 ax bQ,bX (lX X E cX cl C (f7++e8.map (·.2)) s2 ax bQ) elt cG)
  (aa:Inv X ak ab H s) (h:DJ hZ g gy cG (ow f7 e8) ab H Q)
  (cZ:∀D C H' aF,Inv X ak ab H' aF->Q (.ref D) H'->H' C=aw->C≠X.env.locals->X.dm.heap.objs.size<=C->(∀x c,X.env.cells.lookup x=J c->c≠C)->(∀p∈X.pn++ak,p.1≠C)->(∃m,aF.heap.Ns C m)->
   compPost (model X.prog X.w) X.A X.xe use Qf (.ref D) C (.ok .next) aF)
  (hs:∀x,foldedSetIterable iter X.env x=pure x:=by intro _;rfl) :
  bM (model X.prog X.w) X.A (comprehension (.ListComp elt [⟨h1,iter,ifs,0⟩] cX aR) cX X.env p (newList []) ag (eval iter X.env) use) Qf X.xe s:=by
 simp only[yA,hK,jf,beq_iff_eq,bne_iff_ne,Bool.or_eq_true,List.contains_iff_mem]at si
 obtain⟨⟨⟨⟨fO,fh⟩,iT⟩,w5⟩,mP⟩:=si
 have adP:∀y∈cX.names,y.2=.local->cX.names.lookup y.1=J .local:=fun y bP aB=>(iT y bP).resolve_left fun z=>z aB
 have N5:=qR.at
 have lx:∀y∈cX.names,y.2=.free->∃c,X.env.cells.lookup y.1=J c:=fun y bP aG=>by
  have hm:=(w5 y bP).resolve_left fun z=>z aG
  obtain⟨q,aW,e⟩:=List.mem_map.mp hm
  have:=(N5 q aW).2
  rw[e]at this
  exact aa.ok.has _ this
 obtain⟨cl,qS,ie,ib,_⟩:=F3 cX.names lx [] (fun x c e=>by cases e)
 have ac4:closureFor cX X.env=pure cl:=by
  refine(show closureFor cX X.env=(_ >>= pure)from rfl).trans ((congrArg (· >>= pure) qS).trans ?_)
  rfl
 refine wpAny_comprehension_free (use:=use) I hs ac4 fO adP (cA (aC ak s ab H _ aa h) fun v s1 aj=>cA aj fun I3 s2 aq=>?_)
 obtain⟨it,bQ,bV,dQ,ax,e,bJ,T,kc,f2,l6⟩:=aq
 subst e
 have jo:ax s2.heap.objs.size=aw:=bJ.fresh
 obtain⟨W,⟨m0,jY⟩,turn⟩:=l6 _ jo
 refine wpAny_newObj_type (wpAny_newFunctionEnv fh (by intro y bP;simp at bP) (fun hB IK CZ=>?_) fO)
 dsimp only at IK CZ ⊢
 generalize H2:s2.heap.push {cls :=.type "list",dict:=aw,data :=.seq ([]:List ao).toArray}=bA at IK CZ ⊢
 have ia:bA.objs.size=s2.heap.objs.size+1:=by rw[<-H2,bc.size_push]
 have OL:s2.heap.objs.size≠bA.objs.size:=by rw[ia];exact fC (Nat.lt_succ_self _)
 have Cw:s2.heap.objs.size<=bA.objs.size:=by rw[ia];exact Nat.le_succ _
 have below:∀b,b<s2.heap.objs.size->b≠bA.objs.size:=fun b ar=>by rw[ia];exact fC (Nat.lt_succ_of_lt ar)
 have old:∀b o,s2.heap.get? b=J o->hB.get? b=J o:=fun b o e=>CZ.extBut b o (below b (d9 e)) (er _ (H2 ▸ er _ e))
 have acX:hB.get? s2.heap.objs.size=J {cls :=.type "list",dict:=aw,data :=.seq ([]:List ao).toArray}:=CZ.extBut _ _ OL (er _ (H2 ▸ ha _ rfl))
 have ab0:ax bA.objs.size=aw:=bJ.aP.fresh Cw
 have HG:∀b∈bQ,b<s2.heap.objs.size:=fun b ar=>by
  obtain⟨o,aK,_⟩:=T.obj _ _ kc b ar
  exact d9 aK
 let mv:=lX X E cX cl bA.objs.size (f7++e8.map (·.2)) s2 ax bQ
 have agE:mv.Ok:=by
  refine⟨bJ.ok.mod,fO,bJ.ok.glob,bJ.ok.blt,Cw,fun x y c ay bP=>bJ.ok.inj x y c (ie _ _ ay) (ie _ _ bP),fun x ay=>?_,(fun x c aG=>nomatch aG),bJ.ok.hd,bJ.ok.frames,.inl I,fun b ar=>⟨below b (HG b ar),fun x c ay=>(f2 b ar).2.2.2.2.1 x c (ie _ _ ay)⟩,bJ.bs,
   eE bJ.ok.ou bJ.c0,fun b o e ar=>?_,fun b ar z=>?_,bJ.stack,bJ.zX⟩
  .exact ib (x,.free) (E4 (Mb ay fh)) I
  ·rcases(f2 b ar).2.2.2.1 with z|z
   .exact bJ.ok.uK b o e z
   .exact absurd (fB (d9 e) bJ.ok.ou) (Nat.not_lt.mpr z)
  ·rcases dz.mp (bJ.sS b z)with q|q
   .exact(f2 b ar).2.1 q
   .exact(f2 b ar).2.2.1 q
 have akt:fV (iS X.stack) bQ ax (upd ax s2.heap.objs.size (.lst [])) s2.heap hB:=fV.laid old (cE _) jo
 have adZ:fA X.prog X.w (upd ax s2.heap.objs.size (.lst [])) hB:=bJ.aP.laid old (cE _) ⟨UF _,[],0,.nil,acX⟩
 have pg:∀cp,Inv mv [] (ow f7 e8 ab) (upd ax s2.heap.objs.size (.lst [])) {s2 with heap:=hB,toks:=cp}:=fun cp=>by
  refine⟨agE,I,bJ.bare,akt,⟨_,IK,fun i x v aI aL dS=>?_⟩,fun x c ay=>?_,?_,fun x c ay=>?_,fun q aW=>?_,adZ,?_⟩
  ·
   obtain⟨l9,_,ju⟩:=bJ.loc
   have jv:f7.length<=i:=by
    rcases j4 i f7.length with z|z
    ·have:(ow f7 e8 ab)[i]?=J aw:=by
      unfold ow
      rw[List.getElem?_append_left (by simpa using z),List.getElem?_replicate,if_pos z]
     rw[this]at aL
     cases aL
    .exact z
   have yB:(f7++e8.map (·.2))[i]?=J x:=aI
   rw[List.getElem?_append_right jv,gf]at yB
   have Hv:(e8.map fun p=>(ab[p.1]?).join)[i-f7.length]?=J (J v):=by
    have:(ow f7 e8 ab)[i]?=(e8.map fun p=>(ab[p.1]?).join)[i-f7.length]?:=by
     unfold ow
     rw[List.getElem?_append_right (by simpa using jv),List.length_replicate]
    rw[<-this]
    exact aL
   rw[gf]at Hv
   cases aW:e8[i-f7.length]? with
   |none=>rw[aW]at yB;cases yB
   | some q =>
    rw[aW]at yB Hv
    obtain rfl:q.2=x:=gX yB
    have Co:(ab[q.1]?).join=J v:=gX Hv
    have jU:ab[q.1]?=J (J v):=by
     cases z:ab[q.1]? with
     |none=>rw[z]at Co;cases Co
     |some y=>rw[z]at Co;exact congrArg J Co
    have Pp:q∈e8:=kl aW
    obtain⟨fo,en⟩:=N5 q Pp
    have aen:A0 X.env.scope q.2:=by
     rcases en with z|z
     .exact .inr (.inl z)
     .exact .inr (.inr z)
    obtain⟨u,gS,pU⟩:=ju q.1 q.2 v fo jU aen
    have yU:cX.names.lookup q.2=J .free:=mP q.2 (List.mem_map_of_mem Pp)
    refine⟨u,gS,.inr ⟨Ma yU,?_⟩⟩
    rcases pU with⟨z,_⟩|⟨_,c,CH,iE,CU,IM⟩
    .rcases en with y|y<;>(rw[y]at z;cases z)
    ·obtain⟨ix,pR⟩:=ib (q.2,.free) (E4 yU) rfl
     have:=ie _ _ pR
     rw[CH]at this
     cases this
     exact⟨c,pR,iE,old _ _ CU,IM⟩
  ·obtain⟨v,o,aK,hd⟩:=bJ.cell x c (ie _ _ ay)
   exact⟨v,o,old _ _ aK,hd⟩
  ·show upd ax s2.heap.objs.size (.lst []) bA.objs.size=aw
   rw[bO (ea OL)]
   exact ab0
  ·have Il:=bJ.kx x c (ie _ _ ay)
   obtain⟨v,o,aK,hd⟩:=bJ.cell x c (ie _ _ ay)
   rw[bO (fC (d9 aK))]
   exact Il
  ·have:q∈([]:List (ae×bw)):=aW
   cases this
  ·show(ow f7 e8 ab).length=(f7++e8.map (·.2)).length
   simp[ow]
 have uX:∀{pins':List (ae×bw)}{H':au},(∀b∈bQ,H' b=aw)->(∀q∈pins',q.1∉bQ)->∀b∈bQ,qo mv pins' H' b:=fun bo bj b ar =>
  ⟨bo b ar,below b (HG b ar),fun z=>by
   rcases dz.mp (bJ.sS b z)with q|q
   .exact(f2 b ar).2.1 q
   .exact(f2 b ar).2.2.1 q,.inl ar,fun x c ay=>(f2 b ar).2.2.2.2.1 x c (ie _ _ ay),fun q aW z=>bj q aW (z ▸ ar)⟩
 have Jf:∀q∈([]:List (ae×bw)),q.1∉bQ:=fun _ z=>nomatch z
 have RR:bV 0 hB:=T.keep _ _ _ kc fun b ar o e=>old b o e
 have ab4:∀b∈bQ,(upd ax s2.heap.objs.size (.lst [])) b=aw:=fun b ar=>by
  rw[bO (fC (HG b ar))]
  exact(f2 b ar).1
 have err:∀e gI,mv.xe e gI->notedBy (model X.prog X.w) X.A (compEnvC cX cl bA.objs.size X.env) (fun e aF=>compPost (model X.prog X.w) X.A X.xe use Qf (.ref s2.heap.objs.size) bA.objs.size (.error e) aF) e gI:=by
  rintro e gI ⟨agR,cz,H1,s1,aU,a,C,d,Kx,dF,rfl,os,bare,un,aP,lp,fa,j7,i7,ih,q⟩
  obtain⟨zh,jT,adm,hex⟩:=Px.resolve_right fun z=>z _ _ _ q
  have rv:Inv (Hs X cX cl bA.objs.size (f7++e8.map (·.2)) s2 ax bQ) agR cz Kx gI:=aU.yy (ch:=[]) os un aP bare (fun b z=>absurd z (by simp))
  have Tf:Inv X ak ab Kx gI:=bJ.yy rv.os rv.base rv.aP rv.bare fun b ar=>⟨(f2 b ar).2.2.2.1,(f2 b ar).2.1,(f2 b ar).2.2.2.2.1,(f2 b ar).2.2.2.2.2⟩
  have P8:∀b,s1.heap.get? b=aw->X.dm.heap.get? b=aw:=fun b ar=>by
   cases z:X.dm.heap.get? b with
   |none=>rfl
   | some o =>
    obtain⟨ee,e'⟩:=bJ.base.there b o z (by rw[hex];simp)
    have agl:b∉bQ:=fun hm=>by
     rcases(f2 b hm).2.2.2.1 with y|y
     .rw[hex]at y;cases y
     .exact absurd (d9 z) (Nat.not_lt.mpr y)
    obtain⟨amC,Oh⟩:=aU.base.there b ee e' agl
    rw[ar]at Oh;cases Oh
  refine Zz zh jT adm hex Tf lp fa j7 (P8 a i7) (P8 dF ih) q rv.free ?_ ?_ ?_ I
  .exact bc.get?_none_of_le (eE bJ.c0 Cw)
  ·intro hm
   obtain⟨_,o,aK,_⟩:=bJ.stack.mem hm
   exact below _ (d9 aK) I
  ·obtain⟨m,hm,_⟩:=rv.loc
   exact⟨m,hm⟩
 have loop:∀sT:aJ,sT={s2 with heap:=hB,toks:=s2.toks+([]:List (af×ao)).length}->
   k3 (model X.prog X.w) X.A (.compLoop (.ListComp elt [⟨h1,iter,ifs,0⟩] cX aR) 0 (.ref it) (.ref s2.heap.objs.size) (compEnvC cX cl bA.objs.size X.env))
    (compPost (model X.prog X.w) X.A X.xe use Qf (.ref s2.heap.objs.size) bA.objs.size) sT:=by
  rintro sT rfl
  refine Yo (fun n aF=>∃i bU H',Inv mv [] bU H' aF/\bV i aF.heap/\(∀b∈bQ,H' b=aw)/\W i n bU H') ?_ m0 ⟨0,_,_,pg _,RR,ab4,jY⟩
  rintro n hE ⟨i,k1,Ag,h4,mc,yG,o3⟩
  rcases turn i n k1 Ag o3 with⟨stop,uR⟩|⟨go,step⟩
  ·refine cA (T.done mv I I I hc i [] hE k1 Ag _ h4 (uX yG Jf) mc stop) fun r rb bE=>?_
   obtain⟨az,vo⟩:=bE
   subst az
   have un:=vo.base
   refine cZ _ _ Ag rb (bJ.yy vo.os un vo.aP vo.bare fun b ar=>?_) uR vo.free ?_ (eE bJ.c0 Cw) ?_ ?_ ?_
   .exact⟨(f2 b ar).2.2.2.1,(f2 b ar).2.1,(f2 b ar).2.2.2.2.1,(f2 b ar).2.2.2.2.2⟩
   .exact ea (below _ bJ.lt)
   ·intro x c ay
    obtain⟨v,o,aK,hd⟩:=bJ.cell x c ay
    exact below c (d9 aK)
   ·intro q aW
    obtain⟨e,_⟩:=bJ.pin q aW
    exact below _ (d9 e)
   ·obtain⟨m,hm,_⟩:=vo.loc
    exact⟨m,hm⟩
  ·refine cA (T.item mv I I I hc i [] hE k1 Ag _ h4 (uX yG Jf) mc go) fun r rb bE=>?_
   obtain⟨u,az,bW⟩:=bE
   subst az
   refine cA bW fun _ xi bE=>?_
   obtain⟨x,gb,n5,uS,Kb,k0,HH⟩:=bE
   have Et:=n5.pinned (uX HH Jf) (T.obj _ _ k0)
   refine jD (aH _ _ _ _ _ _ xi k1 gb x u _ Et uS (step x gb Kb)) (fun _ uT bE=>?_) fun e gI z=>err e gI z
   obtain⟨xx,fS,n6,Jn⟩:=bE
   have again:∀{k2:St}{iq:au}{p2:aJ}{b8:Nat},Inv mv ([]++zE bQ xi.heap) k2 iq p2->b8<n->W (i+1) b8 k2 iq->∃m,m<n/\∃i bU H',Inv mv [] bU H' p2/\bV i p2.heap/\(∀b∈bQ,H' b=aw)/\W i m bU H':=fun{k2 iq p2 b8}j2 hm z0=>by
    refine⟨b8,hm,i+1,k2,iq,j2.DS,T.keep _ _ _ k0 fun b ar o e=>(j2.pin (b,o) (nf _ (nf _ (Bs ar e)))).1,fun b ar=>?_,z0⟩
    obtain⟨o,e,d⟩:=T.obj _ _ k0 b ar
    exact(j2.pin (b,o) (nf _ (nf _ (Bs ar e)))).2.1
   refine jD (aT _ _ _ _ _ _ uT xx fS _ n6 Jn) (fun ok p2 bE=>?_) fun e gI z=>err e gI z
   obtain⟨iq,j2,oX⟩:=bE
   cases ok with
   |false =>
    obtain⟨b8,hm,z0⟩:=oX
    exact again j2 hm z0
   |true =>
    refine jD (he _ _ _ _ _ _ p2 xx iq _ j2 oX) (fun akY gI bE=>?_) fun e gI z=>err e gI z
    obtain⟨y,m8,rv,aiW,agW⟩:=bE
    obtain⟨xs,b8,dH,bC,hm,akv⟩:=agW
    refine jD (tu (X:=mv) _ gI xx m8 (.ref s2.heap.objs.size) [y] (.ref s2.heap.objs.size) [akY] (fun _ Es=>W (i+1) b8 xx Es) rv I (.cons aiW .nil) ⟨_,xs,y,I,I,dH,bC,akv⟩) (fun _ amG bE=>?_) fun e gI z=>err e gI z
    obtain⟨_,Es,Td,_,agX⟩:=bE
    exact again Td hm agX
 exact codeAny_compStart_list (loop _ I) (T.self _ 0 _ _ _ RR (loop _ I))
theorem TR{g:vd gW}{gy:vd hl}{cG:vd TE}(f7:List af)(e8:List (Nat×af))(zh:X.xe=C9 X E)(hc:X.calm=ah)(si:yA cX (e8.map (·.2))=ah)(qR:rn X e8)(aC:jd X h1 iter hZ)
  (aH:∀cl C s2 ax bQ,oa (lX X E cX cl C (f7++e8.map (·.2)) s2 ax bQ) h1 (g cl C s2 ax bQ))
  (aT:∀cl C s2 ax bQ,vK (lX X E cX cl C (f7++e8.map (·.2)) s2 ax bQ) ifs (gy cl C s2 ax bQ))
  (he:∀cl C s2 ax bQ,bX (lX X E cX cl C (f7++e8.map (·.2)) s2 ax bQ) elt (cG cl C s2 ax bQ))
  (mB:∀cl C s2 ax bQ,g cl C s2 ax bQ=g [] 0 X.dm X.hi []:=by intros;rfl) (ll:∀cl C s2 ax bQ,gy cl C s2 ax bQ=gy [] 0 X.dm X.hi []:=by intros;rfl) (pJ:∀cl C s2 ax bQ,cG cl C s2 ax bQ=cG [] 0 X.dm X.hi []:=by intros;rfl)
  (jT:X.stack=X.env::X.outer:=by rfl) (lx:X.env.frame=J X.env.locals:=by rfl) (hex:X.ex=[]:=by rfl)
  (hs:∀x,foldedSetIterable iter X.env x=pure x:=by intro _;rfl) :
  bX X (.ListComp elt [⟨h1,iter,ifs,0⟩] cX aR) (DJ hZ (g [] 0 X.dm X.hi []) (gy [] 0 X.dm X.hi []) (cG [] 0 X.dm X.hi []) (ow f7 e8)):=by
 intro ak s ab H Q aa h
 rw[eval_ListComp]
 refine F2 (use:=aw) (.inl ⟨zh,jT,lx,hex⟩) hc si qR aC (fun cl C s2 ax bQ=>mB cl C s2 ax bQ ▸ aH cl C s2 ax bQ) (fun cl C s2 ax bQ=>ll cl C s2 ax bQ ▸ aT cl C s2 ax bQ) (fun cl C s2 ax bQ=>pJ cl C s2 ax bQ ▸ he cl C s2 ax bQ) aa h (fun D C H' aF gz q ia aj aq bl bW bE=>?_) hs
 obtain⟨m,hm⟩:=bE
 refine⟨m,hm,fun h' zb=>?_⟩
 exact⟨.ref D,H',gz.turned (t':=aF.toks) (fun b o ar e=>zb.extBut b o ar e) ia aj (.inr aq) bl bW,I,q⟩
end
theorem Zj{st:br}{sp:b3}(M:MethAt K C m dJ st ps)(h:∀vs H Q E,¬sp vs H Q E):jF P w K mg base k C m ps sp:=by
 obtain⟨f,fd,F,ar,hm⟩:=M.ex
 exact⟨f,fd,⟨fun vs H Q E q=>absurd q (h _ _ _ _),fun A outer s H args us vs Q E _ _ _ _ q=>absurd q (h _ _ _ _)⟩,ar,hm⟩
end dT
end
section
namespace dT
open PySem PySem.W PySem.Spec PyProof.Rows PySem.SeqAt
mutual
noncomputable def jN:D->Nat
 |.bK=>1
 |.aN _=>1
 |.int _=>1
 |.str _=>1
 |.tup ds=>hP ds+1
 |.lst ds=>hP ds+1
noncomputable def hP:List D->Nat
 |[]=>0
 |d::ds=>max (jN d) (hP ds)
end
section
variable {X:bz} {ak:List (ae×bw)} {ab:St} {H:au} {s:aJ} {A:di} {a1 a2:ae} {alH alI:List D} {amJ amK:List V}
end
end dT
end
variable {vs:List dT.V} {d:dT.D}
section
namespace dT
open PySem PySem.W PySem.Spec PyProof.Rows
structure e7 where
 has:ae->Prop
noncomputable instance:Membership ae e7:=⟨fun X a=>X.has a⟩
noncomputable def e7.rS(l:ae)(X:e7):e7:=⟨fun a=>a=l\/a∈X⟩
theorem e7.hd{l:ae}{X:e7}:l∈e7.rS l X :=.inl rfl
theorem e7.eg{l:ae}{X:e7}(h:a∈X):a∈e7.rS l X :=.inr h
noncomputable def e7.of(H:au):e7:=⟨fun a=>∃o,H a=J o⟩
mutual
noncomputable def dj{α:Type}[Membership ae α](X:α)(H:au):D->V->Prop
 |.bK,v=>v=.bK
 |.aN b,v=>v=.aN b
 |.int i,v=>v=.int i
 |.str s,v=>v=.str s/\s.length<=100000
 |.tup ds,v=>∃a vs,v=.ref a/\a∉X/\H a=J (.tup vs)/\dc X H ds vs/\vs.length<=1000
 |.lst ds,v=>∃a vs,v=.ref a/\a∉X/\H a=J (.lst vs)/\dc X H ds vs/\vs.length<=1000
noncomputable def dc{α:Type}[Membership ae α](X:α)(H:au):List D->List V->Prop
 |[],vs=>vs=[]
 |d::ds,vs=>∃v r,vs=v::r/\dj X H d v/\dc X H ds r
end
mutual
theorem dj.at{α:Type}[Membership ae α]{X:α}{H:au}:∀(d:D){v:V},dj X H d v->h3 H d v
 |.bK,v,h=>h
 |.aN b,v,h=>h
 |.int i,v,h=>h
 |.str t,v,h=>h
 |.tup ds,v,h=>by
  obtain⟨a,vs,e,n,gY,q,z⟩:=h
  exact⟨a,vs,e,gY,dc.at ds q,z⟩
 |.lst ds,v,h=>by
  obtain⟨a,vs,e,n,gY,q,z⟩:=h
  exact⟨a,vs,e,gY,dc.at ds q,z⟩
theorem dc.at{α:Type}[Membership ae α]{X:α}{H:au}:∀(ds:List D){vs:List V},dc X H ds vs->gK H ds vs
 |[],vs,h=>h
 |d::ds,vs,h=>by
  obtain⟨v,r,e,q,cN⟩:=h
  exact⟨v,r,e,dj.at d q,dc.at ds cN⟩
end
mutual
theorem dj.keep{α:Type}[Membership ae α]{X:α}{H H':au}(s:∀b u,b∉X->H b=J u->H' b=J u):∀(d:D){v:V},dj X H d v->dj X H' d v
 |.bK,v,h=>h
 |.aN b,v,h=>h
 |.int i,v,h=>h
 |.str t,v,h=>h
 |.tup ds,v,h=>by
  obtain⟨a,vs,e,n,gY,q,z⟩:=h
  exact⟨a,vs,e,n,s _ _ n gY,dc.keep s ds q,z⟩
 |.lst ds,v,h=>by
  obtain⟨a,vs,e,n,gY,q,z⟩:=h
  exact⟨a,vs,e,n,s _ _ n gY,dc.keep s ds q,z⟩
theorem dc.keep{α:Type}[Membership ae α]{X:α}{H H':au}(s:∀b u,b∉X->H b=J u->H' b=J u):∀(ds:List D){vs:List V},dc X H ds vs->dc X H' ds vs
 |[],vs,h=>h
 |d::ds,vs,h=>by
  obtain⟨v,r,e,q,cN⟩:=h
  exact⟨v,r,e,dj.keep s d q,dc.keep s ds cN⟩
end
mutual
theorem dj.add{X:List ae}{H:au}{l:ae}(aB:H l=aw):∀(d:D){v:V},dj X H d v->dj (l::X) H d v
 |.bK,v,h=>h
 |.aN b,v,h=>h
 |.int i,v,h=>h
 |.str t,v,h=>h
 |.tup ds,v,h=>by
  obtain⟨a,vs,e,n,gY,q,z⟩:=h
  exact⟨a,vs,e,fun y=>(dz.mp y).elim (fun y=>by rw[y,aB]at gY;cases gY) n,gY,dc.add aB ds q,z⟩
 |.lst ds,v,h=>by
  obtain⟨a,vs,e,n,gY,q,z⟩:=h
  exact⟨a,vs,e,fun y=>(dz.mp y).elim (fun y=>by rw[y,aB]at gY;cases gY) n,gY,dc.add aB ds q,z⟩
theorem dc.add{X:List ae}{H:au}{l:ae}(aB:H l=aw):∀(ds:List D){vs:List V},dc X H ds vs->dc (l::X) H ds vs
 |[],vs,h=>h
 |d::ds,vs,h=>by
  obtain⟨v,r,e,q,cN⟩:=h
  exact⟨v,r,e,dj.add aB d q,dc.add aB ds cN⟩
end
mutual
theorem dj.weak{α:Type}[Membership ae α]{X Y:α}{H:au}(hs:∀x,x∈X->x∈Y):∀(d:D){v:V},dj Y H d v->dj X H d v
 |.bK,v,h=>h
 |.aN b,v,h=>h
 |.int i,v,h=>h
 |.str t,v,h=>h
 |.tup ds,v,h=>by
  obtain⟨a,vs,e,n,gY,q,z⟩:=h
  exact⟨a,vs,e,fun y=>n (hs _ y),gY,dc.weak hs ds q,z⟩
 |.lst ds,v,h=>by
  obtain⟨a,vs,e,n,gY,q,z⟩:=h
  exact⟨a,vs,e,fun y=>n (hs _ y),gY,dc.weak hs ds q,z⟩
theorem dc.weak{α:Type}[Membership ae α]{X Y:α}{H:au}(hs:∀x,x∈X->x∈Y):∀(ds:List D){vs:List V},dc Y H ds vs->dc X H ds vs
 |[],vs,h=>h
 |d::ds,vs,h=>by
  obtain⟨v,r,e,q,cN⟩:=h
  exact⟨v,r,e,dj.weak hs d q,dc.weak hs ds cN⟩
end
theorem dj.same[Membership ae α]{X:α}(s:eD H H'){v:V}(h:dj X H d v):dj X H' d v:=dj.keep (fun b u _ e=>s b u e) d h
theorem dc.same[Membership ae α]{X:α}(s:eD H H'){ds:List D}(h:dc X H ds vs):dc X H' ds vs:=dc.keep (fun b u _ e=>s b u e) ds h
theorem dc.snoc{α:Type}[Membership ae α]{X:α}{H:au}{d:D}{v:V}(hd:dj X H d v):∀(ds:List D){vs:List V},dc X H ds vs->dc X H (ds++[d]) (vs++[v])
 |[],vs,h=>by
  obtain rfl:vs=[]:=h
  exact⟨v,[],I,hd,I⟩
 |e::ds,vs,h=>by
  obtain⟨w,r,rfl,q,cN⟩:=h
  exact⟨w,r++[v],I,q,dc.snoc hd ds cN⟩
end dT
end
variable {e:Bool} {N B':Nat} {r y:List Bool} {β:Type}
section
namespace gc
open PySem dT
inductive R (α:Type) where
 |ok (a:α) (s:List Bool)
 |no (w:Bool) (k:Nat)
 |st
noncomputable def R.bd{α β:Type}:R α->(α->List Bool->R β)->R β
 |.ok a s,f=>f a s
 |.no w k,_ =>.no w k
 |.st,_ =>.st
noncomputable def R.bV{α:Type}:R α->R α
 |.ok a s =>.ok a (s.map (!·))
 |.no w k =>.no w k
 |.st =>.st
noncomputable def eY(e u:Bool):List Bool->R Bool
 |b::s =>.ok b s
 |[]=>if e=ah then .ok u []else .no ag 0
noncomputable def gN(e:Bool):Nat->Nat->List Bool->R Nat
 |0,n,s =>.ok n s
 |w+1,n,s=>(eY e ag s).bd fun b s=>gN e w (2*n+b.toNat) s
noncomputable def jm(e:Bool):Nat->Bool->Nat->List Bool->R Nat
 |0,_,a,s =>.ok a s
 |m+1,u,a,s=>(eY e u s).bd fun b s=>if b=ah then jm e m ag (a+1) s else .ok a s
noncomputable def d3(e u:Bool)(s:List Bool):R Nat:=(jm e 7 u 0 s).bd fun a s=>(gN e a 1 s).bd fun g s=>(gN e (g-1) 1 s).bd fun m s =>.ok (m-1) s
noncomputable def ku(e:Bool)(s:List Bool):R Int:=(eY e ag s).bd fun b s=>if b=ah then(d3 e ag s).bd fun n s =>.ok ((n:Nat):Int) s else((d3 e ag (s.map (!·))).bd fun n s =>.ok (-1-((n:Nat):Int)) s).bV
noncomputable def fx(e:Bool)(m:Nat):Nat->Nat->List Bool->R Nat
 |0,n,s =>.ok n s
 |k+1,n,s=>(eY e ag s).bd fun b s=>if m/2^k<2*n+b.toNat then .no ah s.length else fx e m k (2*n+b.toNat) s
noncomputable def dU(e:Bool):Nat->Bool->List Int->List Bool->R (List Int)
 |0,_,_,_ =>.st
 |m+1,u,a,s=>(eY e u s).bd fun b s=>if b=ah then((d3 e ah (s.map (!·))).bd fun n s=>dU e m (n == 0) (a++[((n:Nat):Int)+1]) s).bV else .ok a s
noncomputable def kP(N:Nat)(e:Bool)(s:List Bool):R (List Int):=(ku e s).bd fun a s=>(dU e N ag [a] s).bd fun st s=>if gE st=ah then .ok st s else .no ah s.length
theorem nn(s:List Bool):(s.map (!·)).map (!·)=s:=by
 rw[iL]
 have:((fun x:Bool=>!x) ∘ fun x=>!x)=id:=by funext x;cases x<;>rfl
 rw[this,List.map_id]
variable {s:List Bool}
theorem eM{r:R α}{f:α->List Bool->R β}{b:β}(h:r.bd f=.ok b s):∃a aF,r=.ok a aF/\f a aF=.ok b s:=by
 cases r with
 |ok a aF=>exact⟨a,aF,I,h⟩
 |no w k=>cases h
 |st=>cases h
theorem rP{r:R α}{a:α}(h:r.bV=.ok a s):r=.ok a (s.map (!·)):=by
 cases r with
 |ok b aF =>
  injection h with aj aq
  rw[aj,<-aq,nn]
 |no w k=>cases h
 |st=>cases h
structure cg{α:Type}(F:List Bool->R α):Prop where
 ok:∀s z a r,F s=.ok a r->F (s++z)=.ok a (r++z)
 wr:∀s z k,F s=.no ah k->F (s++z)=.no ah (k+z.length)
 st:∀s z,F s=.st->F (s++z)=.st
theorem cg.pure(a:α):cg (fun s=>R.ok a s):=⟨fun s z b r h=>by injection h with aj aq;rw[aj,aq],fun s z k h=>(nomatch h),fun s z h=>(nomatch h)⟩
theorem cg.kd:cg (fun s=>(R.no ah s.length:R α)):=⟨fun s z b r h=>(nomatch h),fun s z k h=>by injection h with _ aq;show R.no ah (s++z).length=_;rw[cD,aq],fun s z h=>(nomatch h)⟩
theorem cg.stuck:cg (fun _=>(R.st:R α)):=⟨fun s z b r h=>(nomatch h),fun s z k h=>(nomatch h),fun s z h=>rfl⟩
theorem cg.ite[Decidable c]{F G:List Bool->R α}(bx:cg F)(hG:cg G):cg (fun s=>if c then F s else G s):=by
 by_cases h:c
 .simp only[if_pos h];exact bx
 .simp only[if_neg h];exact hG
theorem cg.bd{F:List Bool->R α}{G:α->List Bool->R β}(bx:cg F)(hG:∀a,cg (G a)):cg (fun s=>(F s).bd G):=by
 refine⟨fun s z b r h=>?_,fun s z k h=>?_,fun s z h=>?_⟩
 ·obtain⟨a,aF,aj,aq⟩:=eM h
  show(F (s++z)).bd G=_
  rw[bx.ok s z a aF aj]
  exact(hG a).ok _ _ _ _ aq
 ·cases aj:F s with
  |ok a aF =>
   have h:(F s).bd G=_:=h
   rw[aj]at h
   show(F (s++z)).bd G=_
   rw[bx.ok s z a aF aj]
   exact(hG a).wr _ _ _ h
  |no w eH =>
   have h:(F s).bd G=_:=h
   rw[aj]at h
   injection h with aI aL
   subst aI
   show(F (s++z)).bd G=_
   rw[bx.wr s z eH aj,<-aL];rfl
  |st =>
   have h:(F s).bd G=_:=h
   rw[aj]at h;cases h
 ·cases aj:F s with
  |ok a aF =>
   have h:(F s).bd G=_:=h
   rw[aj]at h
   show(F (s++z)).bd G=_
   rw[bx.ok s z a aF aj]
   exact(hG a).st _ _ h
  |no w eH =>
   have h:(F s).bd G=_:=h
   rw[aj]at h;cases h
  |st =>
   show(F (s++z)).bd G=_
   rw[bx.st s z aj];rfl
theorem cg.bV{F:List Bool->R α}(bx:cg F):cg (fun s=>(F (s.map (!·))).bV):=by
 refine⟨fun s z b r h=>?_,fun s z k h=>?_,fun s z h=>?_⟩
 ·have:=bx.ok _ (z.map (!·)) _ _ (rP h)
  show(F ((s++z).map _)).bV=_
  rw[fk,this]
  show R.ok b _=_
  rw[fk,nn,nn]
 ·have h:(F (s.map (!·))).bV=_:=h
  cases aj:F (s.map (!·))with
  |no w eH =>
   rw[aj]at h
   injection h with aI aL
   subst aI
   show(F ((s++z).map _)).bV=_
   rw[fk,bx.wr _ _ _ aj,cC,<-aL];rfl
  |ok a aF=>rw[aj]at h;cases h
  |st=>rw[aj]at h;cases h
 ·have h:(F (s.map (!·))).bV=_:=h
  cases aj:F (s.map (!·))with
  |st =>
   show(F ((s++z).map _)).bV=_
   rw[fk,bx.st _ _ aj];rfl
  |ok a aF=>rw[aj]at h;cases h
  |no w k=>rw[aj]at h;cases h
theorem cg.of{F G:List Bool->R α}(h:cg G)(e:∀s,F s=G s):cg F:=by
 have:F=G:=funext e
 rw[this];exact h
theorem mx(u:Bool):cg (eY ag u):=⟨fun s z a r h=>by
 cases s with
 |nil=>cases h
 |cons b s=>injection h with aj aq;rw[<-aj,<-aq];rfl,(fun s z k h=>by cases s<;>cases h),(fun s z h=>by cases s<;>cases h)⟩
theorem yj:∀w n,cg (gN ag w n)
 |0,n=>cg.pure n
 |w+1,n=>(mx ag).bd fun b=>yj w _
theorem Hf:∀m u a,cg (jm ag m u a)
 |0,u,a=>cg.pure a
 |m+1,u,a=>(mx u).bd fun b=>cg.ite (Hf m ag _) (cg.pure a)
theorem tQ(u:Bool):cg (d3 ag u):=(Hf 7 u 0).bd fun a=>(yj a 1).bd fun g=>(yj (g-1) 1).bd fun m=>cg.pure (m-1)
theorem Cj:cg (ku ag):=(mx ag).bd fun b=>cg.ite ((tQ ag).bd fun n=>cg.pure _) (cg.bV (F:=fun s=>(d3 ag ag s).bd fun n s =>.ok (-1-((n:Nat):Int)) s) ((tQ ag).bd fun n=>cg.pure _))
theorem tO(m:Nat):∀k n,cg (fx ag m k n)
 |0,n=>cg.pure n
 |k+1,n=>(mx ag).bd fun b=>cg.ite cg.kd (tO m k _)
theorem Lp:∀m u a,cg (dU ag m u a)
 |0,u,a=>cg.stuck
 |m+1,u,a=>(mx u).bd fun b=>cg.ite (cg.bV (F:=fun s=>(d3 ag ah s).bd fun n s=>dU ag m (n == 0) (a++[((n:Nat):Int)+1]) s) ((tQ ah).bd fun n=>Lp m _ _)) (cg.pure a)
theorem Np(N:Nat):cg (kP N ag):=Cj.bd fun a=>(Lp N ag [a]).bd fun st=>cg.ite (cg.pure st) cg.kd
theorem cg.cut{F:List Bool->R α}(bx:cg F){a:α}(h:F (s++y)=.ok a [])(bP:y≠[]):∃k,F s=.no ag k:=by
 cases aj:F s with
 |ok b r =>
  have:=bx.ok s y b r aj
  rw[h]at this
  injection this with _ aq
  exact absurd (List.append_eq_nil_iff.mp aq.symm).2 bP
 | no w k =>
  cases w with
  |false=>exact⟨k,I⟩
  |true =>
   have:=bx.wr s y k aj
   rw[h]at this;cases this
 |st =>
  have:=bx.st s y aj
  rw[h]at this;cases this
variable {u:Bool}
theorem oy{b:Bool}(h:eY ag u s=.ok b r):s=b::r:=by
 cases s with
 |nil=>cases h
 |cons c s=>injection h with aj aq;rw[aj,aq]
theorem Hd:∀{w n v:Nat}{s r:List Bool},gN ag w n s=.ok v r->∃x,x.length=w/\s=x++r/\v=mV n x
 |0,n,v,s,r,h=>by
  injection h with aj aq
  exact⟨[],I,aq,aj.symm⟩
 |w+1,n,v,s,r,h=>by
  obtain⟨b,aF,aj,aq⟩:=eM h
  obtain⟨x,ay,hs,bg⟩:=Hd aq
  exact⟨b::x,by rw[dZ,ay],by rw[oy aj,hs];rfl,bg⟩
theorem LK:∀{m a k:Nat}{u:Bool}{s r:List Bool},jm ag m u a s=.ok k r->a<=k/\k<=a+m/\s=List.replicate (k-a) ah++((if k=a+m then []else [ag])++r)
 |0,a,k,u,s,r,h=>by
  injection h with aj aq
  subst aj aq
  refine⟨cE _,cE _,?_⟩
  rw[Nat.sub_self,if_pos (Nat.add_zero _).symm];rfl
 | m+1,a,k,u,s,r,h=>by
  obtain⟨b,aF,aj,aq⟩:=eM h
  rw[oy aj]
  cases b with
  |true =>
   obtain⟨ew,eA,oR⟩:=LK (show jm ag m ag (a+1) aF=.ok k r from aq)
   refine⟨by omega,by omega,?_⟩
   rw[oR,show k-a=(k-(a+1))+1 by omega,List.replicate_succ,show a+1+m=a+(m+1) by omega];rfl
  |false =>
   injection aq with aI aL
   subst aI aL
   refine⟨cE _,by omega,?_⟩
   rw[Nat.sub_self,if_neg (by omega)];rfl
theorem B9(h:d3 ag u s=.ok n r):n+1<2^255/\s=cnt n++r:=by
 obtain⟨a,s1,aj,h⟩:=eM h
 obtain⟨g,s2,aq,h⟩:=eM h
 obtain⟨m,hE,bl,h⟩:=eM h
 injection h with aI aL
 obtain⟨_,a7,dd⟩:=LK aj
 obtain⟨x,ay,ex,mB⟩:=Hd aq
 obtain⟨y,bP,abZ,em⟩:=Hd bl
 obtain⟨g1,g2,g3⟩:=Ny x 1 (by decide)
 obtain⟨f6,l9,De⟩:=Ny y 1 (by decide)
 rw[<-mB,Nw,ay]at g1
 rw[<-em,Nw,bP]at f6
 rw[<-mB,ay]at g2
 rw[<-em,bP]at l9
 rw[<-em]at De
 have al2:g≠0:=by rw[mB];exact g3
 have g0:n+1=m:=by omega
 have bm:ba m=g:=by omega
 have alM:g<=255:=by
  have:=rL g
  rw[g1]at this
  have:(2:Nat)^(1+a)<=2^8:=Nat.pow_le_pow_right (by decide) (by omega)
  omega
 refine⟨?_,?_⟩
 ·rw[g0]
  refine fB (rL m) (Nat.pow_le_pow_right (by decide) (by omega))
 ·unfold cnt
  rw[g0,bm,g1,show 1+a-1=a by omega,g2,l9,dd,ex,abZ,<-aL]
  have qD:ks (1+a)=if a=0+7 then []else [ag]:=by
   unfold ks
   by_cases z:a=7
   .rw[if_pos (by omega),if_pos (by omega)]
   .rw[if_neg (by omega),if_neg (by omega)]
  rw[qD]
  simp only[Nat.sub_zero,e2]
theorem LG{n:Int}(h:ku ag s=.ok n r):(-(2^255)<n/\n<2^255-1)/\s=iW n++r:=by
 obtain⟨b,s1,aj,h⟩:=eM h
 rw[oy aj]
 cases b with
 |true =>
  obtain⟨k,s2,aq,h⟩:=eM (show(d3 ag ag s1).bd _=_ from h)
  injection h with aI aL
  obtain⟨gD,f3⟩:=B9 aq
  subst aI aL
  refine⟨by omega,?_⟩
  unfold iW
  rw[if_neg (by omega),f3,Int.toNat_natCast];rfl
 |false =>
  obtain⟨k,s2,aq,h⟩:=eM (rP (show R.bV _=_ from h))
  injection h with aI aL
  obtain⟨gD,f3⟩:=B9 aq
  subst aI
  refine⟨by omega,?_⟩
  unfold iW
  have:=congrArg (List.map (!·)) f3
  rw[nn,fk,aL,nn]at this
  rw[if_pos (by omega),this,show(-1-(-1-(k:Int))).toNat=k by omega];rfl
theorem B8{m:Nat}:∀{k n v:Nat}{s r:List Bool},n<=m/2^k->fx ag m k n s=.ok v r->v<=m/\v/2^k=n/\s=el v k++r
 |0,n,v,s,r,bo,h=>by
  injection h with aj aq
  subst aj aq
  rw[Nat.pow_zero,Nat.div_one]at bo ⊢
  exact⟨bo,I,I⟩
 | k+1,n,v,s,r,bo,h=>by
  obtain⟨b,aF,aj,aq⟩:=eM h
  rw[oy aj]
  by_cases c:m/2^k<2*n+b.toNat
  ·have aq:(if m/2^k<2*n+b.toNat then R.no ah aF.length else fx ag m k (2*n+b.toNat) aF)=.ok v r:=aq
   rw[if_pos c]at aq;cases aq
  ·have aq:(if m/2^k<2*n+b.toNat then R.no ah aF.length else fx ag m k (2*n+b.toNat) aF)=.ok v r:=aq
   rw[if_neg c]at aq
   obtain⟨ew,eA,oR⟩:=B8 (by omega) aq
   refine⟨ew,?_,?_⟩
   ·rw[Nat.pow_succ,<-Nat.div_div_eq_div_mul,eA]
    cases b
    .show(2*n+0)/2=n;omega
    .show(2*n+1)/2=n;omega
   ·rw[el,oR,Nat.testBit,Nat.shiftRight_eq_div_pow,eA]
    cases b
    ·have:((1 &&& (2*n+ag.toNat)) != 0)=ag:=by
      rw[Nat.one_and_eq_mod_two];show((2*n+0)%2 != 0)=ag;rw[show(2*n+0)%2=0 by omega];rfl
     rw[this];rfl
    ·have:((1 &&& (2*n+ah.toNat)) != 0)=ah:=by
      rw[Nat.one_and_eq_mod_two];show((2*n+1)%2 != 0)=ah;rw[show(2*n+1)%2=1 by omega];rfl
     rw[this];rfl
def vp(x:List Int):Prop:=∀y∈x,1<=y/\(y-1).toNat+1<2^255
theorem LI:∀{m:Nat}{u:Bool}{a st:List Int}{s r:List Bool},dU ag m u a s=.ok st r->∃x,st=a++x/\s=more x++r/\vp x/\x.length<m
 |0,u,a,st,s,r,h=>(nomatch h)
 | m+1,u,a,st,s,r,h=>by
  obtain⟨b,s1,aj,h⟩:=eM h
  rw[oy aj]
  cases b with
  | true =>
   obtain⟨n,s2,aq,h⟩:=eM (rP (show R.bV _=_ from h))
   obtain⟨gD,f3⟩:=B9 aq
   obtain⟨x,aI,aL,dS,eZ⟩:=LI h
   have:=congrArg (List.map (!·)) f3
   rw[nn,aL]at this
   refine⟨(((n:Nat):Int)+1)::x,by rw[aI,e2];rfl,?_,?_,by rw[dZ];omega⟩
   ·rw[more,this,show((n:Nat):Int)+1-1=((n:Nat):Int) by omega,Int.toNat_natCast]
    simp only[fk,e2,List.cons_append,nn]
   ·intro y bP
    rcases dz.mp bP with rfl|z
    .exact⟨by omega,by omega⟩
    .exact dS y z
  |false =>
   injection h with aI aL
   exact⟨[],by rw[List.append_nil,aI],by rw[aL];rfl,fun y bP=>(nomatch bP),by rw[List.length_nil];omega⟩
theorem Vp{st:List Int}(h:kP N ag s=.ok st r):Good st/\st.length<=N/\s=l0 st++r/\(∀y∈st.take 1,-(2^255)<y/\y<2^255-1)/\vp (st.drop 1):=by
 obtain⟨a,s1,aj,h⟩:=eM h
 obtain⟨x,s2,aq,h⟩:=eM h
 obtain⟨gD,f3⟩:=LG aj
 obtain⟨y,aI,aL,dS,eZ⟩:=LI aq
 by_cases c:gE x=ah
 ·have h:(if gE x=ah then R.ok x s2 else .no ah s2.length)=_:=h
  rw[if_pos c]at h
  injection h with ew eA
  subst ew eA aI
  refine⟨(vW _).mp c,by rw[cD];show 1+_<=_;omega,?_,fun z bC=>?_,dS⟩
  .rw[f3,aL,<-e2];rfl
  .rw[fU.mp bC];exact gD
 ·have h:(if gE x=ah then R.ok x s2 else .no ah s2.length)=_:=h
  rw[if_neg c]at h
  cases h
theorem Lk{e:Bool}:∀(x:List Bool)(n:Nat)(r:List Bool),gN e x.length n (x++r)=.ok (mV n x) r
 |[],n,r=>rfl
 |b::x,n,r=>Lk x _ r
theorem NL{x:List Bool}{w:Nat}(h:x.length=w)(n:Nat)(r:List Bool):gN e w n (x++r)=.ok (mV n x) r:=by rw[<-h];exact Lk x n r
theorem LL{e:Bool}:∀(k m a:Nat)(u:Bool)(r:List Bool),k<=m->jm e m u a (List.replicate k ah++((if k=m then []else [ag])++r))=.ok (a+k) r
 |0,0,a,u,r,_=>rfl
 |0,m+1,a,u,r,_=>rfl
 |k+1,0,a,u,r,h=>absurd h (by omega)
 | k+1,m+1,a,u,r,h=>by
  have:=LL (e:=e) k m (a+1) ag r (by omega)
  rw[List.replicate_succ]
  show jm e m ag (a+1) (List.replicate k ah++_)=_
  have qD:(if k+1=m+1 then([]:List Bool)else [ag])=if k=m then []else [ag]:=by
   by_cases z:k=m
   .rw[if_pos z,if_pos (by omega)]
   .rw[if_neg z,if_neg (by omega)]
  rw[qD,this,show a+1+k=a+(k+1) by omega]
theorem Ca(h:n+1<2^255)(r:List Bool):d3 e u (cnt n++r)=.ok n r:=by
 have hd:ba (n+1)<=255:=hn h
 have bj:0<ba (n+1):=rI (by omega)
 have he:ba (ba (n+1))<=8:=hn (by omega)
 have aW:0<ba (ba (n+1)):=rI (by omega)
 unfold d3 cnt
 have qD:ks (ba (ba (n+1)))=if ba (ba (n+1))-1=7 then []else [ag]:=by
  unfold ks
  by_cases z:ba (ba (n+1))=8
  .rw[if_pos z,if_pos (by omega)]
  .rw[if_neg z,if_neg (by omega)]
 rw[qD]
 simp only[e2]
 rw[LL _ 7 0 u _ (by omega)]
 show(gN e (0+(ba (ba (n+1))-1)) 1 _).bd _=_
 rw[Nat.zero_add,NL (la _ _),K4 (by omega)]
 show(gN e (ba (n+1)-1) 1 _).bd _=_
 rw[NL (la _ _),K4 (by omega)]
 rfl
theorem LH{n:Int}(h : -(2^255)<n/\n<2^255-1)(r:List Bool):ku e (iW n++r)=.ok n r:=by
 unfold iW
 by_cases c:n<0
 ·rw[if_pos c]
  show((d3 e ag (((cnt (-1-n).toNat).map (!·)++r).map (!·))).bd _).bV=_
  rw[fk,nn,Ca (by omega)]
  show R.ok _ _=_
  rw[nn,show -1-(((-1-n).toNat:Nat):Int)=n by omega]
 ·rw[if_neg c]
  show(d3 e ag (cnt n.toNat++r)).bd _=_
  rw[Ca (by omega)]
  show R.ok _ _=_
  rw[show((n.toNat:Nat):Int)=n by omega]
theorem Lq{e:Bool}{m v:Nat}(bg:v<=m):∀(k:Nat)(r:List Bool),fx e m k (v/2^k) (el v k++r)=.ok v r
 |0,r=>by
  show R.ok _ _=_
  rw[Nat.pow_zero,Nat.div_one];rfl
 | k+1,r=>by
  rw[el]
  show(if m/2^k<2*(v/2^(k+1))+(v.testBit k).toNat then R.no ah _ else fx e m k (2*(v/2^(k+1))+(v.testBit k).toNat) _)=_
  have aI:2*(v/2^(k+1))+(v.testBit k).toNat=v/2^k:=by
   rw[Nat.testBit_eq_decide_div_mod_eq,Nat.pow_succ,<-Nat.div_div_eq_div_mul]
   generalize v/2^k=q
   by_cases z:q%2=1
   .simp[z];omega
   .simp[z];omega
  rw[aI,if_neg (Nat.not_lt.mpr (Nat.div_le_div_right bg))]
  exact Lq bg k r
theorem LJ{e:Bool}:∀(x:List Int)(m:Nat)(u:Bool)(a:List Int)(r:List Bool),x.length<m->vp x->dU e m u a (more x++r)=.ok (a++x) r
 |x,0,u,a,r,h,_=>absurd h (by omega)
 |[],m+1,u,a,r,_,_=>by
  show R.ok a r=_
  rw[List.append_nil]
 |y::x,m+1,u,a,r,h,aC=>by
  obtain⟨aj,aq⟩:=aC y (hM ..)
  rw[more]
  show((d3 e ah (((cnt (y-1).toNat++more x).map (!·)++r).map (!·))).bd _).bV=_
  rw[fk,nn,e2,Ca aq]
  show(dU e m _ (a++[(((y-1).toNat:Nat):Int)+1]) (more x++r.map (!·))).bV=_
  rw[LJ x m _ _ _ (by rw[dZ]at h;omega) (fun z bC=>aC z (fD _ bC)),show(((y-1).toNat:Nat):Int)+1=y by omega]
  show R.ok _ _=_
  rw[nn,e2];rfl
theorem Vq{st:List Int}(aH:Good st)(aB:st.length<=N)(aj:∀y∈st.take 1,-(2^255)<y/\y<2^255-1)(aq:vp (st.drop 1))(r:List Bool):kP N e (l0 st++r)=.ok st r:=by
 obtain⟨a,x,rfl⟩:=List.exists_cons_of_ne_nil aH.ne
 unfold kP
 rw[l0,e2,LH (aj a (fU.mpr rfl))]
 show(dU e N ag [a] _).bd _=_
 rw[LJ x N ag [a] r (by rw[dZ]at aB;omega) aq]
 show(if gE (a::x)=ah then R.ok _ _ else _)=_
 rw[if_pos ((vW _).mpr aH)];rfl
structure c7{α:Type}(B:Nat)(fQ:List Bool->R α)(ep:Bool->List Bool->R α):Prop where
 ok:∀s a r,fQ s=.ok a r->∀e,ep e s=.ok a r
 wr:∀s k,fQ s=.no ah k->∀e,ep e s=.no ah k
 kZ:∀s k,fQ s=.no ag k->∃a y,ep ah s=.ok a []/\ep ag (s++y)=.ok a []/\y.length<=B
def gA{α:Type}(F:List Bool->R α):Prop:=F [] =.no ag 0\/∃a,F [] =.ok a []
theorem gA.bd{F:List Bool->R α}{G:α->List Bool->R β}(h:gA F)(k:∀a,F [] =.ok a []->gA (G a)):gA fun s=>(F s).bd G:=by
 rcases h with h|⟨a,h⟩
 .exact .inl (by show(F []).bd G=_;rw[h];rfl)
 ·have:=k a h
  unfold gA
  dsimp only
  rw[h];exact this
theorem c7.le{fQ:List Bool->R α}{ep:Bool->List Bool->R α}(h:c7 B fQ ep)(ar:B<=B'):c7 B' fQ ep:=⟨h.ok,h.wr,fun s k q=>by
 obtain⟨a,y,aj,aq,bl⟩:=h.kZ s k q
 exact⟨a,y,aj,aq,by omega⟩⟩
theorem c7.pure(a:α):c7 0 (fun s=>R.ok a s) (fun _ s=>R.ok a s):=⟨fun s b r h e=>h,fun s k h=>(nomatch h),fun s k h=>(nomatch h)⟩
theorem c7.kd:c7 0 (fun s=>(R.no ah s.length:R α)) (fun _ s=>R.no ah s.length):=⟨fun s b r h e=>h,fun s k h e=>h,fun s k h=>(nomatch h)⟩
theorem c7.ite[Decidable c]{fQ G0:List Bool->R α}{ep G1:Bool->List Bool->R α}(bx:c->c7 B fQ ep)(hG:¬c->c7 B G0 G1):c7 B (fun s=>if c then fQ s else G0 s) (fun e s=>if c then ep e s else G1 e s):=by
 by_cases h:c
 .simp only[if_pos h];exact bx h
 .simp only[if_neg h];exact hG h
theorem c7.Hm{Pa:α->Prop}{xD:Nat}{fQ:List Bool->R α}{ep:Bool->List Bool->R α}{G0:α->List Bool->R β}{G1:α->Bool->List Bool->R β}(bx:c7 B fQ ep)(ny:cg (ep ag))(ck:∀e a s r,ep e s=.ok a r->Pa a)(gG:∀a,Pa a->c7 B' (G0 a) (G1 a))(hG:∀a,Pa a->gA (G0 a))(gD:∀a k,Pa a->G0 a [] =.no ag k->∃b y,G1 a ah [] =.ok b []/\G1 a ag y=.ok b []/\B+y.length<=xD)(f3:B'<=xD)(pG:B<=xD):c7 xD (fun s=>(fQ s).bd G0) (fun e s=>(ep e s).bd fun a s=>G1 a e s):=by
 refine⟨fun s b r h e=>?_,fun s k h e=>?_,fun s k h=>?_⟩
 ·obtain⟨a,aF,aj,aq⟩:=eM h
  have f:=bx.ok s a aF aj
  show(ep e s).bd _=_
  rw[f e]
  exact(gG a (ck _ _ _ _ (f e))).ok _ _ _ aq e
 ·have h:(fQ s).bd G0=_:=h
  show(ep e s).bd _=_
  cases aj:fQ s with
  |ok a aF =>
   rw[aj]at h
   have f:=bx.ok s a aF aj
   rw[f e]
   exact(gG a (ck _ _ _ _ (f e))).wr _ _ h e
  |no w eH =>
   rw[aj]at h
   injection h with aI aL
   subst aI aL
   rw[bx.wr s eH aj e];rfl
  |st=>rw[aj]at h;cases h
 ·have h:(fQ s).bd G0=_:=h
  cases aj:fQ s with
  | ok a aF =>
   rw[aj]at h
   have f:=bx.ok s a aF aj
   obtain⟨b,y,g1,g2,g3⟩:=(gG a (ck _ _ _ _ (f ah))).kZ _ _ h
   refine⟨b,y,?_,?_,by omega⟩
   ·show(ep ah s).bd _=_
    rw[f ah];exact g1
   ·show(ep ag (s++y)).bd _=_
    rw[ny.ok _ y _ _ (f ag)];exact g2
  | no w eH =>
   rw[aj]at h
   injection h with aI aL
   subst aI
   obtain⟨a,y,f1,f2,hq⟩:=bx.kZ s eH aj
   have nM:=ck _ _ _ _ f1
   obtain⟨b,z,g1,g2,g3⟩:∃b z,G1 a ah [] =.ok b []/\G1 a ag z=.ok b []/\B+z.length<=xD:=by
    rcases hG a nM with n|⟨b,n⟩
    .exact gD a _ nM n
    .exact⟨b,[],(gG a nM).ok _ _ _ n ah,(gG a nM).ok _ _ _ n ag,by simpa using pG⟩
   refine⟨b,y++z,?_,?_,by rw[cD];omega⟩
   ·show(ep ah s).bd _=_
    rw[f1];exact g1
   ·show(ep ag (s++(y++z))).bd _=_
    rw[<-e2,ny.ok _ z _ _ f2];exact g2
  |st=>rw[aj]at h;cases h
theorem c7.bd{Pa:α->Prop}{fQ:List Bool->R α}{ep:Bool->List Bool->R α}{G0:α->List Bool->R β}{G1:α->Bool->List Bool->R β}(bx:c7 B fQ ep)(ny:cg (ep ag))(ck:∀e a s r,ep e s=.ok a r->Pa a)(gG:∀a,Pa a->c7 B' (G0 a) (G1 a))(hG:∀a,Pa a->gA (G0 a)):c7 (B+B') (fun s=>(fQ s).bd G0) (fun e s=>(ep e s).bd fun a s=>G1 a e s):=bx.Hm ny ck gG hG (fun a k nM n=>by
 obtain⟨b,y,aj,aq,bl⟩:=(gG a nM).kZ [] k n
 exact⟨b,y,aj,aq,by omega⟩) (by omega) (by omega)
theorem c7.map{fQ:List Bool->R α}{ep:Bool->List Bool->R α}(f:α->β)(bx:c7 B fQ ep)(ny:cg (ep ag)):c7 B (fun s=>(fQ s).bd fun a s =>.ok (f a) s) (fun e s=>(ep e s).bd fun a s =>.ok (f a) s):=bx.bd (Pa:=fun _=>True) (B':=0) (G0:=fun a s =>.ok (f a) s) (G1:=fun a _ s =>.ok (f a) s) ny (fun _ _ _ _ _=>trivial) (fun a _=>c7.pure _) fun a _ =>.inr ⟨_,rfl⟩
theorem c7.bV{fQ:List Bool->R α}{ep:Bool->List Bool->R α}(h:c7 B fQ ep):c7 B (fun s=>(fQ (s.map (!·))).bV) (fun e s=>(ep e (s.map (!·))).bV):=by
 refine⟨fun s b r q e=>?_,fun s k q e=>?_,fun s k q=>?_⟩
 ·show(ep e (s.map (!·))).bV=_
  rw[h.ok _ _ _ (rP q) e]
  show R.ok _ _=_
  rw[nn]
 ·have q:(fQ (s.map (!·))).bV=_:=q
  show(ep e (s.map (!·))).bV=_
  cases aj:fQ (s.map (!·))with
  |no w eH =>
   rw[aj]at q
   injection q with aI aL
   subst aI aL
   rw[h.wr _ _ aj e];rfl
  |ok a aF=>rw[aj]at q;cases q
  |st=>rw[aj]at q;cases q
 ·have q:(fQ (s.map (!·))).bV=_:=q
  cases aj:fQ (s.map (!·))with
  | no w eH =>
   rw[aj]at q
   injection q with aI aL
   subst aI
   obtain⟨a,y,g1,g2,g3⟩:=h.kZ _ _ aj
   refine⟨a,y.map (!·),?_,?_,by rw[cC];exact g3⟩
   ·show(ep ah (s.map (!·))).bV=_
    rw[g1];rfl
   ·show(ep ag ((s++y.map (!·)).map (!·))).bV=_
    rw[fk,nn,g2];rfl
  |ok a aF=>rw[aj]at q;cases q
  |st=>rw[aj]at q;cases q
theorem c7.of{fQ G0:List Bool->R α}{ep G1:Bool->List Bool->R α}(h:c7 B G0 G1)(e:∀s,fQ s=G0 s)(aI:∀b s,ep b s=G1 b s):c7 B fQ ep:=by
 have a:fQ=G0:=funext e
 have b:ep=G1:=funext fun b=>funext fun s=>aI b s
 rw[a,b];exact h
theorem Cd(u:Bool):c7 1 (eY ag u) (fun e=>eY e u):=by
 refine⟨fun s b r h e=>?_,fun s k h e=>?_,fun s k h=>?_⟩
 .rw[oy h];rfl
 .cases s<;>cases h
 ·cases s with
  |nil=>exact⟨u,[u],I,I,cE _⟩
  |cons b s=>cases h
theorem BQ(w n:Nat):gA (gN ag w n):=by
 cases w with
 |zero=>exact .inr ⟨n,I⟩
 |succ w=>exact .inl I
theorem GU:∀w n,c7 w (gN ag w n) (fun e=>gN e w n)
 |0,n=>c7.pure n
 |w+1,n=>((Cd ag).bd (Pa:=fun _=>True) (G0:=fun b=>gN ag w (2*n+b.toNat)) (G1:=fun b e=>gN e w (2*n+b.toNat)) (mx ag) (fun _ _ _ _ _=>trivial) (fun b _=>GU w _) fun b _=>BQ w _).le (by omega)
theorem V4(m:Nat)(u:Bool)(a:Nat):gA (jm ag m u a):=by
 cases m with
 |zero=>exact .inr ⟨a,I⟩
 |succ m=>exact .inl I
theorem Lu:∀m u a,c7 m (jm ag m u a) (fun e=>jm e m u a)
 |0,u,a=>c7.pure a
 | m+1,u,a=>((Cd u).bd (Pa:=fun _=>True) (B':=m) (G0:=fun b s=>if b=ah then jm ag m ag (a+1) s else .ok a s) (G1:=fun b e s=>if b=ah then jm e m ag (a+1) s else .ok a s) (mx u) (fun _ _ _ _ _=>trivial) (fun b _=>c7.ite (fun _=>Lu m ag _) (fun _=>(c7.pure a).le (by omega))) fun b _=>by
   cases b with
   |true=>exact V4 m ag _
   |false=>exact .inr ⟨a,I⟩).le (by omega)
theorem GS{e:Bool}:∀{w n v:Nat}{s r:List Bool},gN e w n s=.ok v r->v<(n+1)*2^w
 |0,n,v,s,r,h=>by
  injection h with aj aq
  omega
 | w+1,n,v,s,r,h=>by
  obtain⟨b,aF,aj,aq⟩:=eM h
  have:=GS aq
  have ar:b.toNat<=1:=by cases b<;>decide
  have bl:(2*n+b.toNat+1)*2^w<=(n+1)*2^(w+1):=by
   rw[Nat.pow_succ,Nat.mul_comm (2^w) 2,<-Nat.mul_assoc]
   exact Nat.mul_le_mul_right _ (by omega)
  omega
theorem Hg{e:Bool}:∀{m a k:Nat}{u:Bool}{s r:List Bool},jm e m u a s=.ok k r->k<=a+m
 |0,a,k,u,s,r,h=>by
  injection h with aj aq
  omega
 | m+1,a,k,u,s,r,h=>by
  obtain⟨b,aF,aj,aq⟩:=eM h
  cases b with
  |true =>
   have:=Hg (show jm e m ag (a+1) aF=.ok k r from aq)
   omega
  |false =>
   injection aq with aI aL
   omega
theorem By{a g:Nat}(bf:a<=7)(h:gN e a 1 s=.ok g r):g-1<=254:=by
 have aj:=GS h
 have aq:(2:Nat)^a<=2^7:=Nat.pow_le_pow_right (by decide) bf
 omega
theorem G2(u:Bool):c7 270 (d3 ag u) (fun e=>d3 e u) :=
 ((Lu 7 u 0).bd (Pa:=fun a=>a<=7) (B':=261) (G0:=fun a s=>(gN ag a 1 s).bd fun g s=>(gN ag (g-1) 1 s).bd fun m s =>.ok (m-1) s) (G1:=fun a e s=>(gN e a 1 s).bd fun g s=>(gN e (g-1) 1 s).bd fun m s =>.ok (m-1) s) (Hf 7 u 0) (fun e a s r h=>by have:=Hg h;omega)
  (fun a bf=>((GU a 1).bd (Pa:=fun g=>g-1<=254) (B':=254) (G0:=fun g s=>(gN ag (g-1) 1 s).bd fun m s =>.ok (m-1) s) (G1:=fun g e s=>(gN e (g-1) 1 s).bd fun m s =>.ok (m-1) s) (yj a 1) (fun e g s r h=>By bf h) (fun g aH=>((GU (g-1) 1).map (fun m=>m-1) (yj _ 1)).le aH) fun g _=>(BQ _ _).bd fun m _ =>.inr ⟨_,rfl⟩).le (by omega))
  fun a _=>(BQ _ _).bd fun g _=>(BQ _ _).bd fun m _ =>.inr ⟨_,rfl⟩).le (by omega)
theorem Of:c7 271 (ku ag) ku:=(Cd ag).bd (Pa:=fun _=>True) (B':=270) (G0:=fun b s=>if b=ah then(d3 ag ag s).bd fun n s =>.ok ((n:Nat):Int) s else((d3 ag ag (s.map (!·))).bd fun n s =>.ok (-1-((n:Nat):Int)) s).bV) (G1:=fun b e s=>if b=ah then(d3 e ag s).bd fun n s =>.ok ((n:Nat):Int) s else((d3 e ag (s.map (!·))).bd fun n s =>.ok (-1-((n:Nat):Int)) s).bV) (mx ag) (fun _ _ _ _ _=>trivial) (fun b _=>c7.ite (fun _=>(G2 ag).map (fun n=>((n:Nat):Int)) (tQ ag)) fun _=>c7.bV ((G2 ag).map (fun n => -1-((n:Nat):Int)) (tQ ag))) fun b _=>by cases b<;>exact .inl I
theorem G5(h:n<=m/2^(k+1)):¬m/2^k<2*n+ag.toNat:=by
 rw[Nat.pow_succ,<-Nat.div_div_eq_div_mul]at h
 show ¬_<2*n+0
 omega
theorem BU(m k n:Nat):gA (fx ag m k n):=by
 cases k with
 |zero=>exact .inr ⟨n,I⟩
 |succ k=>exact .inl I
theorem ym(m:Nat):∀k n,n<=m/2^k->c7 k (fx ag m k n) (fun e=>fx e m k n)
 |0,n,_=>c7.pure n
 | k+1,n,h=>by
  have key:∀b:Bool,c7 k (fun s=>if m/2^k<2*n+b.toNat then R.no ah s.length else fx ag m k (2*n+b.toNat) s) (fun e s=>if m/2^k<2*n+b.toNat then R.no ah s.length else fx e m k (2*n+b.toNat) s):=fun b=>c7.ite (fun _=>c7.kd.le (by omega)) fun c=>ym m k _ (by omega)
  refine⟨fun s b r q e=>?_,fun s j q e=>?_,fun s j q=>?_⟩
  ·cases s with
   |nil=>cases q
   |cons b s=>exact(key b).ok s _ _ q e
  ·cases s with
   |nil=>cases q
   |cons b s=>exact(key b).wr s _ q e
  ·cases s with
   | nil =>
    have c:=G5 h
    have E:=ym m k (2*n+ag.toNat) (by omega)
    have aI:∀e s,fx e m (k+1) n (ag::s)=fx e m k (2*n+ag.toNat) s:=fun e s=>if_neg c
    have aL:fx ah m (k+1) n []=fx ah m k (2*n+ag.toNat) []:=if_neg c
    rcases BU m k (2*n+ag.toNat)with z|⟨a,z⟩
    ·obtain⟨a,y,aj,aq,bl⟩:=E.kZ [] 0 z
     exact⟨a,ag::y,by rw[aL];exact aj,by rw[List.nil_append,aI];exact aq,by rw[dZ];omega⟩
    .exact⟨a,[ag],by rw[aL];exact E.ok _ _ _ z ah,by rw[List.nil_append,aI];exact z,by show 1<=k+1;omega⟩
   |cons b s =>
    obtain⟨a,y,aj,aq,bl⟩:=(key b).kZ s _ q
    exact⟨a,y,aj,aq,by omega⟩
theorem tP{e:Bool}{m:Nat}:∀{k n v:Nat}{s r:List Bool},n<=m/2^k->fx e m k n s=.ok v r->v<=m
 |0,n,v,s,r,bo,h=>by
  injection h with aj aq
  subst aj aq
  rwa [Nat.pow_zero,Nat.div_one]at bo
 | k+1,n,v,s,r,bo,h=>by
  obtain⟨b,aF,aj,aq⟩:=eM h
  have aq:(if m/2^k<2*n+b.toNat then R.no ah aF.length else fx e m k (2*n+b.toNat) aF)=.ok v r:=aq
  by_cases c:m/2^k<2*n+b.toNat
  .rw[if_pos c]at aq;cases aq
  ·rw[if_neg c]at aq
   exact tP (by omega) aq
theorem GW{v:Nat}(bg:v<=m)(r:List Bool):fx e m (ba m) 0 (el v (ba m)++r)=.ok v r:=by
 have:=Lq (e:=e) bg (ba m) r
 rwa [Nat.div_eq_of_lt (Nat.lt_of_le_of_lt bg (rL m))]at this
theorem GZ(h:d3 e u s=.ok n r):n<2^255:=by
 obtain⟨a,s1,aj,h⟩:=eM h
 obtain⟨g,s2,aq,h⟩:=eM h
 obtain⟨m,hE,bl,h⟩:=eM h
 injection h with aI aL
 have a1:=Hg aj
 have a2:=By (by omega) aq
 have a3:=GS bl
 have a4:(2:Nat)^(g-1)<=2^254:=Nat.pow_le_pow_right (by decide) a2
 have a5:(2:Nat)^255=2*2^254:=by decide
 omega
theorem V2{n:Int}(h:ku e s=.ok n r):n.natAbs<=2^255:=by
 obtain⟨b,s1,aj,h⟩:=eM h
 cases b with
 |true =>
  obtain⟨k,s2,aq,h⟩:=eM (show(d3 e ag s1).bd _=_ from h)
  injection h with aI aL
  have:=GZ aq
  omega
 |false =>
  obtain⟨k,s2,aq,h⟩:=eM (rP (show R.bV _=_ from h))
  injection h with aI aL
  have:=GZ aq
  omega
theorem Nq:d3 ah ah [] =.ok 1 []:=rfl
theorem aal(h:d3 ag ah s=.no ag k)(aj:d3 ah ah s=.ok n [])(aq:d3 ag ah (s++y)=.ok n []):n≠0:=by
 rintro rfl
 obtain⟨_,e⟩:=B9 aq
 rw[List.append_nil,show cnt 0=[ag] by decide+kernel]at e
 cases s with
 |nil=>rw[Nq]at aj;injection aj with z;cases z
 |cons b s =>
  injection e with aI aL
  have:=(List.append_eq_nil_iff.mp aL).1
  subst this aI
  have z:d3 ag ah [ag] =.ok 0 []:=rfl
  rw[z]at h;cases h
def pf(u:Bool)(a:List Int):Prop:=(∃x r,a=x::r/\∀y∈r,1<=y)/\(u=ag->gE a=ah)
theorem pf.step{a:List Int}(h:pf u a)(n:Nat):pf (n == 0) (a++[((n:Nat):Int)+1]):=by
 obtain⟨⟨x,r,rfl,az⟩,_⟩:=h
 refine⟨⟨x,r++[((n:Nat):Int)+1],I,fun y bP=>?_⟩,fun bo=>?_⟩
 ·rcases List.mem_append.mp bP with z|z
  .exact az y z
  .rw[fU.mp z];omega
 ·have bo:n≠0:=by simpa using bo
  refine(vW _).mpr ⟨fun y bP=>?_,fun oL=>?_⟩
  ·rcases List.mem_append.mp bP with z|z
   .exact az y z
   .rw[fU.mp z];omega
  ·have aW:∀(h:r++[((n:Nat):Int)+1]≠[]),2<=(r++[((n:Nat):Int)+1]).getLast h:=fun h=>by rw[List.getLast_append_of_ne_nil _ (ng _ _),List.getLast_singleton];omega
   exact aW oL
theorem tS:∀(m:Nat)(u:Bool)(a:List Int)(s:List Bool),pf u a->
  (∀st r,dU ag m u a s=.ok st r->∀e,dU e (m+2) u a s=.ok st r)/\(∀k,dU ag m u a s=.no ah k->∀e,dU e (m+2) u a s=.no ah k)/\
  (∀k,dU ag m u a s=.no ag k->∃st y,dU ah (m+2) u a s=.ok st []/\dU ag (m+2) u a (s++y)=.ok st []/\y.length<=280/\gE st=ah)
 |0,u,a,s,ez=>⟨fun st r h=>(nomatch h),fun k h=>(nomatch h),fun k h=>(nomatch h)⟩
 | m+1,u,a,[],ez=>by
  refine⟨fun st r h=>(nomatch h),fun k h=>(nomatch h),fun k h=>?_⟩
  cases u with
  |false=>exact⟨a,[ag],I,I,by decide,ez.2 rfl⟩
  | true =>
   refine⟨a++[2],ah::((cnt 1).map (!·)++[ah]),?_,?_,by decide+kernel,(ez.step 1).2 rfl⟩
   ·have aI:dU ah (m+1+2) ah a []=((d3 ah ah []).bd fun n s=>dU ah (m+2) (n == 0) (a++[((n:Nat):Int)+1]) s).bV:=rfl
    rw[aI,Nq]
    rfl
   ·have aI:dU ag (m+1+2) ah a ([]++ah::((cnt 1).map (!·)++[ah]))=((d3 ag ah (((cnt 1).map (!·)++[ah]).map (!·))).bd fun n s=>dU ag (m+2) (n == 0) (a++[((n:Nat):Int)+1]) s).bV:=rfl
    rw[aI,fk,nn,Ca (by decide)]
    rfl
 |m+1,u,a,ag::s,ez=>⟨fun st r h e=>h,fun k h=>(nomatch h),fun k h=>(nomatch h)⟩
 | m+1,u,a,ah::s,ez=>by
  have qC:∀(e:Bool)(m:Nat)(s:List Bool),dU e (m+1) u a (ah::s)=((d3 e ah (s.map (!·))).bd fun n s=>dU e m (n == 0) (a++[((n:Nat):Int)+1]) s).bV:=fun _ _ _=>rfl
  have C:=G2 ah
  refine⟨fun st r h e=>?_,fun k h e=>?_,fun k h=>?_⟩
  ·rw[qC]at h ⊢
   obtain⟨n,aF,aj,aq⟩:=eM (rP h)
   have r1:d3 e ah (s.map (!·))=_:=C.ok _ _ _ aj e
   rw[r1]
   show(dU e (m+2) (n == 0) _ aF).bV=_
   rw[(tS m _ _ aF (ez.step n)).1 _ _ aq e]
   show R.ok _ _=_
   rw[nn]
  ·rw[qC]at h ⊢
   cases aj:d3 ag ah (s.map (!·))with
   | ok n aF =>
    rw[aj]at h
    have r1:d3 e ah (s.map (!·))=_:=C.ok _ _ _ aj e
    rw[r1]
    have h:(dU ag m (n == 0) (a++[((n:Nat):Int)+1]) aF).bV=_:=h
    show(dU e (m+2) (n == 0) _ aF).bV=_
    cases aq:dU ag m (n == 0) (a++[((n:Nat):Int)+1]) aF with
    |no w eH =>
     rw[aq]at h
     injection h with aI aL
     subst aI aL
     rw[(tS m _ _ aF (ez.step n)).2.1 _ aq e];rfl
    |ok _ _=>rw[aq]at h;cases h
    |st=>rw[aq]at h;cases h
   |no w eH =>
    rw[aj]at h
    injection h with aI aL
    subst aI aL
    have r1:d3 e ah (s.map (!·))=_:=C.wr _ _ aj e
    rw[r1];rfl
   |st=>rw[aj]at h;cases h
  ·rw[qC]at h
   cases aj:d3 ag ah (s.map (!·))with
   | ok n aF =>
    rw[aj]at h
    have h:(dU ag m (n == 0) (a++[((n:Nat):Int)+1]) aF).bV=_:=h
    cases aq:dU ag m (n == 0) (a++[((n:Nat):Int)+1]) aF with
    | no w eH =>
     rw[aq]at h
     injection h with aI aL
     subst aI
     obtain⟨st,y,g1,g2,g3,oC⟩:=(tS m _ _ aF (ez.step n)).2.2 _ aq
     refine⟨st,y.map (!·),?_,?_,by rw[cC];exact g3,oC⟩
     ·rw[qC]
      have r1:d3 ah ah (s.map (!·))=_:=C.ok _ _ _ aj ah
      rw[r1]
      show(dU ah (m+2) (n == 0) _ aF).bV=_
      rw[g1];rfl
     ·rw[List.cons_append,qC,fk,nn,(tQ ah).ok _ y _ _ aj]
      show(dU ag (m+2) (n == 0) _ (aF++y)).bV=_
      rw[g2];rfl
    |ok _ _=>rw[aq]at h;cases h
    |st=>rw[aq]at h;cases h
   | no w eH =>
    rw[aj]at h
    injection h with aI aL
    subst aI
    obtain⟨n,y,g1,g2,g3⟩:=C.kZ _ _ aj
    have bo:=aal aj g1 g2
    have ar:(n == 0)=ag:=by simpa using bo
    refine⟨a++[((n:Nat):Int)+1],(y++[ag]).map (!·),?_,?_,by rw[cC,cD];show _+1<=_;omega,(ez.step n).2 ar⟩
    ·rw[qC]
     have g1:d3 ah ah (s.map (!·))=_:=g1
     rw[g1]
     show(dU ah (m+2) (n == 0) _ []).bV=_
     rw[ar];rfl
    ·rw[List.cons_append,qC,fk,nn,<-e2,(tQ ah).ok _ [ag] _ _ g2]
     show(dU ag (m+2) (n == 0) _ ([]++[ag])).bV=_
     rw[ar];rfl
   |st=>rw[aj]at h;cases h
theorem pf.one(a:Int):pf ag [a]:=⟨⟨a,[],rfl,fun y bP=>(nomatch bP)⟩,fun _=>(vW _).mpr ⟨fun y bP=>(nomatch bP),fun h=>absurd rfl h⟩⟩
theorem Uq(aX:1<=N):c7 551 (kP N ag) (kP (N+2)):=Of.bd (Pa:=fun _=>True) (B':=280) (G0:=fun a s=>(dU ag N ag [a] s).bd fun st s=>if gE st=ah then .ok st s else .no ah s.length) (G1:=fun a e s=>(dU e (N+2) ag [a] s).bd fun st s=>if gE st=ah then .ok st s else .no ah s.length) Cj (fun _ _ _ _ _=>trivial) (fun a _=>by
  refine⟨fun s b r h e=>?_,fun s k h e=>?_,fun s k h=>?_⟩
  ·obtain⟨st,aF,aj,aq⟩:=eM h
   show(dU e (N+2) ag [a] s).bd _=_
   rw[(tS N _ _ s (pf.one a)).1 _ _ aj e];exact aq
  ·show(dU e (N+2) ag [a] s).bd _=_
   have h:(dU ag N ag [a] s).bd _=_:=h
   cases aj:dU ag N ag [a] s with
   |ok st aF =>
    rw[aj]at h
    rw[(tS N _ _ s (pf.one a)).1 _ _ aj e];exact h
   |no w eH =>
    rw[aj]at h
    injection h with aI aL
    subst aI aL
    rw[(tS N _ _ s (pf.one a)).2.1 _ aj e];rfl
   |st=>rw[aj]at h;cases h
  ·have h:(dU ag N ag [a] s).bd _=_:=h
   cases aj:dU ag N ag [a] s with
   |ok st aF =>
    rw[aj]at h
    have h:(if gE st=ah then R.ok st aF else .no ah aF.length)=_:=h
    split at h<;>cases h
   | no w eH =>
    rw[aj]at h
    injection h with aI aL
    subst aI
    obtain⟨st,y,g1,g2,g3,oC⟩:=(tS N _ _ s (pf.one a)).2.2 _ aj
    refine⟨st,y,?_,?_,g3⟩
    ·show(dU ah (N+2) ag [a] s).bd _=_
     rw[g1]
     show(if gE st=ah then R.ok st []else .no ah 0)=_
     rw[if_pos oC]
    ·show(dU ag (N+2) ag [a] (s++y)).bd _=_
     rw[g2]
     show(if gE st=ah then R.ok st []else .no ah 0)=_
     rw[if_pos oC]
   |st=>rw[aj]at h;cases h) fun a _ =>.inl (by
 obtain⟨n,rfl⟩:∃n,N=n+1:=⟨N-1,by omega⟩
 rfl)
end gc
end
section
namespace dT
open PySem PySem.W PySem.Spec PyProof.Rows
section
variable {X:bz} {fh eH:Nat} {C:ae} {m:af} {ps:List af} {zM:b3} {e o:b5} {aZ:List b5} {t:gL} {b4:TE} {aR apos:Pos} {E:St->bR}
theorem mw{pl:Sem Bool}(h':jF X.prog X.w X.K X.mg X.base fh C m ps zM)(c:fz X.K C)(az:fj eH X.A)(ay:vL (fH X.prog X.w) X E)(he:bX X o b4)(hk':fh<=eH:=by decide)
  (aT:eval (.Call (.Attribute o m apos) [] [] aR) X.env=(do
   let ov <-eval o X.env
   standAt apos.atName
   let (f,first) <-holding [ov] (getMethod ov m pl)
   callWith aR f first (backTo aR (dt [] X.env)) (backToKw aR (rl [] X.env))):=by rfl) :
  bX X (.Call (.Attribute o m apos) [] [] aR) (fun ab H Q=>b4 ab H fun x H1=>EA C m x H1 (zM [x] H1 Q (E ab))):=by
 obtain⟨f2,ab2,qn,CG,hm⟩:=h'
 intro ak s ab H Q aa aW
 refine z7 (pl:=pl) (cA (he ak s ab H _ aa aW) fun u s1 bE=>?_) aT
 obtain⟨x,H1,aU,bt,a,al,fs,ex,dd,l,cN⟩:=bE
 subst ex
 obtain rfl:u=ao.ref a:=bt
 refine x5 aU dd c hm l ?_
 refine PySem.W.callWith_K0 (first:=[.ref a]) aU.eI hm.iD ?_
 have ef:Vals [V.ref a] [ao.ref a] :=.cons rfl .nil
 have aB:[ao.ref a].length=ps.length:=by rw[<-ef.length];exact qn.len _ _ _ _ cN
 have js:=CG s1 [.ref a] aU.eI (by rw[List.append_nil];exact aB)
 rw[List.append_nil]at js
 refine qc (mi (qn.run X.A X.stack s1 H1 ⟨[.ref a],[]⟩ [.ref a] [.ref a] Q (E ab) (az.mono hk') aU.wu js ef cN) fun r aF aW=>?_)
 cases r with
 |error e=>exact ay ak ab H1 s1 e aF aU aW
 |ok dB =>
  cases dB with
  |ret u=>exact aU.after aW
  |next=>exact False.elim aW
  |brk=>exact False.elim aW
  |cont=>exact False.elim aW
end
section
variable {X:bz} {fh eH:Nat} {m:af} {ps:List af} {lD:Type} {cl:lD->ae} {zM:lD->b3} {e o:b5} {aZ:List b5} {t:gL} {b4:TE} {aR apos:Pos} {E:St->bR}
def m2(P:c1)(w:cH)(K:bN)(mg:af->Option ao)(base:bc)(k:Nat)(m:af)(ps:List af){lD:Type}(cl:lD->ae)(sp:lD->b3):Prop:=∀i,jF P w K mg base k (cl i) m ps (sp i)/\fz K (cl i)
theorem rE{pl:Sem Bool}(h':m2 X.prog X.w X.K X.mg X.base fh m ps cl zM)(az:fj eH X.A)(ay:vL (fH X.prog X.w) X E)(he:bX X o b4)(bf:hH X (e::aZ) t)(hk':fh<=eH:=by decide)
  (jT:dt (e::aZ) X.env=(ag,eval e X.env)::dt aZ X.env:=by rfl) (gk:(backTo aR (dt aZ X.env)).any (·.1)=ag:=by rfl)
  (aT:eval (.Call (.Attribute o m apos) (e::aZ) [] aR) X.env=(do
   let ov <-eval o X.env
   standAt apos.atName
   let (f,first) <-holding [ov] (getMethod ov m pl)
   callWith aR f first (backTo aR (dt (e::aZ) X.env)) (backToKw aR (rl [] X.env))):=by rfl) :
  bX X (.Call (.Attribute o m apos) (e::aZ) [] aR) (fun ab H Q=>b4 ab H fun x H1=>Ez cl m x H1 fun i=>t ab H1 fun vs ax=>zM i (x::vs) ax Q (E ab)):=by
 intro ak s ab H Q aa aW
 refine z7 (pl:=pl) (cA (he ak s ab H _ aa aW) fun u s1 bE=>?_) aT
 obtain⟨x,H1,aU,bt,a,i,al,fs,ex,dd,l,q⟩:=bE
 subst ex
 obtain rfl:u=ao.ref a:=bt
 obtain⟨⟨f2,ab2,qn,CG,hm⟩,c⟩:=h' i
 refine x5 aU dd c hm l ?_
 refine xy (first:=[.ref a]) (h₀:=X.base) aa.ok.mod.q4 hm.iD (cA (bf aR ak s1 ab H1 _ aU q) fun us s2 bE=>?_) jT gk
 obtain⟨vs,ax,bJ,r,cN⟩:=bE
 refine ⟨bJ.eI,?_⟩
 have ef:Vals (V.ref a::vs) (ao.ref a::us) :=.cons rfl r
 have aB:(ao.ref a::us).length=ps.length:=by rw[<-ef.length];exact qn.len _ _ _ _ cN
 have js:=CG s2 (.ref a::us) bJ.eI (by rw[List.append_nil];exact aB)
 rw[List.append_nil]at js
 refine qc (mi (qn.run X.A X.stack s2 ax ⟨.ref a::us,[]⟩ (.ref a::us) (.ref a::vs) Q (E ab) (az.mono hk') bJ.wu js ef cN) fun r aF aW=>?_)
 cases r with
 |error e=>exact ay ak ab ax s2 e aF bJ aW
 |ok dB =>
  cases dB with
  |ret u=>exact bJ.after aW
  |next=>exact False.elim aW
  |brk=>exact False.elim aW
  |cont=>exact False.elim aW
end
section
variable {X:bz}
theorem U1:d5 X (h0 .IsNot) (fun x y H Q=>∃b,y=.aN b/\Qa x=ah/\Q (.aN (!decide (x=.aN b))) H):=by
 intro ak s ab H x y v u Q aa bt cn h
 obtain⟨b,rfl,ay,q⟩:=h
 cases cn
 cases x with
 |bK=>cases bt;exact dD (eX aa q (by cases b<;>rfl))
 |aN c=>cases bt;cases b<;>cases c<;>exact dD (eX aa q I)
 |int i=>obtain⟨t,rfl⟩:=bt;exact dD (eX aa q (by cases b<;>rfl))
 |str i=>obtain⟨t,rfl⟩:=bt;exact dD (eX aa q (by cases b<;>rfl))
 |ref a=>cases bt;exact dD (eX aa q (by cases b<;>rfl))
 |_=>cases ay
end
theorem gU.akh{x:af}{sp:b3}(h:gU P w K mg base k x ps sp):bD P w K mg base k x ps (fun vs H Q _=>sp vs H Q fun _ _ _=>False):=by
 obtain⟨f,fd,F,b,iD,g⟩:=h
 refine⟨f,fd,⟨fun vs H Q E q=>F.len _ _ _ _ q,fun A outer s H args us vs Q E a b c d q=>mi (F.run A outer s H args us vs Q (fun _ _ _=>False) a b c d q) fun r aF c=>?_⟩,b,iD,g⟩
 cases r with
 |error e =>
  obtain⟨_,_,_,_,_,_,_,_,_,_,_,_,_,_,_,z⟩:=c
  exact z.elim
 |ok dB=>cases dB<;>exact c
variable {r:ir}
section
variable {X:bz} {a b:b5} {b4 dg:TE} {aR:Pos}
theorem bS(i:Nat){x:af}{e:b5}(aX:X.N.Nodup)(he:bX X e cG)(aC:X.N[i]?=J x:=by rfl)(ay:Loc X.env.scope x:=by first|exact Or.inl I|exact Or.inr I)(hs:swapsWith e (J (.Name x pos')) aR.line X.env=pure ag:=by rfl)(aG:X.fn x=ah\/X.env.scope.names.lookup x=J .local:=by first|exact .inl I|exact .inr I|assumption):
  j3 X (.Assign [.Name x pos'] e aR) (xo cG (wF i)):=VE aX aC ay he hs aG
theorem gi(aK:d5 X (h0 op) r)(bf:bX X a b4)(ar:bX X b dg)(h:op≠.In:=by decide)(aq:op≠.NotIn:=by decide):bX X (.Compare a [op] [b] aR) (p5 r b4 dg):=NB aK bf ar (Lf _ h aq)
theorem cd(aK:d5 X (h0 op) r)(bf:bX X a b4)(ar:bX X b dg)(h:op≠.In:=by decide)(aq:op≠.NotIn:=by decide):kJ X (.Compare a [op] [b] aR) (DM (p5 r b4 dg)):=GI aK bf ar (Lf _ h aq)
theorem cP(az:n7 X r)(bf:bX X a b4)(ar:bX X b dg)(hs:KL b:=by intro _ _;rfl):bX X (.Subscript a b aR) (p5 r b4 dg):=Wb az bf ar hs
theorem iu(bf:bX X a b4)(he:∀whole,isTrue a X.env whole=(do let v <-whole;standAt a.pos;holding [v] (truthy v)):=by intro _;rfl):
  kJ X a (fun ab H Q=>b4 ab H fun x H'=>∃k,AX X.K x H' k/\Q k H'):=TP bf he
end
section
variable {X:bz} {elt h1 iter:b5} {ifs:List b5} {cX:Scope} {aR p:Pos} {hZ:d8} {g:vd gW} {gy:vd hl} {cG:vd TE}
theorem jj(f7:List af)(e8:List (Nat×af))(hc:X.calm=ah)(si:yA cX (e8.map (·.2))=ah)(qR:rn X e8)(aC:jd X h1 iter hZ)
  (aH:∀cl C s2 ax bQ,oa (lX X iJ cX cl C (f7++e8.map (·.2)) s2 ax bQ) h1 (g cl C s2 ax bQ))
  (aT:∀cl C s2 ax bQ,vK (lX X iJ cX cl C (f7++e8.map (·.2)) s2 ax bQ) ifs (gy cl C s2 ax bQ))
  (he:∀cl C s2 ax bQ,bX (lX X iJ cX cl C (f7++e8.map (·.2)) s2 ax bQ) elt (cG cl C s2 ax bQ))
  (mB:∀cl C s2 ax bQ,g cl C s2 ax bQ=g [] 0 X.dm X.hi []:=by intros;rfl) (ll:∀cl C s2 ax bQ,gy cl C s2 ax bQ=gy [] 0 X.dm X.hi []:=by intros;rfl) (pJ:∀cl C s2 ax bQ,cG cl C s2 ax bQ=cG [] 0 X.dm X.hi []:=by intros;rfl)
  (hs:∀x,foldedSetIterable iter X.env x=pure x:=by intro _;rfl) :
  bX X (.ListComp elt [⟨h1,iter,ifs,0⟩] cX aR) (DJ hZ (g [] 0 X.dm X.hi []) (gy [] 0 X.dm X.hi []) (cG [] 0 X.dm X.hi []) (ow f7 e8)):=by
 intro ak s ab H Q aa h
 rw[eval_ListComp]
 refine F2 (use:=aw) (.inr fun _ _ _ z=>z) hc si qR aC (fun cl C s2 ax bQ=>mB cl C s2 ax bQ ▸ aH cl C s2 ax bQ) (fun cl C s2 ax bQ=>ll cl C s2 ax bQ ▸ aT cl C s2 ax bQ) (fun cl C s2 ax bQ=>pJ cl C s2 ax bQ ▸ he cl C s2 ax bQ) aa h (fun D C H' aF gz q ia aj aq bl bW bE=>?_) hs
 obtain⟨m,hm⟩:=bE
 refine⟨m,hm,fun h' zb=>?_⟩
 exact⟨.ref D,H',gz.turned (t':=aF.toks) (fun b o ar e=>zb.extBut b o ar e) ia aj (.inr aq) bl bW,I,q⟩
theorem YA{y:af}{py RI:Pos}(f7:List af)(e8:List (Nat×af))(aX:X.N.Nodup)(adu:X.N[i]?=J y)(bP:X.env.scope.names.lookup y=J .local)(hc:X.calm=ah)(si:yA cX (e8.map (·.2))=ah)(qR:rn X e8)(aC:jd X h1 iter hZ)
  (aH:∀cl C s2 ax bQ,oa (lX X iJ cX cl C (f7++e8.map (·.2)) s2 ax bQ) h1 (g cl C s2 ax bQ))
  (aT:∀cl C s2 ax bQ,vK (lX X iJ cX cl C (f7++e8.map (·.2)) s2 ax bQ) ifs (gy cl C s2 ax bQ))
  (he:∀cl C s2 ax bQ,bX (lX X iJ cX cl C (f7++e8.map (·.2)) s2 ax bQ) elt (cG cl C s2 ax bQ))
  (mB:∀cl C s2 ax bQ,g cl C s2 ax bQ=g [] 0 X.dm X.hi []:=by intros;rfl) (ll:∀cl C s2 ax bQ,gy cl C s2 ax bQ=gy [] 0 X.dm X.hi []:=by intros;rfl) (pJ:∀cl C s2 ax bQ,cG cl C s2 ax bQ=cG [] 0 X.dm X.hi []:=by intros;rfl)
  (aec:swapsWith (.ListComp elt [⟨h1,iter,ifs,0⟩] cX aR) (J (.Name y py)) RI.line X.env=pure ah:=by rfl)
  (hs:∀x,foldedSetIterable iter X.env x=pure x:=by intro _;rfl) :
  j3 X (.Assign [.Name y py] (.ListComp elt [⟨h1,iter,ifs,0⟩] cX aR) RI) (xo (DJ hZ (g [] 0 X.dm X.hi []) (gy [] 0 X.dm X.hi []) (cG [] 0 X.dm X.hi []) (ow f7 e8)) (wF i)):=by
 intro ak s ab H D aa h
 rw[exec_Assign_Name_used _ _ _ _ aec]
 refine bH (wpAny_standAt (bH ?_))
 show bM _ X.A (do let _ <-comprehension (.ListComp elt [⟨h1,iter,ifs,0⟩] cX aR) cX X.env _ (newList []) ag (eval iter X.env) (J (assign (.Name y py) X.env))) _ _ s
 refine bH (cA (F2 (use:=J (assign (.Name y py) X.env)) (Qf:=fun _ aF=>vM X ak D .next aF) (.inr fun _ _ _ z=>z) hc si qR aC (fun cl C s2 ax bQ=>mB cl C s2 ax bQ ▸ aH cl C s2 ax bQ) (fun cl C s2 ax bQ=>ll cl C s2 ax bQ ▸ aT cl C s2 ax bQ) (fun cl C s2 ax bQ=>pJ cl C s2 ax bQ ▸ he cl C s2 ax bQ) aa h (fun Km C H' aF gz q ia aj aq bl bW bE=>?_) hs) fun _ aF aW=>dD (dD aW))
 obtain⟨m,hm⟩:=bE
 show bM _ X.A (assign (.Name y py) X.env (.ref Km)) _ _ _
 refine wpAny_assign_Name (My gz aX adu (.inl bP) (v :=.ref Km) I (fun oY Tc bE=>?_) (.inr bP))
 obtain⟨a,zb,bf⟩:=bE
 have Cv:C≠a:=by
  rcases bf with z|z
  .rw[z];exact aj
  .exact ea (bl _ _ z)
 refine⟨m,hm.sameBut zb Cv,fun h' ad7=>?_⟩
 exact⟨_,H',Tc.turned (t':=oY.toks) (fun b o ar e=>ad7.extBut b o ar e) ia aj (.inr aq) bl bW,q⟩
end
section
variable {P:c1} {w:cH} {K:bN} {mg:af->Option ao} {base:bc} {x dJ:af} {st:br} {f:ae} {fd:fG} {N ps:List af} {k:Nat} {sp:b3}
theorem c5.hV(F:c5 K x dJ st f fd)(S:bZ N ps (bI st))(jR:∀(bh:ao)(A:di)(outer:List Env)(s:aJ)(H:au)(vs:List V)(Q:bB)(E:bR),fj k (A.deeper (envOfC dJ (bI st) s.heap.objs.size f bh))->sp vs H Q E->
   ∃t,ht (kt dv P w K mg base N dJ (bI st) f bh A outer s H E).sy (iz st) t/\t {nx:=fun _ H'=>gB H H' (Q .bK),rt:=fun v H'=>gB H H' (Q v)} (start N vs) H)(len:∀vs H Q E,sp vs H Q E->vs.length=ps.length:=by intro vs H Q E h;first|(cases h;subst_vars;rfl)|((repeat (obtain⟨_,h⟩:=h))<;>(subst_vars;rfl))):cq P w K mg base dv (k+1) f fd ps sp:=F.P6 S len jR
theorem c5.iF(F:c5 K x dJ st f fd)(S:bZ N ps (bI st))(jR:∀(bh:ao)(A:di)(outer:List Env)(s:aJ)(H:au)(vs:List V)(Q:bB)(E:bR),fj k (A.deeper (envOfC dJ (bI st) s.heap.objs.size f bh))->sp vs H Q E->
   ∃t,ht (kt (fH P w) P w K mg base N dJ (bI st) f bh A outer s H (lZ H E)) (iz st) t/\t {nx:=fun _ H'=>gB H H' (Q .bK),rt:=fun v H'=>gB H H' (Q v)} (start N vs) H)(len:∀vs H Q E,sp vs H Q E->vs.length=ps.length:=by intro vs H Q E h;first|(cases h;subst_vars;rfl)|((repeat (obtain⟨_,h⟩:=h))<;>(subst_vars;rfl))):cq P w K mg base (fH P w) (k+1) f fd ps sp:=F.Dl S len jR
theorem dx.fp(F:dx K mg x st ps f fd)(S:bZ N ps (bI st))(jR:∀(bh:ao)(A:di)(outer:List Env)(s:aJ)(H:au)(vs:List V)(Q:bB)(E:bR),fj k (A.deeper (envOfC x (bI st) s.heap.objs.size f bh))->sp vs H Q E->
   ∃t,ht (kt dv P w K mg base N x (bI st) f bh A outer s H E).sy (iz st) t/\t {nx:=fun _ H'=>gB H H' (Q .bK),rt:=fun v H'=>gB H H' (Q v)} (start N vs) H)(len:∀vs H Q E,sp vs H Q E->vs.length=ps.length:=by intro vs H Q E h;first|(cases h;subst_vars;rfl)|((repeat (obtain⟨_,h⟩:=h))<;>(subst_vars;rfl))):bD P w K mg base (k+1) x ps sp:=F.ok S len jR
theorem dx.iF(F:dx K mg x st ps f fd)(S:bZ N ps (bI st))(jR:∀(bh:ao)(A:di)(outer:List Env)(s:aJ)(H:au)(vs:List V)(Q:bB)(E:bR),fj k (A.deeper (envOfC x (bI st) s.heap.objs.size f bh))->sp vs H Q E->
   ∃t,ht (kt (fH P w) P w K mg base N x (bI st) f bh A outer s H (lZ H E)) (iz st) t/\t {nx:=fun _ H'=>gB H H' (Q .bK),rt:=fun v H'=>gB H H' (Q v)} (start N vs) H)(len:∀vs H Q E,sp vs H Q E->vs.length=ps.length:=by intro vs H Q E h;first|(cases h;subst_vars;rfl)|((repeat (obtain⟨_,h⟩:=h))<;>(subst_vars;rfl))):gU P w K mg base (k+1) x ps sp:=F.Dl S len jR
end
end dT
end
section
namespace gc
open PySem dT
variable {w:Bool}
theorem E1{r:R α}{f:α->List Bool->R β}(h:r.bd f=.no w k):r=.no w k\/∃a aF,r=.ok a aF/\f a aF=.no w k:=by
 cases r with
 |ok a aF=>exact .inr ⟨a,aF,I,h⟩
 |no hY eH =>
  injection h with aI aL
  subst aI aL
  exact .inl I
 |st=>cases h
theorem Ly{r:R α}(h:r.bV=.no w k):r=.no w k:=by
 cases r with
 |ok b aF=>cases h
 |no w k=>exact h
 |st=>cases h
theorem LM{r:R α}{f:α->List Bool->R β}(h:r.bd f=.st):r=.st\/∃a aF,r=.ok a aF/\f a aF=.st:=by
 cases r with
 |ok a aF=>exact .inr ⟨a,aF,I,h⟩
 |no w k=>cases h
 |st=>exact .inl I
theorem Lx{r:R α}(h:r.bV=.st):r=.st:=by
 cases r with
 |ok b aF=>cases h
 |no w k=>cases h
 |st=>rfl
def cc{α:Type}(F:List Bool->R α):Prop:=∀s a r,F s=.ok a r->∃y,s=y++r/\∀w,F (y++w)=.ok a w
theorem cc.pure(a:α):cc (fun s=>R.ok a s):=fun s b r h=>by
 injection h with aj aq
 exact⟨[],aq,fun w=>by rw[aj];rfl⟩
theorem cc.kd:cc (fun s=>(R.no ah s.length:R α)):=fun s b r h=>(nomatch h)
theorem cc.stuck:cc (fun _=>(R.st:R α)):=fun s b r h=>(nomatch h)
theorem cc.ite[Decidable c]{F G:List Bool->R α}(bx:cc F)(hG:cc G):cc (fun s=>if c then F s else G s):=by
 by_cases h:c
 .simp only[if_pos h];exact bx
 .simp only[if_neg h];exact hG
theorem cc.bd{F:List Bool->R α}{G:α->List Bool->R β}(bx:cc F)(hG:∀a,cc (G a)):cc (fun s=>(F s).bd G):=fun s b r h=>by
 obtain⟨a,aF,aj,aq⟩:=eM h
 obtain⟨y,aI,f1⟩:=bx s a aF aj
 obtain⟨z,aL,f2⟩:=hG a aF b r aq
 refine⟨y++z,by rw[aI,aL,e2],fun w=>?_⟩
 show(F (y++z++w)).bd G=_
 rw[e2,f1]
 exact f2 w
theorem cc.bV{F:List Bool->R α}(bx:cc F):cc (fun s=>(F (s.map (!·))).bV):=fun s b r h=>by
 obtain⟨y,aI,f1⟩:=bx _ _ _ (rP h)
 refine⟨y.map (!·),?_,fun w=>?_⟩
 ·have:=congrArg (List.map (!·)) aI
  rwa [nn,fk,nn]at this
 ·show(F ((y.map (!·)++w).map _)).bV=_
  rw[fk,nn,f1]
  show R.ok b _=_
  rw[nn]
theorem cc.of{F G:List Bool->R α}(h:cc G)(e:∀s,F s=G s):cc F:=by
 have:F=G:=funext e
 rw[this];exact h
variable {s:List Bool}
theorem cc.len{F:List Bool->R α}(h:cc F){a:α}(q:F s=.ok a r):r.length<=s.length:=by
 obtain⟨y,e,_⟩:=h s a r q
 rw[e,cD];omega
theorem jH(u:Bool):cc (eY ag u):=fun s b r h=>⟨[b],oy h,fun w=>rfl⟩
theorem yl:∀w n,cc (gN ag w n)
 |0,n=>cc.pure n
 |w+1,n=>(jH ag).bd fun b=>yl w _
theorem Hh:∀m u a,cc (jm ag m u a)
 |0,u,a=>cc.pure a
 |m+1,u,a=>(jH u).bd fun b=>cc.ite (Hh m ag _) (cc.pure a)
theorem tR(u:Bool):cc (d3 ag u):=(Hh 7 u 0).bd fun a=>(yl a 1).bd fun g=>(yl (g-1) 1).bd fun m=>cc.pure (m-1)
theorem wq:cc (ku ag):=(jH ag).bd fun b=>cc.ite ((tR ag).bd fun n=>cc.pure _) (cc.bV (F:=fun s=>(d3 ag ag s).bd fun n s =>.ok (-1-((n:Nat):Int)) s) ((tR ag).bd fun n=>cc.pure _))
theorem pA(m:Nat):∀k n,cc (fx ag m k n)
 |0,n=>cc.pure n
 |k+1,n=>(jH ag).bd fun b=>cc.ite cc.kd (pA m k _)
theorem He:∀m u a,cc (dU ag m u a)
 |0,u,a=>cc.stuck
 |m+1,u,a=>(jH u).bd fun b=>cc.ite (cc.bV (F:=fun s=>(d3 ag ah s).bd fun n s=>dU ag m (n == 0) (a++[((n:Nat):Int)+1]) s) ((tR ah).bd fun n=>He m _ _)) (cc.pure a)
theorem Gx(N:Nat):cc (kP N ag):=wq.bd fun a=>(He N ag [a]).bd fun st=>cc.ite (cc.pure st) cc.kd
def eV{α:Type}(F:List Bool->R α):Prop:=∀s k,F s≠.no ah k
theorem eV.pure(a:α):eV (fun s=>R.ok a s):=fun s k h=>(nomatch h)
theorem eV.ite[Decidable c]{F G:List Bool->R α}(bx:eV F)(hG:eV G):eV (fun s=>if c then F s else G s):=by
 by_cases h:c
 .simp only[if_pos h];exact bx
 .simp only[if_neg h];exact hG
theorem eV.bd{F:List Bool->R α}{G:α->List Bool->R β}(bx:eV F)(hG:∀a,eV (G a)):eV (fun s=>(F s).bd G):=fun s k h=>by
 rcases E1 h with z|⟨a,aF,_,z⟩
 .exact bx s k z
 .exact hG a aF k z
theorem eV.bV{F:List Bool->R α}(bx:eV F):eV (fun s=>(F (s.map (!·))).bV):=fun s k h=>bx _ k (Ly h)
theorem yw(u:Bool):eV (eY ag u):=fun s k h=>by cases s<;>cases h
theorem GQ:∀w n,eV (gN ag w n)
 |0,n=>eV.pure n
 |w+1,n=>(yw ag).bd fun b=>GQ w _
theorem Lr:∀m u a,eV (jm ag m u a)
 |0,u,a=>eV.pure a
 |m+1,u,a=>(yw u).bd fun b=>eV.ite (Lr m ag _) (eV.pure a)
theorem GX(u:Bool):eV (d3 ag u):=(Lr 7 u 0).bd fun a=>(GQ a 1).bd fun g=>(GQ (g-1) 1).bd fun m=>eV.pure (m-1)
theorem Og:eV (ku ag):=(yw ag).bd fun b=>eV.ite ((GX ag).bd fun n=>eV.pure _) (eV.bV (F:=fun s=>(d3 ag ag s).bd fun n s =>.ok (-1-((n:Nat):Int)) s) ((GX ag).bd fun n=>eV.pure _))
def dM{α:Type}(F:List Bool->R α):Prop:=∀s k,F s=.no ah k->∃x b z,s=x++b::z/\z.length=k/\(∃j,F x=.no ag j)/\F (x++[b])=.no ah 0/\((∃j,F (x++[!b])=.no ag j)\/∃a,F (x++[!b])=.ok a [])
theorem eV.p8{F:List Bool->R α}(h:eV F):dM F:=fun s k q=>absurd q (h s k)
theorem dM.stuck:dM (fun _=>(R.st:R α)):=fun s k h=>(nomatch h)
theorem dM.ite[Decidable c]{F G:List Bool->R α}(bx:c->dM F)(hG:¬c->dM G):dM (fun s=>if c then F s else G s):=by
 by_cases h:c
 .simp only[if_pos h];exact bx h
 .simp only[if_neg h];exact hG h
theorem dM.bV{F:List Bool->R α}(bx:dM F):dM (fun s=>(F (s.map (!·))).bV):=fun s k h=>by
 obtain⟨x,b,z,e,bC,⟨j,aj⟩,aq,bl⟩:=bx _ k (Ly h)
 refine⟨x.map (!·),!b,z.map (!·),?_,by rw[cC];exact bC,⟨j,?_⟩,?_,?_⟩
 ·have:=congrArg (List.map (!·)) e
  rwa [nn,fk]at this
 ·show(F ((x.map (!·)).map (!·))).bV=_
  rw[nn,aj];rfl
 ·show(F ((x.map (!·)++[!b]).map (!·))).bV=_
  rw[fk,nn,je,List.map_nil,Bool.not_not,aq];rfl
 ·have aL:(x.map (!·)++[!!b]).map (!·)=x++[!b]:=by rw[fk,nn,je,List.map_nil,Bool.not_not]
  rcases bl with⟨j,bl⟩|⟨a,bl⟩
  .exact .inl ⟨j,by show(F ((x.map (!·)++[!!b]).map (!·))).bV=_;rw[aL,bl];rfl⟩
  .exact .inr ⟨a,by show(F ((x.map (!·)++[!!b]).map (!·))).bV=_;rw[aL,bl];rfl⟩
theorem dM.behind{F:List Bool->R α}{G:α->List Bool->R β}(gG:cc F){aF:List Bool}{a:α}(hG:dM (G a))(aj:F s=.ok a aF)(aq:G a aF=.no ah k):∃x b z,s=x++b::z/\z.length=k/\(∃j,(F x).bd G=.no ag j)/\(F (x++[b])).bd G=.no ah 0/\((∃j,(F (x++[!b])).bd G=.no ag j)\/∃a,(F (x++[!b])).bd G=.ok a []):=by
 obtain⟨y,e,f⟩:=gG s a aF aj
 obtain⟨x,b,z,aL,bC,⟨j,g1⟩,g2,g3⟩:=hG aF k aq
 refine⟨y++x,b,z,by rw[e,aL,e2],bC,⟨j,by rw[f];exact g1⟩,by rw[e2,f];exact g2,?_⟩
 rw[e2,f]
 exact g3
theorem dM.Hn{F:List Bool->R α}{G:α->List Bool->R β}(aX:eV F)(gG:cc F)(hG:∀a,dM (G a)):dM (fun s=>(F s).bd G):=fun s k h=>by
 rcases E1 h with z|⟨a,aF,aj,aq⟩
 .exact absurd z (aX s k)
 .exact dM.behind gG (hG a) aj aq
theorem dM.bd{F:List Bool->R α}{G:α->List Bool->R β}(bx:dM F)(gG:cc F)(hG:∀a,(∃s r,F s=.ok a r)->dM (G a)/\gA (G a)):dM (fun s=>(F s).bd G):=fun s k h=>by
 rcases E1 h with q|⟨a,aF,aj,aq⟩
 ·obtain⟨x,b,z,e,bC,⟨j,aj⟩,aq,bl⟩:=bx s k q
  refine⟨x,b,z,e,bC,⟨j,by show(F x).bd G=_;rw[aj];rfl⟩,by show(F (x++[b])).bd G=_;rw[aq];rfl,?_⟩
  show(∃j,(F (x++[!b])).bd G=_)\/∃a,(F (x++[!b])).bd G=_
  rcases bl with⟨j,bl⟩|⟨a,bl⟩
  .rw[bl];exact .inl ⟨j,I⟩
  ·rw[bl]
   rcases(hG a ⟨_,_,bl⟩).2 with n|⟨a,n⟩
   .exact .inl ⟨0,n⟩
   .exact .inr ⟨a,n⟩
 .exact dM.behind gG (hG a ⟨_,_,aj⟩).1 aj aq
theorem dM.map{F:List Bool->R α}(f:α->β)(bx:dM F)(gG:cc F):dM (fun s=>(F s).bd fun a s =>.ok (f a) s):=bx.bd gG fun a _=>⟨(eV.pure (f a)).p8,.inr ⟨f a,rfl⟩⟩
theorem dM.of{F G:List Bool->R α}(h:dM G)(e:∀s,F s=G s):dM F:=by
 have:F=G:=funext e
 rw[this];exact h
theorem dM.sign{F:List Bool->R α}{G:Bool->List Bool->R α}(bu:F [] =.no ag 0)(bx:∀b s,F (b::s)=G b s)(hG:∀b,dM (G b)\/((∀s,G b s=.no ah s.length)/\gA (G (!b)))):dM F:=fun s k h=>by
 cases s with
 |nil=>rw[bu]at h;cases h
 | cons b s =>
  rw[bx]at h
  rcases hG b with g|⟨g,n⟩
  ·obtain⟨x,c,z,e,bC,⟨j,aj⟩,aq,bl⟩:=g s k h
   refine⟨b::x,c,z,by rw[e];rfl,bC,⟨j,by rw[bx];exact aj⟩,by rw[List.cons_append,bx];exact aq,?_⟩
   rw[List.cons_append,bx];exact bl
  ·rw[g]at h
   injection h with _ h
   refine⟨[],b,s,I,h,⟨0,bu⟩,by rw[List.nil_append,bx,g];rfl,?_⟩
   rw[List.nil_append,bx]
   rcases n with n|⟨a,n⟩
   .exact .inl ⟨0,n⟩
   .exact .inr ⟨a,n⟩
theorem BS(m:Nat):∀k n,n<=m/2^k->dM (fx ag m k n)
 |0,n,_=>(eV.pure n).p8
 | k+1,n,h=>dM.sign (G:=fun b s=>if m/2^k<2*n+b.toNat then .no ah s.length else fx ag m k (2*n+b.toNat) s) rfl (fun b s=>rfl) fun b=>by
  by_cases c:m/2^k<2*n+b.toNat
  ·refine .inr ⟨fun s=>if_pos c,?_⟩
   cases b with
   |false=>exact absurd c (G5 h)
   |true =>
    show gA (fun s=>if m/2^k<2*n+ag.toNat then .no ah s.length else fx ag m k (2*n+ag.toNat) s)
    simp only[if_neg (G5 h)]
    exact BU _ _ _
  ·refine .inl ?_
   simp only[if_neg c]
   exact BS m k _ (by omega)
noncomputable def wo(m:Nat)(u:Bool)(a:List Int)(s:List Bool):R (List Int):=(dU ag m u a s).bd fun st s=>if gE st=ah then .ok st s else .no ah s.length
theorem V3(m:Nat)(u:Bool)(a:List Int)(s:List Bool):wo (m+1) u a (ah::s)=((d3 ag ah (s.map (!·))).bd fun n s=>wo m (n == 0) (a++[((n:Nat):Int)+1]) s).bV:=by
 show(((d3 ag ah (s.map (!·))).bd fun n s=>dU ag m (n == 0) (a++[((n:Nat):Int)+1]) s).bV).bd _=_
 cases d3 ag ah (s.map (!·))with
 |no w k=>rfl
 |st=>rfl
 | ok n r =>
  show((dU ag m (n == 0) (a++[((n:Nat):Int)+1]) r).bV).bd _=((dU ag m (n == 0) (a++[((n:Nat):Int)+1]) r).bd _).bV
  cases dU ag m (n == 0) (a++[((n:Nat):Int)+1]) r with
  |no w k=>rfl
  |st=>rfl
  |ok st ef =>
   show(if gE st=ah then R.ok st (ef.map (!·))else .no ah (ef.map (!·)).length)=R.bV (if gE st=ah then R.ok st ef else .no ah ef.length)
   by_cases c:gE st=ah
   .rw[if_pos c,if_pos c];rfl
   .rw[if_neg c,if_neg c,cC];rfl
theorem NP:∀m u a,dM (wo m u a)
 |0,u,a=>dM.stuck
 | m+1,u,a=>dM.sign (G:=fun b s=>if b=ah then((d3 ag ah (s.map (!·))).bd fun n s=>wo m (n == 0) (a++[((n:Nat):Int)+1]) s).bV else if gE a=ah then .ok a s else .no ah s.length) rfl (fun b s=>by
   cases b with
   |true=>exact V3 m u a s
   |false=>rfl) fun b=>by
  cases b with
  |true=>exact .inl (dM.bV (F:=fun s=>(d3 ag ah s).bd fun n s=>wo m (n == 0) (a++[((n:Nat):Int)+1]) s) (dM.Hn (GX ah) (tR ah) fun n=>NP m _ _))
  | false =>
   by_cases c:gE a=ah
   ·refine .inl ?_
    show dM (fun s=>if gE a=ah then .ok a s else .no ah s.length)
    simp only[if_pos c]
    exact(eV.pure a).p8
   .exact .inr ⟨fun s=>if_neg c,.inl I⟩
theorem Un(N:Nat):dM (kP N ag):=dM.Hn (G:=fun a=>wo N ag [a]) Og wq fun a=>NP N ag [a]
def dp{α:Type}(F G:List Bool->R α):Prop:=∀s,F s≠.st->G s=F s
theorem dp.refl(F:List Bool->R α):dp F F:=fun _ _=>rfl
theorem dp.stuck{G:List Bool->R α}:dp (fun _ =>.st) G:=fun s h=>absurd rfl h
theorem dp.bd{F pd:List Bool->R α}{G pe:α->List Bool->R β}(bx:dp F pd)(hG:∀a,dp (G a) (pe a)):dp (fun s=>(F s).bd G) (fun s=>(pd s).bd pe):=fun s h=>by
 have h:(F s).bd G≠.st:=h
 show(pd s).bd pe=(F s).bd G
 rw[bx s fun z=>by rw[z]at h;exact h I]
 cases e:F s with
 |ok a r=>rw[e]at h;exact hG a r h
 |no w k=>rfl
 |st=>rfl
theorem dp.bV{F G:List Bool->R α}(bx:dp F G):dp (fun s=>(F (s.map (!·))).bV) (fun s=>(G (s.map (!·))).bV):=fun s h=>by
 show(G _).bV=(F _).bV
 rw[bx _ fun z=>h (by show(F _).bV=_;rw[z];rfl)]
theorem dp.ite[Decidable c]{F G pd pe:List Bool->R α}(bx:dp F pd)(hG:dp G pe):dp (fun s=>if c then F s else G s) (fun s=>if c then pd s else pe s):=by
 by_cases h:c
 .simp only[if_pos h];exact bx
 .simp only[if_neg h];exact hG
theorem dp.of{F pd G pe:List Bool->R α}(h:dp G pe)(e:∀s,F s=G s)(e':∀s,pd s=pe s):dp F pd:=by
 have a:F=G:=funext e
 have b:pd=pe:=funext e'
 rw[a,b];exact h
theorem Ln:∀m j u a,dp (dU ag m u a) (dU ag (m+j) u a)
 |0,j,u,a=>dp.stuck
 |m+1,j,u,a=>by
  rw[show m+1+j=m+j+1 by omega]
  exact(dp.refl (eY ag u)).bd fun b=>dp.ite (dp.bV (F:=fun s=>(d3 ag ah s).bd fun n s=>dU ag m (n == 0) (a++[((n:Nat):Int)+1]) s) (G:=fun s=>(d3 ag ah s).bd fun n s=>dU ag (m+j) (n == 0) (a++[((n:Nat):Int)+1]) s) ((dp.refl _).bd fun n=>Ln m j _ _)) (dp.refl _)
theorem Uo(N j:Nat):dp (kP N ag) (kP (N+j) ag):=(dp.refl (ku ag)).bd fun a=>(Ln N j ag [a]).bd fun st=>dp.refl _
def Ns{α:Type}(B:Nat)(F:List Bool->R α):Prop:=∀s,s.length<=B->F s≠.st
theorem Ns.pure(a:α):Ns B (fun s=>R.ok a s):=fun s _ h=>(nomatch h)
theorem Ns.kd:Ns B (fun s=>(R.no ah s.length:R α)):=fun s _ h=>(nomatch h)
theorem Ns.ite[Decidable c]{F G:List Bool->R α}(bx:c->Ns B F)(hG:¬c->Ns B G):Ns B (fun s=>if c then F s else G s):=by
 by_cases h:c
 .simp only[if_pos h];exact bx h
 .simp only[if_neg h];exact hG h
theorem Ns.bd{F:List Bool->R α}{G:α->List Bool->R β}(bx:Ns B F)(gG:cc F)(hG:∀a,(∃s r,F s=.ok a r)->Ns B (G a)):Ns B (fun s=>(F s).bd G):=fun s hs h=>by
 rcases LM h with z|⟨a,aF,aj,aq⟩
 .exact bx s hs z
 .exact hG a ⟨_,_,aj⟩ aF (eE (gG.len aj) hs) aq
theorem Ns.bV{F:List Bool->R α}(bx:Ns B F):Ns B (fun s=>(F (s.map (!·))).bV):=fun s hs h=>bx _ (by rw[cC];exact hs) (Lx h)
theorem Ns.of{F G:List Bool->R α}(h:Ns B G)(e:∀s,F s=G s):Ns B F:=by
 have:F=G:=funext e
 rw[this];exact h
theorem rQ(B:Nat)(u:Bool):Ns B (eY ag u):=fun s _ h=>by cases s<;>cases h
theorem GR(B:Nat):∀w n,Ns B (gN ag w n)
 |0,n=>Ns.pure n
 |w+1,n=>(rQ B ag).bd (jH _) fun b _=>GR B w _
theorem Ls(B:Nat):∀m u a,Ns B (jm ag m u a)
 |0,u,a=>Ns.pure a
 |m+1,u,a=>(rQ B u).bd (jH _) fun b _=>Ns.ite (fun _=>Ls B m ag _) fun _=>Ns.pure a
theorem GY(B:Nat)(u:Bool):Ns B (d3 ag u):=(Ls B 7 u 0).bd (Hh _ _ _) fun a _=>(GR B a 1).bd (yl _ _) fun g _=>(GR B (g-1) 1).bd (yl _ _) fun m _=>Ns.pure (m-1)
theorem Lj(B:Nat):Ns B (ku ag):=(rQ B ag).bd (jH _) fun b _=>Ns.ite (fun _=>(GY B ag).bd (tR _) fun n _=>Ns.pure _) fun _=>Ns.bV (F:=fun s=>(d3 ag ag s).bd fun n s =>.ok (-1-((n:Nat):Int)) s) ((GY B ag).bd (tR _) fun n _=>Ns.pure _)
theorem BV(B m:Nat):∀k n,Ns B (fx ag m k n)
 |0,n=>Ns.pure n
 |k+1,n=>(rQ B ag).bd (jH _) fun b _=>Ns.ite (fun _=>Ns.kd) fun _=>BV B m k _
theorem Lo:∀(m:Nat)(u:Bool)(a:List Int)(s:List Bool),s.length<2*m->dU ag m u a s≠.st
 |0,u,a,s,h=>absurd h (by omega)
 |m+1,u,a,[],h=>fun z=>(nomatch z)
 |m+1,u,a,ag::s,h=>fun z=>(nomatch z)
 | m+1,u,a,ah::s,h=>fun z=>by
  rw[dZ]at h
  rcases LM (Lx (show R.bV _=_ from z))with q|⟨n,r,aj,aq⟩
  .exact GY _ ah _ (cE _) q
  ·obtain⟨y,e,f⟩:=tR ah _ _ _ aj
   have bP:y≠[]:=fun bP=>by
    have:=f []
    rw[bP]at this
    cases this
   have aB:=congrArg List.length e
   rw[cC,cD]at aB
   have:=List.length_pos_iff.mpr bP
   exact Lo m _ _ r (by omega) aq
theorem Up(aX:1<=N):Ns (2*N-1) (kP N ag):=(Lj _).bd wq fun a _=>by
 refine Ns.bd (fun s hs=>?_) (He _ _ _) fun st _=>Ns.ite (fun _=>Ns.pure _) fun _=>Ns.kd
 exact Lo _ _ _ s (by omega)
end gc
end
variable {t:Bool} {g:List Bool->gc.R dT.D} {q z aY:af} {aE:Bool->ae} {fT:dT.bB} {rX eT eU cB eK gr:ae} {rY:fG} {D1:Type} {fit:dT.D->Bool} {f6 L:Nat}
namespace KR
open PySem dT gc
abbrev b1:=@dE.of
abbrev dk:=@jI.of
abbrev eb:=@eD.refl
noncomputable def top(i:Nat):br:=PySem.Challenge.pw_keyrise_k42_whole_any_signs.main.body.getD i (.Pass ⟨0,0,0,0⟩)
noncomputable section
abbrev vQ:br:=du (top 4) 0
abbrev Wp:br:=du (top 5) 0
abbrev vv:br:=du (top 6) 0
abbrev Fe:br:=du (top 14) 0
abbrev AK:br:=du (top 14) 1
abbrev AJ:br:=du (top 14) 2
abbrev Ar:br:=du (top 14) 3
abbrev AI:br:=du (top 14) 4
abbrev Am:br:=du (top 14) 5
abbrev kM:br:=du (top 49) 0
abbrev As:br:=du (top 50) 0
abbrev A2:br:=du (top 50) 1
abbrev Au:br:=du (top 50) 3
abbrev Be:br:=du (top 51) 0
abbrev Al:br:=du (top 51) 1
abbrev Bf:br:=du (top 51) 3
abbrev Bc:br:=du (top 52) 0
abbrev Ak:br:=du (top 52) 1
abbrev Bd:br:=du (top 52) 3
abbrev FI:br:=du (top 53) 0
abbrev Bj:br:=du (top 53) 1
abbrev Aq:br:=du (top 53) 2
abbrev Bk:br:=du (top 53) 4
abbrev Ao:br:=du (top 54) 0
abbrev A9:br:=du (top 54) 1
abbrev Ap:br:=du (top 54) 3
abbrev E9:br:=du (top 55) 0
abbrev AA:br:=du (top 55) 1
abbrev A6:br:=du (top 55) 2
abbrev A3:br:=du (top 55) 3
abbrev AB:br:=du (top 55) 5
abbrev Fs:br:=du (top 63) 0
abbrev Bg:br:=du (top 63) 1
abbrev An:br:=du (top 63) 2
abbrev Bh:br:=du (top 63) 4
abbrev FJ:br:=du (top 64) 0
abbrev Bl:br:=du (top 64) 1
abbrev Az:br:=du (top 64) 2
abbrev Bm:br:=du (top 64) 4
abbrev Ff:br:=du (top 65) 0
abbrev AL:br:=du (top 65) 1
abbrev A5:br:=du (top 65) 2
abbrev AM:br:=du (top 65) 4
abbrev Fg:br:=du (top 66) 0
abbrev AN:br:=du (top 66) 1
abbrev A7:br:=du (top 66) 2
abbrev AO:br:=du (top 66) 4
abbrev Fd:br:=du (top 67) 0
abbrev AG:br:=du (top 67) 1
abbrev A4:br:=du (top 67) 2
abbrev AH:br:=du (top 67) 4
abbrev FN:br:=top 16
abbrev FP:br:=top 17
abbrev FX:br:=top 18
abbrev Fj:br:=top 22
abbrev E7:br:=top 23
abbrev FW:br:=top 24
abbrev Aj:br:=top 25
abbrev FG:br:=top 26
abbrev Ft:br:=top 27
abbrev FF:br:=top 28
abbrev EO:br:=top 29
abbrev Fq:br:=top 30
abbrev Fo:br:=top 31
abbrev Fp:br:=top 32
abbrev FO:br:=top 34
abbrev FH:br:=top 35
abbrev Fc:br:=top 36
abbrev EG:br:=top 37
abbrev Fb:br:=top 38
abbrev Eu:br:=top 39
abbrev E6:br:=top 40
abbrev E3:br:=top 41
abbrev FE:br:=top 47
abbrev F5:br:=top 48
abbrev F7:br:=top 61
abbrev FQ:br:=top 62
abbrev FT:br:=top 69
abbrev FU:br:=top 70
abbrev Fv:br:=top 71
abbrev Fx:br:=top 72
abbrev Fl:br:=top 73
abbrev Bq:br:=top 74
abbrev Bp:br:=top 75
abbrev FV:br:=top 76
abbrev Fm:br:=top 77
abbrev E8:br:=top 78
abbrev Bi:br:=top 79
abbrev Fz:br:=top 80
abbrev Fy:br:=top 81
abbrev Fn:br:=top 82
abbrev FC:br:=top 84
abbrev EZ:br:=top 90
abbrev kL:br:=du (top 49) 1
abbrev F6:br:=top 83
abbrev Fw:br:=top 85
abbrev FA:br:=top 86
abbrev Fu:br:=top 87
abbrev FR:br:=top 88
abbrev FD:br:=top 89
abbrev alm:br:=top 60
abbrev aly:br:=du (top 50) 2
abbrev alr:br:=du (top 51) 2
abbrev alq:br:=du (top 52) 2
abbrev alu:br:=du (top 53) 3
abbrev alx:br:=du (top 54) 2
abbrev alz:br:=du (top 55) 4
abbrev als:br:=du (top 63) 3
abbrev alv:br:=du (top 64) 3
abbrev alo:br:=du (top 65) 3
abbrev alp:br:=du (top 66) 3
abbrev aln:br:=du (top 67) 3
end
theorem Xv:bZ ["self","place"] ["self","place"] (bI vQ):=b9
theorem Xq:bZ ["self","place"] ["self","place"] (bI Wp):=b9
theorem X1:bZ ["self","place"] ["self","place"] (bI vv):=b9
theorem Xc:bZ ["self","signs","at"] ["self","signs","at"] (bI Fe):=b9
theorem E5:bZ ["self","wished","sign"] ["self"] (bI AK):=b9
theorem Xb:bZ ["self"] ["self"] (bI AJ):=b9
theorem WT:bZ ["self"] ["self"] (bI Ar):=b9
theorem Xa:bZ ["self","sign"] ["self","sign"] (bI AI):=b9
theorem WD:bZ ["self"] ["self"] (bI Am):=b9
theorem Yx:bZ ["self","value"] ["self","value"] (bI kM):=b9
theorem WU:bZ ["self","value"] ["self","value"] (bI As):=b9
theorem Wm:bZ ["self","value"] ["self","value"] (bI A2):=b9
theorem WV:bZ ["self","source"] ["self","source"] (bI Au):=b9
theorem Xt:bZ ["self","value"] ["self","value"] (bI Be):=b9
theorem WC:bZ ["self","value"] ["self","value"] (bI Al):=b9
theorem Xu:bZ ["self","source"] ["self","source"] (bI Bf):=b9
theorem Xr:bZ ["self","value"] ["self","value"] (bI Bc):=b9
theorem WB:bZ ["self","value"] ["self","value"] (bI Ak):=b9
theorem Xs:bZ ["self","source"] ["self","source"] (bI Bd):=b9
theorem XW:bZ ["self","low","high"] ["self","low","high"] (bI FI):=b9
theorem XX:bZ ["self","value"] ["self","value"] (bI Bj):=b9
theorem WS:bZ ["self","value"] ["self","value"] (bI Aq):=b9
theorem XY:bZ ["self","source"] ["self","source"] (bI Bk):=b9
theorem WG:bZ ["self","value"] ["self","value"] (bI Ao):=b9
theorem Wj:bZ ["self","value"] ["self","value"] (bI A9):=b9
theorem WH:bZ ["self","source"] ["self","source"] (bI Ap):=b9
theorem WX:bZ ["self","signs"] ["self","signs"] (bI E9):=b9
theorem WY:bZ ["self","value"] ["self","value"] (bI AA):=b9
theorem Ws:bZ ["self","text"] ["self","text"] (bI A6):=b9
theorem LP:bZ ["self","value","most"] ["self","value"] (bI A3):=b9
theorem E2:bZ ["self","source","text"] ["self","source"] (bI AB):=b9
theorem Xw:bZ ["self","inner"] ["self","inner"] (bI Fs):=b9
theorem Xx:bZ ["self","value"] ["self","value"] (bI Bg):=b9
theorem WE:bZ ["self","value"] ["self","value"] (bI An):=b9
theorem Xy:bZ ["self","source"] ["self","source"] (bI Bh):=b9
theorem XZ:bZ ["self","inner"] ["self","inner"] (bI FJ):=b9
theorem X0:bZ ["self","value"] ["self","value"] (bI Bl):=b9
theorem WW:bZ ["self","value"] ["self","value"] (bI Az):=b9
theorem L9:bZ ["self","source","values"] ["self","source"] (bI Bm):=b9
theorem Xd:bZ ["self","parts"] ["self","parts"] (bI Ff):=b9
theorem Xe:bZ ["self","value"] ["self","value"] (bI AL):=b9
theorem Wr:bZ ["self","value"] ["self","value"] (bI A5):=b9
theorem Xf:bZ ["self","source"] ["self","source"] (bI AM):=b9
theorem Xg:bZ ["self","cases"] ["self","cases"] (bI Fg):=b9
theorem Xh:bZ ["self","value"] ["self","value"] (bI AN):=b9
theorem LQ:bZ ["self","value","place"] ["self","value"] (bI A7):=b9
theorem LY:bZ ["self","source","place"] ["self","source"] (bI AO):=b9
theorem W8:bZ ["self","inner"] ["self","inner"] (bI Fd):=b9
theorem W9:bZ ["self","value"] ["self","value"] (bI AG):=b9
theorem Wq:bZ ["self","value"] ["self","value"] (bI A4):=b9
theorem LX:bZ ["self","source","value"] ["self","source"] (bI AH):=b9
theorem Me:bZ ["form","source","value"] ["form","source"] (bI FN):=b9
theorem Yu:bZ ["form","signs"] ["form","signs"] (bI FP):=b9
theorem Mi:bZ ["form","signs","source"] ["form","signs"] (bI FX):=b9
theorem Xo:bZ ["row"] ["row"] (bI Fj):=b9
theorem WR:bZ ["n","width"] ["n","width"] (bI E7):=b9
theorem Yw:bZ ["n"] ["n"] (bI FW):=b9
theorem LR:bZ ["n"] ["n"] (bI Aj):=b9
theorem xQ:bZ ["n","m","digits","ahead","end"] ["n"] (bI FG):=b9
theorem XS:bZ ["n"] ["n"] (bI Ft):=b9
theorem XU:bZ ["n","most"] ["n","most"] (bI FF):=b9
theorem A8:bZ ["source","width","n","k"] ["source","width"] (bI EO):=b9
theorem AF:bZ ["source","ahead","digits"] ["source"] (bI Fq):=b9
theorem L2:bZ ["source","n"] ["source"] (bI Fo):=b9
theorem AE:bZ ["source","most","n","k"] ["source","most"] (bI Fp):=b9
theorem tE:bZ ["fraction","steps","top","bottom","rest"] ["fraction"] (bI FO):=b9
theorem XV:bZ ["steps"] ["steps"] (bI FH):=b9
theorem tJ:bZ ["steps","top","bottom","step","turned_over"] ["steps"] (bI Fc):=b9
theorem A1:bZ ["one","other","rest"] ["one","other"] (bI EG):=b9
theorem W7:bZ ["fraction"] ["fraction"] (bI Fb):=b9
theorem LO:bZ ["fraction","steps"] ["fraction"] (bI Eu):=b9
theorem tI:bZ ["steps","last","rows","k","step","row"] ["steps"] (bI E6):=b9
theorem LS:bZ ["source","steps"] ["source"] (bI E3):=b9
theorem XT:bZ ["value"] ["value"] (bI FE):=b9
theorem Y6:bZ ["text","signs"] ["text","signs"] (bI F5):=b9
theorem Y7:bZ ["name"] ["name"] (bI F7):=b9
theorem Mf:bZ ["parts","names"] ["parts"] (bI FQ):=b9
theorem tF:bZ ["_law_script","_law_pool_here","_law_k","_law_number"] ["_law_script"] (bI FT):=b9
theorem Yv:bZ ["_law_pool_here"] ["_law_pool_here"] (bI FU):=b9
theorem pz:bZ ["_law_cell","_law_rest","_law_size","_law_number","_law_found","_law_k","_law_at"] ["_law_cell"] (bI Fv):=b9
theorem oq:bZ ["_law_cell","_law_many","_law_some","_law_size","_law_at","_law_step","_law_number","_law_first","_law_stem","_law_k"] ["_law_cell","_law_many"] (bI Fx):=b9
theorem Fa:bZ ["_law_pool_here","_law_way","_law_low","_law_cell"] ["_law_pool_here","_law_way"] (bI Fl):=b9
theorem qv:bZ ["_law_pool_here","_law_deep","_law_cell","_law_way","_law_many","_law_names_here","_law_inner","_law_k"] ["_law_pool_here","_law_deep"] (bI Bq):=b9
theorem Mh:bZ ["_law_form_here","_law_word"] ["_law_form_here"] (bI Bp):=b9
theorem Mg:bZ ["_law_cell","_law_number"] ["_law_cell"] (bI FV):=b9
theorem Xp:bZ ["_law_cell"] ["_law_cell"] (bI Fm):=b9
theorem rD:bZ ["_law_one","_law_other","_law_top","_law_bottom","_law_low","_law_by","_law_rest"] ["_law_one","_law_other"] (bI E8):=b9
theorem nj:bZ ["_law_pool_here","_law_form_here","_law_word","_law_cell","_law_size","_law_text","_law_k","_law_name","_law_inner"] ["_law_pool_here","_law_form_here"] (bI Bi):=b9
theorem L8:bZ ["_law_pool_here","_law_cell"] ["_law_pool_here"] (bI Fz):=b9
theorem Ba:bZ ["_law_kept","_law_kinds_here"] ["_law_kept"] (bI Fy):=b9
theorem AD:bZ ["_law_number","_law_found"] ["_law_number"] (bI Fn):=b9
theorem tK:bZ ["_law_made_here","_law_signs_here","_law_fills","_law_found","_law_kept","e"] ["_law_made_here","_law_signs_here","_law_fills"] (bI FC):=b9
theorem pC:bZ ["_law_script","_law_pool_here","_law_form_here","_law_made_here","_law_signs_here","_law_other","_law_found","_law_kept","_law_place_here"] ["_law_script"] (bI EZ):=b9
theorem Fi:bZ ["self","signs","at","source","value"] ["self","signs","at"] (bI kL):=b9
theorem tj:bZ ["_law_script","_law_pool_here","_law_row","_law_cell","_law_signs_here","_law_number","_law_at"] ["_law_script","_law_pool_here","_law_row"] (bI F6):=b9
theorem L7:bZ ["_law_kept","_law_way","_law_due"] ["_law_kept","_law_way"] (bI Fw):=b9
theorem Bb:bZ ["_law_made_here","_law_signs_here","_law_found","_law_kept","_law_row"] ["_law_made_here","_law_signs_here"] (bI FA):=b9
theorem Fh:bZ ["_law_made_here","_law_signs_here","_law_place_here","_law_turned","_law_kept"] ["_law_made_here","_law_signs_here","_law_place_here"] (bI Fu):=b9
theorem vu:bZ ["_law_made_here","_law_head","_law_signs_here","_law_found","_law_kept","e"] ["_law_made_here","_law_head","_law_signs_here"] (bI FR):=b9
theorem vP:bZ ["_law_made_here","_law_head","_law_signs_here","_law_kept","_law_found","_law_error","_law_spot","_law_way"] ["_law_made_here","_law_head","_law_signs_here","_law_kept"] (bI FD):=b9
structure dW(mg:af->Option ao):Prop where
 d1:mg "len"=aw
 p1:mg "range"=aw
 qZ:mg "int"=aw
 ajr:mg "str"=aw
 N2:mg "bool"=aw
 uY:mg "tuple"=aw
 hC:mg "isinstance"=aw
 I7:mg "min"=aw
 afF:mg "list"=aw
 wi:mg "all"=aw
 ai8:mg "reversed"=aw
 abO:mg "enumerate"=aw
 Se:mg "zip"=aw
 Qm:mg "set"=aw
 aaV:mg "abs"=aw
variable {A B:Prop} {u:Int} {s:List Int} {E:bR} {Q:bB} {o:ae} {r:R D} {S:e1} {v:V} {a:af} {cs:nZ}
section
open PySem dT gc
variable {P:c1} {w:cH} {K:bN} {mg:af->Option ao} {base:bc}
variable {f C:ae}{fd:fG}{c:dP}{n:Nat}{bL:D->Bool}{has:eW->Bool}{fw:D->List Bool}
seal bX kJ g9 hH j3 ht oa xU jd vK Tl xV
local macro_rules | `(tactic| walk_at "g1")=>`(tactic| first
 |with_reducible exact True.intro
 |refine⟨_,I,?_⟩
 |refine⟨_,_,I,I,?_⟩
 |refine Or.inl ⟨_,_,I,I,?_⟩
 |refine Or.inr ⟨_,_,I,I,?_⟩
 |refine⟨I,?_⟩
 |refine⟨(by first|omega|decide),?_⟩)
local macro_rules | `(tactic| walk_at "g")=>`(tactic| repeat walk_at "g1")
theorem e5{p:Prop}[Decidable p](aj:p->A)(aq:¬p->B):if decide p=ah then A else B:=by
 by_cases h:p
 .rw[if_pos (d6 h)];exact aj h
 .rw[if_neg (by simpa using h)];exact aq h
theorem gg{p:Prop}[Decidable p](h:¬p)(aq:B):if decide p=ah then A else B:=by rw[if_neg (by simpa using h)];exact aq
theorem jw{p:Prop}[Decidable p](h:p)(aq:A):if decide p=ah then A else B:=by rw[if_pos (d6 h)];exact aq
theorem gT{n:Nat}(h:n<=16000000):n<=bY:=eE h (by decide)
inductive LN(vs:List V)(H:au)(Q:bB)(E:bR):Prop where
 |mk (l:List Bool) (bu:vs=[.str (aV l)]) (aj:l.length<=16000000) (aq:Q (.str (aV (l.map (!·)))) H):LN  vs H Q E
def x3:b3:=fun vs H Q E=>LN  vs H Q E
theorem fg{n:Nat}(h:n<=100000):n<=bY:=eE h (by decide)
theorem Nb(l:List Bool){jO:Nat->V}(g:Bool->Bool)(h:∀i,i<l.length->jO i=.str (aV [g (l.getD i ag)])):(List.range l.length).map jO=((l.map g).map fun b=>aV [b]).map V.str:=by
 apply List.ext_getElem?
 intro i
 rw[gf,gf,gf,gf]
 rcases j4 i l.length with z|z
 ·rw[List.getElem?_range z,dR z]
  have:=h i z
  rw[fu,dR z]at this
  exact congrArg J this
 .rw[AZ (by simpa using z),AZ z];rfl
theorem Gs(l:List Bool):((l.map fun b=>aV [b]).map (·.length)).sum+(l.map fun b=>aV [b]).length*(af.ofString "").length=l.length:=by
 have e:(af.ofString "").length=0:=by decide+kernel
 rw[e,Nat.mul_zero,Nat.add_zero]
 induction l with
 |nil=>rfl
 |cons b r cM=>simp only[je,List.sum_cons,cM,cF,dZ,List.length_nil];omega
theorem BC(h:ab.length=1):∃z,ab=[z]:=by
 match ab,h with
 |[z],_=>exact⟨z,I⟩
theorem Xz(F:dx K mg "turned_row" Fj ["row"] f fd):bD P w K mg base 1 "turned_row" ["row"] x3:=by
 refine F.fp Xo (fun bh A _ s H vs Q E az h=>?_)
 obtain⟨l,rfl,aB,q⟩:=h
 refine⟨_,(aS (bG (jG PySem.F.plainAttrs_str PySem.F.slot_str_join PySem.F.type_str_join tN cw (av (jj ["sign"] [] I (by decide+kernel) trivial (kb (ai 0)) (fun _ _ _ _ _=>(eF (i:=0) (show(["sign"]:List af).Nodup by decide+kernel))) (fun _ _ _ _ _=>iN) (fun _ _ _ _ _=>(om (cd da (ai 0) cw) cw cw))) aA)))),?_⟩
 try dsimp only[cQ,cR,cS,cT]
 refine⟨I,.inr ⟨_,I,_,I,fun D dH=>?_⟩⟩
 refine Gy l.length (fun i =>.str (aV [l.getD i ag])) (fun i =>.str (aV [!l.getD i ag])) (fun ab=>ab.length=1) (gT aB) ?_ ?_ ?_ ?_ ?_ ?_
 .rfl
 .intro i H1 aC;show i<(aV l).cps.size;simpa [aV] using aC
 .intro H1;show(aV l).cps.size<=l.length;simp[aV]
 ·rintro i H1 x ax aC ⟨rfl,c,hc,rfl⟩
  exact⟨I,M5 hc⟩
 ·intro i cz H1 aC b2 R cJ
  obtain⟨z,rfl⟩:=BC b2
  refine⟨_,I,I,_,I,?_⟩
  revert cJ
  rw[s0,s1,TM]
  cases l.getD i ag
  .intro cJ;exact gQ (cJ _ (by rfl))
  .intro cJ;exact fb (cJ _ (by rfl))
 ·refine⟨_,D,(l.map (!·)).map fun b=>aV [b],I,I,b1 ?_,?_,H,.refl ?_,?_⟩
  .rw[aQ];exact congrArg (fun x=>J (c2.lst x)) (Nb l (!·) fun i _=>I)
  .rw[Gs,cC];omega
  .exact dq dH
  .rw[Zip];exact q
inductive Q6(vs:List V)(H:au)(Q:bB)(E:bR):Prop where
 |mk (n d:Nat) (bu:vs=[.int n,.int d]) (aj:d<=16000000) (aq:Q (.str (aV (el n d))) H):Q6  vs H Q E
def JH:b3:=fun vs H Q E=>Q6  vs H Q E
theorem YW(n d:Nat):el n d=(List.range d).map fun i=>n.testBit (d-1-i):=by
 induction d with
 |zero=>rfl
 |succ d cM =>
  rw[el,cM,List.range_succ_eq_map,je,iL]
  congr 1
  apply qt
  intro i aC
  show n.testBit (d-1-i)=n.testBit (d+1-1-(i+1))
  congr 1
  omega
theorem Vw(n k:Nat):c6.bitAnd ((n:Int)/2^k) 1=((n.testBit k).toNat:Int):=by
 rw[PyProof.Rows.bitAnd_m1]
 have e:((n:Int)/2^k)%2=((n/2^k%2:Nat):Int):=by
  rw[Int.natCast_emod,Int.natCast_ediv,Int.natCast_pow];rfl
 rw[e,Nat.testBit_eq_decide_div_mod_eq]
 have:n/2^k%2<2:=Nat.mod_lt _ (by decide)
 by_cases q:n/2^k%2=1
 .simp[q]
 ·have:n/2^k%2=0:=by omega
  simp[this]
theorem W0(nb:dW mg)(F:dx K mg "lower_digits" E7 ["n","width"] f fd):bD P w K mg base 1 "lower_digits" ["n","width"] JH:=by
 refine F.fp WR (fun bh A _ s H vs Q E az h=>?_)
 obtain⟨n,d,rfl,aB,q⟩:=h
 refine⟨_,(aS (bG (jG PySem.F.plainAttrs_str PySem.F.slot_str_join PySem.F.type_str_join tN cw (av (jj ["k"] [(0,"n")] I (by decide+kernel) ⟨I,.inl I,trivial⟩ (MF I nb.p1 (av (aO gp (ai 1) aD) (av (lh k5 aD) (av (lh k5 aD) aA)))) (fun _ _ _ _ _=>(eF (i:=0) (show(["k","n"]:List af).Nodup by decide+kernel))) (fun _ _ _ _ _=>iN) (fun _ _ _ _ _=>(om (cd da (aO VO (aO Le (ai 1) (ai 0)) aD) aD) cw cw))) aA)))),?_⟩
 try dsimp only[cQ,cR,cS,cT]
 refine⟨I,_,I,_,_,I,I,_,I,_,I,_,_,I,⟨by omega,by omega,by decide,by decide⟩,fun D dH=>?_⟩
 have bo:(((d:Int)-1)-(-1)).toNat=d:=by omega
 refine Gy (((d:Int)-1)-(-1)).toNat (fun i =>.int ((d:Int)-1+i*(-1))) (fun i =>.str (aV [n.testBit (d-1-i)])) (fun ab=>∃z,ab=[z,J (.int n)]) (by rw[bo];exact gT aB) ?_ ?_ ?_ ?_ ?_ ?_
 .exact⟨_,I⟩
 .intro i H1 aC;exact aC
 .intro H1;exact cE _
 ·rintro i H1 x ax aC ⟨rfl,rfl⟩
  exact⟨I,I⟩
 ·rintro i cz H1 aC ⟨z,rfl⟩ R cJ
  rw[bo]at aC
  have kv:((d:Int)-1+(i:Int)*(-1)).toNat=d-1-i:=by omega
  refine⟨_,I,_,I,_,_,I,I,(by omega),_,_,I,I,I,_,I,?_⟩
  have ar:c6.bitAnd ((n:Int)/2^((d:Int)-1+(i:Int)*(-1)).toNat) 1=((n.testBit (d-1-i)).toNat:Int):=by rw[kv];exact Vw _ _
  revert cJ
  rw[s0,s1]
  cases e:n.testBit (d-1-i)
  ·rw[e]at ar
   intro cJ;exact gg (fun c=>absurd (ar.symm.trans (V.int.inj c)) (by decide)) (cJ _ ⟨_,I⟩)
  ·rw[e]at ar
   intro cJ;exact jw (congrArg V.int ar) (cJ _ ⟨_,I⟩)
 ·refine⟨_,D,(el n d).map fun b=>aV [b],I,I,b1 ?_,?_,H,.refl ?_,?_⟩
  .rw[aQ,bo,YW,iL,iL];rfl
  .rw[Gs,la];omega
  .exact dq dH
  .rw[Zip];exact q
inductive QG(vs:List V)(H:au)(Q:bB)(E:bR):Prop where
 |mk (n m:Nat) (bu:vs=[.int n,.int m]) (aj:n<=m) (aq:ba m<=16000000) (bl:Q (.str (aV (el n (ba m)))) H):QG  vs H Q E
def zO:b3:=fun vs H Q E=>QG  vs H Q E
theorem Yd(F:dx K mg "fixed_row" FF ["n","most"] f fd)(te:bD P w K mg base 1 "lower_digits" ["n","width"] JH):bD P w K mg base 2 "fixed_row" ["n","most"] zO:=by
 refine F.fp XU (fun bh A _ s H vs Q E az h=>?_)
 obtain⟨n,m,rfl,aB,ar,q⟩:=h
 refine⟨_,(aM (cW (g9.pt (jb (cd mR (ai 0) aD) (k6 (cd kV (ai 0) (ai 1))))) (aS oj) cV)
  (aS (bG (cj te az (av (ai 0) (av (yp PySem.F.plainAttrs_int PySem.F.slot_int_bit_length PySem.F.type_int_bit_length x8 (ai 1)) aA)))))),?_⟩
 try dsimp only[cQ,cR,cS,cT]
 refine⟨_,I,.inl ⟨_,_,I,I,_,I,?_⟩⟩
 refine gg (by omega) ⟨_,I,_,I,_,_,I,I,_,I,?_⟩
 refine gg (by omega) ⟨_,I,_,I,I,_,I,I,?_⟩
 rw[wb]
 exact⟨n,ba m,I,ar,H,.refl (eb _),q⟩
structure z9(K:bN)(mg:af->Option ao)(x:af)(D:ae):Prop where
 OD:mg x=J (.ref D)
 alF:Ki K (.ref D) "__getattribute__"=J (J (.builtin "type.__getattribute__"))
 alG:PySem.W.readsIn K D (.type "type")=ah
 alE:PySem.W.findCls K (.ref D) (.type "type") "__init__"=J (.val (.builtin "ValueError.__init__"))
theorem E0(a:af)(h:a.length<=100):(af.empty++a).length<=100:=by
 rw[strLen_append]
 have:af.empty.length=0:=rfl
 omega
theorem JQ{n:Nat}(h:n<=3000):n<=bY:=eE h (by decide)
theorem zY(a:af)(bf:a.length<=100):(af.empty++a).length<=bY:=JQ (eE (E0 a bf) (by decide))
theorem DG(a:af)(i:Int)(bf:a.length<=100)(h:i.natAbs.log2<1920):(af.empty++a++af.ofString (toString i)).length<=bY:=by
 have aj:=E0 a bf
 have aq:=PyProof.Rows.int_text_len_1921 h
 rw[strLen_append]
 exact JQ (by omega)
theorem DH(a c:af)(i:Int)(bf:a.length<=100)(hc:c.length<=100)(h:i.natAbs.log2<1920):(af.empty++a++af.ofString (toString i)++c).length<=bY:=by
 have aj:=E0 a bf
 have aq:=PyProof.Rows.int_text_len_1921 h
 rw[strLen_append,strLen_append]
 exact JQ (by omega)
theorem XI{f C D:ae}(ri:pL K C f=ah)(S:qm K C)(cp:s5 K C "place"=J aw)(B:z9 K mg "RiseError" D)(F:c5 K "__init__" "Short.__init__" vQ f fd):cq P w K mg base dv 1 f fd ["self","place"] (sQ C):=by
 obtain⟨l2,t2,t4,tZ⟩:=B
 refine F.ok Xv (fun vs H Q E h=>?_) (fun bh A _ s H vs Q E az h=>?_)
 .obtain⟨e,n,rfl,_⟩:=h;rfl
 obtain⟨e,n,rfl,he,hs,q⟩:=h
 refine⟨_,(aM (iO (FL ri l2 t2 t4 tZ (av (ai 0) (av (Ga (rJ cw (rJ (GL (ai 1)) (rJ cw Ha)))) aA))))
  (aS (GJ (ai 0) (ai 1) rfl))),?_⟩
 try dsimp only[cQ,cR,cS,cT]
 have a1:(af.ofString "the signs end at place ").length<=100:=by decide+kernel
 have a2:(af.ofString ", ahead of the row's end").length<=100:=by decide+kernel
 refine⟨_,I,_,I,zY _ a1,_,I,_,I,hs,_,I,DG _ _ a1 hs,_,I,DH _ _ _ a1 a2 hs,DH _ _ _ a1 a2 hs,e,_,I,he,?_⟩
 exact⟨_,I,_,I,e,C,I,he,S,cp,q⟩
theorem XH{f C D:ae}(ri:pL K C f=ah)(S:qm K C)(cp:s5 K C "place"=J aw)(B:z9 K mg "RiseError" D)(F:c5 K "__init__" "Wrong.__init__" Wp f fd):cq P w K mg base dv 1 f fd ["self","place"] (sQ C):=by
 obtain⟨l2,t2,t4,tZ⟩:=B
 refine F.ok Xq (fun vs H Q E h=>?_) (fun bh A _ s H vs Q E az h=>?_)
 .obtain⟨e,n,rfl,_⟩:=h;rfl
 obtain⟨e,n,rfl,he,hs,q⟩:=h
 refine⟨_,(aM (iO (FL ri l2 t2 t4 tZ (av (ai 0) (av (Ga (rJ cw (rJ (GL (ai 1)) Ha))) aA))))
  (aS (GJ (ai 0) (ai 1) rfl))),?_⟩
 try dsimp only[cQ,cR,cS,cT]
 have a1:(af.ofString "no row goes on with the sign at place ").length<=100:=by decide+kernel
 refine⟨_,I,_,I,zY _ a1,_,I,_,I,hs,_,I,DG _ _ a1 hs,DG _ _ a1 hs,e,_,I,he,?_⟩
 exact⟨_,I,_,I,e,C,I,he,S,cp,q⟩
theorem Yg{f C D:ae}(ri:pL K C f=ah)(S:qm K C)(cp:s5 K C "place"=J aw)(B:z9 K mg "RiseError" D)(F:c5 K "__init__" "Left.__init__" vv f fd):cq P w K mg base dv 1 f fd ["self","place"] (sQ C):=by
 obtain⟨l2,t2,t4,tZ⟩:=B
 refine F.ok X1 (fun vs H Q E h=>?_) (fun bh A _ s H vs Q E az h=>?_)
 .obtain⟨e,n,rfl,_⟩:=h;rfl
 obtain⟨e,n,rfl,he,hs,q⟩:=h
 refine⟨_,(aM (iO (FL ri l2 t2 t4 tZ (av (ai 0) (av (Ga (rJ cw (rJ (GL (ai 1)) (rJ cw Ha)))) aA))))
  (aS (GJ (ai 0) (ai 1) rfl))),?_⟩
 try dsimp only[cQ,cR,cS,cT]
 have a1:(af.ofString "the signs go on at place ").length<=100:=by decide+kernel
 have a2:(af.ofString ", behind the row's end").length<=100:=by decide+kernel
 refine⟨_,I,_,I,zY _ a1,_,I,_,I,hs,_,I,DG _ _ a1 hs,_,I,DH _ _ _ a1 a2 hs,DH _ _ _ a1 a2 hs,e,_,I,he,?_⟩
 exact⟨_,I,_,I,e,C,I,he,S,cp,q⟩
noncomputable def fJ(z:af)(i:Int)(t e:Bool)(u:Int):List (af×V):=[("signs",.str z),("place",.int i),("turned",.aN t),("endless",.aN e),("wished",.int u)]
noncomputable abbrev uc(z:af)(i:Int)(t e:Bool):List (af×V):=fJ z i t e 0
structure pv(K:bN)(C:ae):Prop where
 cl:fz K C
 nJ:kk K C "signs"
 q7:kk K C "place"
 ih:kk K C "turned"
 I9:kk K C "endless"
 Dh:kk K C "wished"
theorem Ol:¬(("signs":af)="place"):=by decide+kernel
theorem Om:¬(("signs":af)="turned"):=by decide+kernel
theorem Oo:¬(("signs":af)="endless"):=by decide+kernel
theorem Oq:¬(("signs":af)="wished"):=by decide+kernel
theorem Ot:¬(("place":af)="turned"):=by decide+kernel
theorem Ou:¬(("place":af)="endless"):=by decide+kernel
theorem Ov:¬(("place":af)="wished"):=by decide+kernel
theorem Ow:¬(("turned":af)="endless"):=by decide+kernel
theorem Ox:¬(("turned":af)="wished"):=by decide+kernel
theorem Oy:¬(("endless":af)="wished"):=by decide+kernel
theorem ach:(("place":af) == "signs")=ag:=by decide+kernel
theorem aci:(("turned":af) == "signs")=ag:=by decide+kernel
theorem acj:(("turned":af) == "place")=ag:=by decide+kernel
theorem ack:(("endless":af) == "signs")=ag:=by decide+kernel
theorem acm:(("endless":af) == "place")=ag:=by decide+kernel
theorem acn:(("endless":af) == "turned")=ag:=by decide+kernel
theorem aco:(("wished":af) == "signs")=ag:=by decide+kernel
theorem acp:(("wished":af) == "place")=ag:=by decide+kernel
theorem acq:(("wished":af) == "turned")=ag:=by decide+kernel
theorem acr:(("wished":af) == "endless")=ag:=by decide+kernel
theorem Bw(z:af):ft "signs" (.str z) []=([("signs",.str z)]:List (af×V)):=rfl
theorem Br(z:af)(i:Int):ft "place" (.int i) ([("signs",.str z)]:List (af×V))=([("signs",.str z),("place",.int i)]:List (af×V)):=by
 simp only[ft,Ol,if_false]
theorem FK(z:af)(i:Int)(t:Bool):ft "turned" (.aN t) ([("signs",.str z),("place",.int i)]:List (af×V))=([("signs",.str z),("place",.int i),("turned",.aN t)]:List (af×V)):=by
 simp only[ft,Om,Ot,if_false]
theorem Mc(z:af)(i:Int)(t e:Bool):ft "endless" (.aN e) ([("signs",.str z),("place",.int i),("turned",.aN t)]:List (af×V))=([("signs",.str z),("place",.int i),("turned",.aN t),("endless",.aN e)]:List (af×V)):=by
 simp only[ft,Oo,Ou,Ow,if_false]
theorem Yy(z:af)(i:Int)(t e:Bool)(u:Int):ft "wished" (.int u) ([("signs",.str z),("place",.int i),("turned",.aN t),("endless",.aN e)]:List (af×V))=fJ z i t e u:=by
 simp only[ft,Oq,Ov,Ox,Oy,if_false];rfl
theorem ZJ(z:af)(i j:Int)(t e:Bool)(u:Int):ft "place" (.int j) (fJ z i t e u)=fJ z j t e u:=by
 simp only[fJ,ft,Ol,if_false,if_true]
theorem Za(z:af)(i:Int)(t md e:Bool)(u:Int):ft "turned" (.aN md) (fJ z i t e u)=fJ z i md e u:=by
 simp only[fJ,ft,Om,Ot,if_false,if_true]
theorem Yz(z:af)(i:Int)(t e aL:Bool)(u:Int):ft "endless" (.aN aL) (fJ z i t e u)=fJ z i t aL u:=by
 simp only[fJ,ft,Oo,Ou,Ow,if_false,if_true]
theorem Mr(z:af)(i:Int)(t e:Bool)(u o2:Int):ft "wished" (.int o2) (fJ z i t e u)=fJ z i t e o2:=by
 simp only[fJ,ft,Oq,Ov,Ox,Oy,if_false,if_true]
theorem Bt(z:af)(i:Int)(t e:Bool):(fJ z i t e u).lookup ("signs":af)=J (.str z):=by simp[fJ]
theorem tk(z:af)(i:Int)(t e:Bool):(fJ z i t e u).lookup ("place":af)=J (.int i):=by
 simp[fJ,List.lookup,ach]
theorem Ml(z:af)(i:Int)(t e:Bool):(fJ z i t e u).lookup ("turned":af)=J (.aN t):=by
 simp[fJ,List.lookup,aci,acj]
theorem Yi(z:af)(i:Int)(t e:Bool):(fJ z i t e u).lookup ("endless":af)=J (.aN e):=by
 simp[fJ,List.lookup,ack,acm,acn]
theorem YL(z:af)(i:Int)(t e:Bool):(fJ z i t e u).lookup ("wished":af)=J (.int u):=by
 simp[fJ,List.lookup,aco,acp,acq,acr]
theorem ya(z:af)(i:Int)(t e:Bool){m:af}(h:(m == ("signs":af))=ag)(aq:(m == ("place":af))=ag)(bl:(m == ("turned":af))=ag)
  (bW:(m == ("endless":af))=ag:=by decide+kernel) (d0:(m == ("wished":af))=ag:=by decide+kernel):(fJ z i t e u).lookup m=aw:=by
 simp[fJ,List.lookup,h,aq,bl,bW,d0]
inductive Ru(C:ae)(vs:List V)(H:au)(Q:bB)(E:bR):Prop where
 |mk (p al z i:_) (bu:vs=[.ref p,.str z,.int i]) (aj:H p=J (.ins C al [])) (aq:Q .bK (upd H p (.ins C al (uc z i ag ag)))):Ru C vs H Q E
def zV(C:ae):b3:=fun vs H Q E=>Ru C vs H Q E
theorem YD(T:pv K C)(F:c5 K "__init__" "Source.__init__" Fe f fd):cq P w K mg base dv 1 f fd ["self","signs","at"] (zV C):=by
 refine F.ok Xc (fun vs H Q E h=>?_) (fun bh A _ s H vs Q E az h=>?_)
 .obtain⟨p,al,z,i,rfl,_⟩:=h;rfl
 obtain⟨p,al,z,i,rfl,bj,q⟩:=h
 refine⟨_,(aM (jk (ai 0) (ai 1) I)
  (aM (jk (ai 0) (ai 2) rfl)
  (aM (jk (ai 0) hy rfl)
  (aM (jk (ai 0) hy rfl)
  (aS (jk (ai 0) aD rfl)))))),?_⟩
 try dsimp only[cQ,cR,cS,cT]
 refine⟨_,I,_,I,p,C,al,_,I,bj,T.cl,T.nJ,(by show 0<1000;decide),?_⟩
 refine⟨_,I,_,I,p,C,al,_,I,aQ,T.cl,T.q7,(by show 1<1000;decide),?_⟩
 refine⟨_,I,p,C,al,_,I,aQ,T.cl,T.ih,(by rw[Bw,Br];show 2<1000;decide),?_⟩
 refine⟨_,I,p,C,al,_,I,aQ,T.cl,T.I9,(by rw[Bw,Br,FK];show 3<1000;decide),?_⟩
 refine⟨_,I,p,C,al,_,I,aQ,T.cl,T.Dh,(by rw[Bw,Br,FK,Mc];show 4<1000;decide),?_⟩
 rw[iv,iv,iv,iv,Bw,Br,FK,Mc,Yy]
 exact q
noncomputable abbrev g7(C al:ae)(l:List Bool)(i:Nat)(t e:Bool):c2 :=.ins C al (uc (aV l) ((i:Nat):Int) t e)
noncomputable abbrev p3(C al:ae)(l:List Bool)(i:Nat)(t e:Bool)(u:Int):c2 :=.ins C al (fJ (aV l) ((i:Nat):Int) t e u)
noncomputable def sees(l:List Bool)(t:Bool)(j:Nat):List Bool:=(l.map (xor t)).drop j
theorem Y5(t:Bool)(aC:i<=l.length):(i=l.length/\sees l t i=[])\/∃b,l[i]?=J b/\i<l.length/\sees l t i=(xor t b)::sees l t (i+1):=by
 rcases j4 i l.length with z|z
 ·refine .inr ⟨l[i],dR z,z,?_⟩
  unfold sees
  rw[AY (by rw[cC];exact z),ko]
 ·refine .inl ⟨by omega,?_⟩
  unfold sees
  exact List.drop_eq_nil_of_le (by rw[cC];exact z)
theorem vZ(l:List Bool)(t:Bool)(i:Nat):sees l (!t) i=(sees l t i).map (!·):=by
 unfold sees
 rw[List.map_drop,iL]
 have aL:(fun x:Bool=>!x) ∘ (xor t)=xor (!t):=by funext x;cases x<;>cases t<;>rfl
 rw[aL]
theorem vt{s:List Bool}(aC:i<=l.length)(h:sees l t i=s):l.length-s.length=i/\s.length<=l.length:=by
 rw[<-h]
 unfold sees
 rw[kn,cC]
 omega
theorem Ext.z2{d:ae}{i:Int}(h:H d=aw):Ext H (upd H d (iI i)):=⟨dq h,fun cl=>tl cl h trivial⟩
def jg(E:bR)(p:ae)(H:au)(X:ae)(i:Int):Prop:=∀o d H',b6 p H H'->H' p=J o->H' d=aw->E (.ref X) (J d) (upd H' d (iI i))
theorem jg.up{X:ae}{i:Int}(q:jg E p H X i)(M:b6 p H ax):jg (lZ H E) p ax X i:=fun o d H' vw b2 hd=>by
 have agP:p≠d:=fun z=>by rw[<-z,b2]at hd;cases hd
 have M2:=M.trans vw
 exact⟨_,(M2.ext (Ext.z2 hd)).sub (by rw[bO agP];exact b2),q o d H' M2 b2 hd⟩
noncomputable def jn(l:List Bool)(w:Bool)(k:Nat):Int:=if w=ah then((l.length-k:Nat):Int)-1 else((l.length:Nat):Int)
noncomputable def cY{α:Type}(g:α->au->V->Prop)(aE:Bool->ae)(C p al:ae)(l:List Bool)(t e:Bool)(H:au)(Q:bB)(E:bR):R α->Prop
 |.ok a s=>∀v H' j,b6 p H H'->g a H' v->j<=l.length->sees l t j=s->H' p=J (g7 C al l j t e)->Q v H'
 |.no w k=>jg E p H (aE w) (jn l w k)
 |.st=>False
theorem cY.call{g:β->au->V->Prop}{g':α->au->V->Prop}{C al:ae}{F:R α}{G:α->List Bool->R β}(h:cY g aE C p al l t e H Q E (F.bd G))(M:b6 p H ax)
  (k:∀a s v bA j,F=.ok a s->b6 p ax bA->g' a bA v->j<=l.length->sees l t j=s->bA p=J (g7 C al l j t e)->cY g aE C p al l t e H Q E (G a s)->fT v bA):cY g' aE C p al l t e ax fT (lZ H E) F:=by
 cases F with
 |ok a s=>exact fun v bA j cI aH cv hs b2=>k a s v bA j I cI aH cv hs b2 h
 |no w n=>exact jg.up h M
 |st=>exact h
theorem cY.aa9{g:β->au->V->Prop}{g':α->au->V->Prop}{C al:ae}{F:R α}{G:α->List Bool->R β}(h:cY g aE C p al l t e H Q E (F.bd G).bV)(M:b6 p H ax)
  (k:∀a s v bA j,F=.ok a s->b6 p ax bA->g' a bA v->j<=l.length->sees l (!t) j=s->bA p=J (g7 C al l j (!t) e)->cY g aE C p al l t e H Q E (G a s).bV->fT v bA):cY g' aE C p al l (!t) e ax fT (lZ H E) F:=by
 cases F with
 |ok a s=>exact fun v bA j cI aH cv hs b2=>k a s v bA j I cI aH cv hs b2 h
 |no w n=>exact jg.up h M
 |st=>exact h
def acs(b:Bool)(_:au)(v:V):Prop:=v=.int ((b.toNat:Nat):Int)
def qI(n:Nat)(_:au)(v:V):Prop:=v=.int ((n:Nat):Int)
def OC(n:Int)(_:au)(v:V):Prop:=v=.int n
noncomputable def bi(u:Bool):Int:=((u.toNat:Nat):Int)
inductive QB(aE:Bool->ae)(C:ae)(vs:List V)(H:au)(Q:bB)(E:bR):Prop where
 |mk (p al:ae) (l:List Bool) (i:Nat) (t e u:Bool) (bu:vs=[.ref p]) (aj:H p=J (p3 C al l i t e (bi u))) (aq:l.length<=16000000) (bl:i<=l.length) (bW:cY acs aE C p al l t e H Q E (eY e u (sees l t i))):QB aE C vs H Q E
def oZ(aE:Bool->ae)(C:ae):b3:=fun vs H Q E=>QB aE C vs H Q E
theorem Gb{n:Nat}(h:n<=16000000):((n:Nat):Int).natAbs.log2<1920:=by
 rw[Int.natAbs_natCast]
 by_cases z:n=0
 .subst z;decide
 .exact(Nat.log2_lt z).mpr (Nat.lt_of_le_of_lt h (by decide+kernel))
theorem Vo{f C:ae}{fd:fG}(nb:dW mg)(T:pv K C)(j8:aE ag=eT)(EX:tH K mg "Short" eT rX)(EU:cq P w K mg base dv 1 rX rY ["self","place"] (sQ eT))(ER:Binds K rY ["self","place"] [])(F:c5 K "draw" "Source.draw" AK f fd):cq P w K mg base (fH P w) 3 f fd ["self"] (oZ aE C):=by
 refine F.iF E5 (fun bh A _ s H vs Q E az h=>?_)
 obtain⟨p,al,l,i,t,e,u,rfl,bj,aB,aC,q⟩:=h
 have M:∀j,b6 p H (upd H p (g7 C al l j t e)):=fun j=>b6.move bj
 refine⟨_,(aM (bS 1 E5.bp (et (ai 0) I))
  (aM (jk (ai 0) aD rfl)
  (aM (cW (cd mR (et (ai 0) rfl) (cy d7 rfl nb.d1 d2 (av (et (ai 0) rfl) aA))) (aM (bS 2 E5.bp (qu tw rfl nb.qZ qA (av (cP cU (et (ai 0) rfl) (et (ai 0) rfl)) aA)))
   (aM (jk (ai 0) (aO dr (et (ai 0) rfl) aD) rfl)
   (aS (bG (om (iu (et (ai 0) rfl)) (aO gp aD (ai 2)) (ai 2)))))) cV)
  (aM (cW (kp (iu (et (ai 0) rfl))) (aS (F9 F4 EX EU ER az (av (cy d7 rfl nb.d1 d2 (av (et (ai 0) rfl) aA)) aA))) cV)
  (aS (bG (ai 1))))))),?_⟩
 try dsimp only[cQ,cR,cS,cT]
 refine⟨_,I,p,C,al,_,_,I,bj,T.cl,T.Dh,YL ..,?_⟩
 refine⟨_,I,p,C,al,_,I,bj,T.cl,T.Dh,(by show 5<1000;decide),?_⟩
 rw[Mr]
 refine⟨_,I,p,C,al,_,_,I,aQ,T.cl,T.q7,tk ..,_,I,p,C,al,_,_,I,aQ,T.cl,T.nJ,Bt ..,_,_,I,⟨by rw[cF];exact gT aB,I⟩,.inl ⟨_,_,rfl,rfl,_,rfl,?_⟩⟩
 rcases Y5 t aC with⟨al5,hs⟩|⟨b,ar,CN,hs⟩
 ·refine gg (by rw[cF];omega) ?_
  rw[hs]at q
  refine⟨_,I,p,C,al,_,_,I,aQ,T.cl,T.I9,Yi ..,e,I,?_⟩
  cases e with
  |false =>
   refine gQ ?_
   have q:jg E p H (aE ag) (jn l ag 0):=q
   rw[j8]at q
   have gZ:((l.length:Nat):Int)=(((aV l).length:Nat):Int):=by rw[cF]
   refine⟨_,I,p,C,al,_,_,I,aQ,T.cl,T.nJ,Bt ..,_,_,I,⟨by rw[cF];exact gT aB,I⟩,((l.length:Nat):Int),(by rw[gZ]),Gb aB,fun d hd=>?_⟩
   exact q.up (M i) _ d _ (b6.refl _ _) aQ hd
  |true =>
   refine fb ⟨_,I,?_⟩
   exact⟨_,(M i).sub aQ,q _ _ i (M i) I aC hs aQ⟩
 ·refine jw (by rw[cF];omega) ?_
  rw[hs]at q
  refine⟨_,I,p,C,al,_,_,I,aQ,T.cl,T.nJ,Bt ..,_,I,p,C,al,_,_,I,aQ,T.cl,T.q7,tk ..,.inr ⟨_,_,pH b,I,I,by rw[cF];exact gT aB,dA (M6 ar),.inr ⟨_,_,I,TH b,(by show 1<=640;decide),?_⟩⟩⟩
  refine⟨_,I,p,C,al,_,_,I,aQ,T.cl,T.q7,tk ..,.inl ⟨_,_,I,I,_,I,p,C,al,_,I,aQ,T.cl,T.q7,(by show 5<1000;decide),?_⟩⟩
  rw[ZJ,iv]
  have cN:=fun v h=>q v _ (i+1) (M (i+1)) h (by omega) rfl aQ
  refine⟨_,I,p,C,al,_,_,I,aQ,T.cl,T.ih,Ml ..,_,I,?_⟩
  cases t with
  |false=>exact fb ⟨_,I,_,(M (i+1)).sub aQ,cN _ (by cases b<;>rfl)⟩
  |true=>exact gQ ⟨_,I,_,_,I,I,_,(M (i+1)).sub aQ,cN _ (by cases b<;>rfl)⟩
def xl(aE:Bool->ae)(C:ae):b3:=fun vs H _ E=>∃(p al:ae)(l:List Bool)(i:Nat)(t e:Bool),vs=[.ref p]/\H p=J (g7 C al l i t e)/\i<=16000000/\jg E p H (aE ah) (((i:Nat):Int)-1)
theorem T8(h:i<=16000000):(((i:Nat):Int)-1).natAbs.log2<1920:=by
 by_cases z:i=0
 .subst z;decide
 ·have:((i:Nat):Int)-1=((i-1:Nat):Int):=by omega
  rw[this];exact Gb (by omega)
theorem aae{f C:ae}{fd:fG}(T:pv K C)(j8:aE ah=eU)(EY:tH K mg "Wrong" eU rX)(EV:cq P w K mg base dv 1 rX rY ["self","place"] (sQ eU))(ES:Binds K rY ["self","place"] [])(F:c5 K "refuse" "Source.refuse" Am f fd):cq P w K mg base (fH P w) 3 f fd ["self"] (xl aE C):=by
 refine F.iF WD (fun bh A _ s H vs Q E az h=>?_)
 obtain⟨p,al,l,i,t,eP,rfl,bj,aB,q⟩:=h
 refine⟨_,(aS (F9 F4 EY EV ES az (av (aO gp (et (ai 0) I) aD) aA))),?_⟩
 try dsimp only[cQ,cR,cS,cT]
 rw[j8]at q
 exact⟨_,I,p,C,al,_,_,I,bj,T.cl,T.q7,tk ..,_,_,I,I,_,I,T8 aB,fun d hd=>q.up (b6.refl _ _) _ d _ (b6.refl _ _) bj hd⟩
inductive Rw(C:ae)(vs:List V)(H:au)(Q:bB)(E:bR):Prop where
 |mk (p al:ae) (l:List Bool) (i:Nat) (t e:Bool) (u:Int) (bu:vs=[.ref p]) (aj:H p=J (.ins C al (fJ (aV l) ((i:Nat):Int) t e u))) (aq:Q .bK (upd H p (.ins C al (fJ (aV l) ((i:Nat):Int) (!t) e u)))):Rw C vs H Q E
def zW(C:ae):b3:=fun vs H Q E=>Rw C vs H Q E
theorem U6(T:pv K C)(F:c5 K "turn" "Source.turn" AJ f fd):cq P w K mg base dv 1 f fd ["self"] (zW C):=by
 refine F.ok Xb (fun vs H Q E h=>?_) (fun bh A _ s H vs Q E az h=>?_)
 .obtain⟨p,al,l,i,t,e,u,rfl,_⟩:=h;rfl
 obtain⟨p,al,l,i,t,e,u,rfl,bj,q⟩:=h
 refine⟨_,(aS (jk (ai 0) (GK (et (ai 0) I)) I)),?_⟩
 try dsimp only[cQ,cR,cS,cT]
 refine⟨_,I,p,C,al,_,_,I,bj,T.cl,T.ih,Ml ..,t,I,_,I,p,C,al,_,I,bj,T.cl,T.ih,(by show 5<1000;decide),?_⟩
 rw[Za]
 exact q
inductive QN(C:ae)(vs:List V)(H:au)(Q:bB)(E:bR):Prop where
 |mk (p al:ae) (l:List Bool) (i:Nat) (t e:Bool) (u:Int) (bu:vs=[.ref p]) (aj:H p=J (.ins C al (fJ (aV l) ((i:Nat):Int) t e u))) (aq:Q .bK (upd H p (.ins C al (fJ (aV l) ((i:Nat):Int) t ah u)))):QN C vs H Q E
def QM(C:ae):b3:=fun vs H Q E=>QN C vs H Q E
theorem T3(T:pv K C)(F:c5 K "go_on" "Source.go_on" Ar f fd):cq P w K mg base dv 1 f fd ["self"] (QM C):=by
 refine F.ok WT (fun vs H Q E h=>?_) (fun bh A _ s H vs Q E az h=>?_)
 .obtain⟨p,al,l,i,t,e,u,rfl,_⟩:=h;rfl
 obtain⟨p,al,l,i,t,e,u,rfl,bj,q⟩:=h
 refine⟨_,(aS (jk (ai 0) hy I)),?_⟩
 try dsimp only[cQ,cR,cS,cT]
 refine⟨_,I,p,C,al,_,I,bj,T.cl,T.I9,(by show 5<1000;decide),?_⟩
 rw[Yz]
 exact q
inductive RC(C:ae)(vs:List V)(H:au)(Q:bB)(E:bR):Prop where
 |mk (p al:ae) (z:af) (i:Int) (t e:Bool) (u v:Int) (bu:vs=[.ref p,.int v]) (aj:H p=J (.ins C al (fJ z i t e u))) (aq:Q .bK (upd H p (.ins C al (fJ z i t e v)))):RC C vs H Q E
def RB(C:ae):b3:=fun vs H Q E=>RC C vs H Q E
theorem U5(T:pv K C)(F:c5 K "wish" "Source.wish" AI f fd):cq P w K mg base dv 1 f fd ["self","sign"] (RB C):=by
 refine F.ok Xa (fun vs H Q E h=>?_) (fun bh A _ s H vs Q E az h=>?_)
 .obtain⟨p,al,z,i,t,e,u,v,rfl,_⟩:=h;rfl
 obtain⟨p,al,z,i,t,e,u,v,rfl,bj,q⟩:=h
 refine⟨_,(aS (jk (ai 0) (ai 1) I)),?_⟩
 try dsimp only[cQ,cR,cS,cT]
 refine⟨_,I,_,I,p,C,al,_,I,bj,T.cl,T.Dh,(by show 5<1000;decide),?_⟩
 rw[Mr]
 exact q
theorem qy(x:R α)(f:α->List Bool->R β)(g:β->List Bool->R D1):(x.bd f).bd g=x.bd fun a s=>(f a s).bd g:=by cases x<;>rfl
theorem yk{e:Bool}:∀{w n v:Nat}{s r:List Bool},gN e w n s=.ok v r->n<=v
 |0,n,v,s,r,h=>by
  injection h with aj aq
  omega
 |w+1,n,v,s,r,h=>by
  obtain⟨b,aF,aj,aq⟩:=eM h
  have:=yk aq
  omega
inductive Q5(aE:Bool->ae)(C:ae)(vs:List V)(H:au)(Q:bB)(E:bR):Prop where
 |mk (p al:ae) (l:List Bool) (i d:Nat) (t e:Bool) (bu:vs=[.ref p,.int d]) (aj:H p=J (g7 C al l i t e)) (aq:l.length<=16000000) (bl:i<=l.length) (bW:d<=300) (d0:cY qI aE C p al l t e H Q E (gN e d 1 (sees l t i))):Q5 aE C vs H Q E
def Q4(aE:Bool->ae)(C:ae):b3:=fun vs H Q E=>Q5 aE C vs H Q E
theorem qx{i:Int}:(fJ z i t e u).lookup ("draw":af)=aw:=ya _ _ _ _ (by decide+kernel) (by decide+kernel) (by decide+kernel)
theorem v9{i:Int}:(fJ z i t e u).lookup ("turn":af)=aw:=ya _ _ _ _ (by decide+kernel) (by decide+kernel) (by decide+kernel)
theorem ND{i:Int}:(fJ z i t e u).lookup ("wish":af)=aw:=ya _ _ _ _ (by decide+kernel) (by decide+kernel) (by decide+kernel)
theorem Bz{i:Int}:(fJ z i t e u).lookup ("refuse":af)=aw:=ya _ _ _ _ (by decide+kernel) (by decide+kernel) (by decide+kernel)
theorem Wi{f C:ae}{fd:fG}(nb:dW mg)(fm:fz K C)(F:dx K mg "draw_lower_digits" EO ["source","width"] f fd)(gV:jF P w K mg base 3 C "draw" ["self"] (oZ aE C)):gU P w K mg base 4 "draw_lower_digits" ["source","width"] (Q4 aE C):=by
 refine F.iF A8 (fun bh A _ s H vs Q E az h=>?_)
 obtain⟨p,al,l,i,d,t,e,rfl,bj,aB,aC,hd,q⟩:=h
 refine⟨_,(aM (bS 2 A8.bp aD)
  (aM (pD jC.leaving rfl (rz rfl nb.p1 (av (ai 1) aA)) (eF (i:=3) A8.bp rfl (by exact Or.inl I))
   (aS (bS 2 A8.bp (aO dr (aO kW aD (ai 2)) (mw gV fm az gx.x (ai 0))))))
  (aS (bG (ai 2))))),?_⟩
 try dsimp only[cQ,cR,cS,cT]
 refine⟨_,I,_,I,by omega,by omega,?_⟩
 have g0:((d:Nat):Int).toNat=d:=by omega
 rw[g0]
 refine vX (fun j ab ax=>∃(n i:Nat)(z:Option V),ab=[J (.ref p),J (.int d),J (.int ((n:Nat):Int)),z]/\b6 p H ax/\ax p=J (g7 C al l i t e)/\i<=l.length/\cY qI aE C p al l t e H Q E (gN e (d-j) n (sees l t i))) ?_ ?_ ?_
 .exact⟨1,i,aw,I,b6.refl _ _,bj,aC,q⟩
 ·rintro j ab ax cv ⟨n,i,z,rfl,M,b2,aC,q⟩
  rw[show d-j=d-(j+1)+1 by omega]at q
  refine⟨_,I,.inl ⟨_,_,I,I,.inl ⟨by decide,by decide⟩,_,rfl,p,al,_,rfl,b2,qx,?_⟩⟩
  refine⟨p,al,l,i,t,e,ag,I,b2,aB,aC,cY.call q M fun b s v bA dV _ cI bg gj hT dX q=>?_⟩
  subst bg hT
  refine .inl ⟨_,_,I,I,2*n+b.toNat,dV,J (.int (0+((j:Nat):Int))),?_,M.trans cI,dX,gj,q⟩
  dsimp only
  rw[show(2:Int)*((n:Nat):Int)+((b.toNat:Nat):Int)=((2*n+b.toNat:Nat):Int) by omega];rfl
 ·rintro ab ax ⟨n,i,z,rfl,M,b2,aC,q⟩
  rw[Nat.sub_self]at q
  exact⟨_,I,_,M.sub b2,q _ _ i M I aC I b2⟩
inductive Qx(aE:Bool->ae)(C:ae)(vs:List V)(H:au)(Q:bB)(E:bR):Prop where
 |mk (p al:ae) (l:List Bool) (i:Nat) (t e u:Bool) (bu:vs=[.ref p]) (aj:H p=J (p3 C al l i t e (bi u))) (aq:l.length<=16000000) (bl:i<=l.length) (bW:cY qI aE C p al l t e H Q E (d3 e u (sees l t i))):Qx aE C vs H Q E
def Jz(aE:Bool->ae)(C:ae):b3:=fun vs H Q E=>Qx aE C vs H Q E
theorem XM{f C:ae}{fd:fG}(wG:ej mg "MOST_AHEAD" (.int 7))(fm:fz K C)(F:dx K mg "draw_count" Fq ["source"] f fd)(gV:jF P w K mg base 3 C "draw" ["self"] (oZ aE C))(Ad:gU P w K mg base 4 "draw_lower_digits" ["source","width"] (Q4 aE C)):gU P w K mg base 5 "draw_count" ["source"] (Jz aE C):=by
 refine F.iF AF (fun bh A _ s H vs Q E az h=>?_)
 obtain⟨p,al,l,i,t,e,u,rfl,bj,aB,aC,q⟩:=h
 refine⟨_,(aM (bS 1 AF.bp aD)
  (aM (rG jC.leaving (g9.pt (B5 (cd mR (ai 1) (hv wG)) (BL (cd da (mw gV fm az gx.x (ai 0)) aD))))
   (aS (bS 1 AF.bp (aO dr (ai 1) aD))))
  (aM (bS 2 AF.bp (lb Ad az gx.x (av (ai 0) (av (ai 1) aA))))
  (aS (bG (aO gp (lb Ad az gx.x (av (ai 0) (av (aO gp (ai 2) aD) aA))) aD)))))),?_⟩
 try dsimp only[cQ,cR,cS,cT]
 unfold d3 at q
 obtain⟨rest,hrest⟩:∃rest:Nat->List Bool->R Nat,rest=fun a s=>(gN e a 1 s).bd fun g s=>(gN e (g-1) 1 s).bd fun m s =>.ok (m-1) s:=⟨_,rfl⟩
 rw[<-hrest]at q
 refine⟨fun m ab ax=>∃(a i:Nat)(u:Bool),a<=7/\m=7-a/\ab=[J (.ref p),J (.int ((a:Nat):Int)),aw]/\b6 p H ax/\ax p=J (p3 C al l i t e (bi u))/\i<=l.length/\(a≠0->u=ag)/\cY qI aE C p al l t e H Q E ((jm e (7-a) u a (sees l t i)).bd rest),⟨7,0,i,u,by omega,rfl,rfl,b6.refl _ _,bj,aC,(fun z=>absurd rfl z),q⟩,?_⟩
 rintro m ab ax ⟨a,i,u,bf,rfl,rfl,M,b2,aC,dY,q⟩
 refine⟨_,I,.inl ⟨_,_,I,I,_,I,?_⟩⟩
 refine e5 (fun c=>?_) (fun c=>?_)
 ·rw[show 7-a=7-(a+1)+1 by omega,jm,qy]at q
  refine⟨_,I,p,al,_,I,b2,qx,p,al,l,i,t,e,u,I,b2,aB,aC,cY.call q M fun b s v bA dV _ cI bg gj hT dX q=>?_⟩
  subst bg hT
  have cI:=M.trans cI
  refine⟨I,_,I,?_⟩
  cases b with
  |true =>
   refine jw I ⟨fun bU H'=>∃b8,b8<7-a/\∃(a i:Nat)(u:Bool),a<=7/\b8=7-a/\bU=[J (.ref p),J (.int ((a:Nat):Int)),aw]/\b6 p H H'/\H' p=J (p3 C al l i t e (bi u))/\i<=l.length/\(a≠0->u=ag)/\cY qI aE C p al l t e H Q E ((jm e (7-a) u a (sees l t i)).bd rest),fun _ _ h=>h,?_⟩
   exact⟨_,I,.inl ⟨_,_,I,I,7-(a+1),by omega,a+1,dV,ag,by omega,rfl,rfl,cI,dX,gj,(fun _=>rfl),q⟩⟩
  |false =>
   refine gg (by intro z;cases z) ?_
   have q:cY qI aE C p al l t e H Q E (rest a (sees l t dV)):=q
   clear b2 M aC dY
   rw[hrest]at q
   refine⟨_,I,_,I,p,al,l,_,a,t,e,I,dX,aB,gj,by omega,cY.call q cI fun g s v hF mO aH fI bg mH mM jq q=>?_⟩
   subst bg mM
   have g1:=yk aH
   have g2:=By bf aH
   have fI:=cI.trans fI
   have ad:((g:Nat):Int)-1=((g-1:Nat):Int):=by omega
   refine⟨_,I,_,I,_,_,I,I,p,al,l,mO,g-1,t,e,by dsimp only;rw[ad],jq,aB,mH,by omega,cY.call q fI fun m s v gb w4 hm lI bg yZ za qP q=>?_⟩
   subst bg za
   have f6:=yk hm
   have lI:=fI.trans lI
   have Hl:((m:Nat):Int)-1=((m-1:Nat):Int):=by omega
   exact⟨_,_,I,I,_,lI.sub qP,by dsimp only;rw[Hl];exact q _ _ w4 lI I yZ I qP⟩
 ·have dd:a=7:=by omega
  rw[show 7-a=0 by omega]at q
  have cI:=M
  have gj:=aC
  rw[dY (by omega)]at b2
  have dX:ax p=J (g7 C al l i t e):=b2
  have q:cY qI aE C p al l t e H Q E (rest a (sees l t i)):=q
  rw[hrest]at q
  refine⟨_,I,_,I,p,al,l,_,a,t,e,I,dX,aB,gj,by omega,cY.call q cI fun g s v hF mO aH fI bg mH mM jq q=>?_⟩
  subst bg mM
  have g1:=yk aH
  have g2:=By bf aH
  have fI:=cI.trans fI
  have ad:((g:Nat):Int)-1=((g-1:Nat):Int):=by omega
  refine⟨_,I,_,I,_,_,I,I,p,al,l,mO,g-1,t,e,by dsimp only;rw[ad],jq,aB,mH,by omega,cY.call q fI fun m s v gb w4 hm lI bg yZ za qP q=>?_⟩
  subst bg za
  have f6:=yk hm
  have lI:=fI.trans lI
  have Hl:((m:Nat):Int)-1=((m-1:Nat):Int):=by omega
  exact⟨_,_,I,I,_,lI.sub qP,by dsimp only;rw[Hl];exact q _ _ w4 lI I yZ I qP⟩
inductive RA(aE:Bool->ae)(C:ae)(vs:List V)(H:au)(Q:bB)(E:bR):Prop where
 |mk (p al:ae) (l:List Bool) (i:Nat) (t e:Bool) (bu:vs=[.ref p]) (aj:H p=J (g7 C al l i t e)) (aq:l.length<=16000000) (bl:i<=l.length) (bW:cY OC aE C p al l t e H Q E (ku e (sees l t i))):RA aE C vs H Q E
def DE(aE:Bool->ae)(C:ae):b3:=fun vs H Q E=>RA aE C vs H Q E
theorem XJ{f C:ae}{fd:fG}(fm:fz K C)(F:dx K mg "draw_whole" Fo ["source"] f fd)(gV:jF P w K mg base 3 C "draw" ["self"] (oZ aE C))(lK:mm P w K mg base 1 C "turn" ["self"] (zW C))(ta:gU P w K mg base 5 "draw_count" ["source"] (Jz aE C)):gU P w K mg base 6 "draw_whole" ["source"] (DE aE C):=by
 refine F.iF L2 (fun bh A _ s H vs Q E az h=>?_)
 obtain⟨p,al,l,i,t,e,rfl,bj,aB,aC,q⟩:=h
 refine⟨_,(aM (cW (cd da (mw gV fm az gx.x (ai 0)) aD) (aS (bG (lb ta az gx.x (av (ai 0) aA)))) cV)
  (aM (iO (ts lK fm az (ai 0)))
  (aM (bS 1 L2.bp (aO gp (lh k5 aD) (lb ta az gx.x (av (ai 0) aA))))
  (aM (iO (ts lK fm az (ai 0)))
  (aS (bG (ai 1))))))),?_⟩
 try dsimp only[cQ,cR,cS,cT]
 unfold ku at q
 refine⟨_,I,p,al,_,I,bj,qx,p,al,l,i,t,e,ag,I,bj,aB,aC,cY.call q (b6.refl _ _) fun b s v bA dV _ cI bg gj hT dX q=>?_⟩
 subst bg hT
 refine⟨I,_,I,?_⟩
 cases b with
 |true =>
  refine jw I ?_
  refine⟨_,I,p,al,l,dV,t,e,ag,I,dX,aB,gj,cY.call q cI fun n s v hF mO _ fI bg mH mM jq q=>?_⟩
  subst bg mM
  have fI:=cI.trans fI
  exact⟨_,fI.sub jq,q _ _ mO fI I mH I jq⟩
 |false =>
  refine gg (by intro z;cases z) ?_
  have q:cY OC aE C p al l t e H Q E ((d3 e ag ((sees l t dV).map (!·))).bd fun n s =>.ok (-1-((n:Nat):Int)) s).bV:=q
  rw[<-vZ]at q
  have fI:b6 p H (upd bA p (g7 C al l dV (!t) e)):=cI.trans (b6.move dX)
  refine⟨_,I,p,al,_,I,dX,v9,p,al,l,_,_,_,_,I,dX,?_⟩
  refine⟨_,I,_,I,p,al,l,dV,!t,e,ag,I,aQ,aB,gj,cY.aa9 q fI fun n s v gb w4 _ lI bg yZ za qP q=>?_⟩
  subst bg za
  have rA:b6 p H (upd gb p (g7 C al l w4 (!!t) e)):=(fI.trans lI).trans (b6.move qP)
  refine⟨_,_,I,I,?_⟩
  refine⟨_,I,p,al,_,I,qP,v9,p,al,l,_,_,_,_,I,qP,?_⟩
  rw[Bool.not_not]at rA ⊢
  refine⟨_,I,_,rA.sub aQ,q _ _ w4 rA I yZ ?_ aQ⟩
  rw[vZ,nn]
inductive QF(aE:Bool->ae)(C:ae)(vs:List V)(H:au)(Q:bB)(E:bR):Prop where
 |mk (p al:ae) (l:List Bool) (i m:Nat) (t e:Bool) (bu:vs=[.ref p,.int m]) (aj:H p=J (g7 C al l i t e)) (aq:l.length<=16000000) (bl:i<=l.length) (bW:ba m<=1000) (d0:cY qI aE C p al l t e H Q E (fx e m (ba m) 0 (sees l t i))):QF aE C vs H Q E
def zN(aE:Bool->ae)(C:ae):b3:=fun vs H Q E=>QF aE C vs H Q E
theorem XK{f C:ae}{fd:fG}(nb:dW mg)(fm:fz K C)(F:dx K mg "draw_fixed" Fp ["source","most"] f fd)(gV:jF P w K mg base 3 C "draw" ["self"] (oZ aE C))(lJ:jF P w K mg base 3 C "refuse" ["self"] (xl aE C)):gU P w K mg base 4 "draw_fixed" ["source","most"] (zN aE C):=by
 refine F.iF AE (fun bh A _ s H vs Q E az h=>?_)
 obtain⟨p,al,l,i,m,t,e,rfl,bj,aB,aC,hm,q⟩:=h
 refine⟨_,(aM (bS 2 AE.bp aD)
  (aM (pD jC.leaving rfl (MF rfl nb.p1 (av (aO gp (yp PySem.F.plainAttrs_int PySem.F.slot_int_bit_length PySem.F.type_int_bit_length x8 (ai 1)) aD) (av (lh k5 aD) (av (lh k5 aD) aA)))) (eF (i:=3) AE.bp rfl (by exact Or.inl I))
   (aM (bS 2 AE.bp (aO dr (aO kW aD (ai 2)) (mw gV fm az gx.x (ai 0))))
   (aS (cW (cd kV (ai 2) (aO Le (ai 1) (ai 3))) (aS (iO (mw lJ fm az gx.x (ai 0)))) cV))))
  (aS (bG (ai 2))))),?_⟩
 try dsimp only[cQ,cR,cS,cT]
 have alX:=wb m
 refine⟨_,I,I,_,I,I,_,_,I,I,_,I,_,I,_,_,I,⟨by omega,by omega,by decide,by decide⟩,?_⟩
 have hw:(((c6.Int.intBits ((m:Nat):Int):Nat):Int)-1-(-1)).toNat=ba m:=by omega
 refine Zw (fun j ab ax=>∃(n i:Nat)(z:Option V),ab=[J (.ref p),J (.int m),J (.int ((n:Nat):Int)),z]/\b6 p H ax/\ax p=J (g7 C al l i t e)/\i<=l.length/\cY qI aE C p al l t e H Q E (fx e m (ba m-j) n (sees l t i))) ?_ ?_ ?_
 .exact⟨0,i,aw,I,b6.refl _ _,bj,aC,q⟩
 ·rintro j ab ax cv ⟨n,i,z,rfl,M,b2,aC,q⟩
  rw[hw]at cv
  have lk:(((c6.Int.intBits ((m:Nat):Int):Nat):Int)-1+(j:Int)*(-1)).toNat=ba m-1-j:=by omega
  rw[show ba m-j=ba m-1-j+1 by omega,fx]at q
  refine⟨_,I,.inl ⟨_,_,I,I,.inl ⟨by decide,by decide⟩,_,rfl,p,al,_,rfl,b2,qx,?_⟩⟩
  refine⟨p,al,l,i,t,e,ag,I,b2,aB,aC,cY.call q M fun b s v bA dV _ cI bg gj hT dX q=>?_⟩
  have cL:=vt gj hT
  subst bg hT
  have cI:=M.trans cI
  refine .inl ⟨_,_,I,I,?_⟩
  refine⟨_,I,_,I,_,I,_,_,I,I,(by omega),_,_,I,I,_,I,?_⟩
  have ev:(2:Int)*((n:Nat):Int)+((b.toNat:Nat):Int)=((2*n+b.toNat:Nat):Int):=by omega
  have a1:((m:Nat):Int)/2^(ba m-1-j)=((m/2^(ba m-1-j):Nat):Int):=by
   rw[Int.natCast_ediv,Int.natCast_pow];rfl
  refine e5 (fun c=>?_) (fun c=>?_)
  ·rw[ev,lk,a1]at c
   rw[if_pos (by omega)]at q
   have q:jg E p H (aE ah) (jn l ah (sees l t dV).length):=q
   unfold jn at q
   rw[if_pos rfl,cL.1]at q
   exact⟨_,I,p,al,_,I,dX,Bz,p,al,l,dV,t,e,I,dX,by omega,q.up cI⟩
  ·rw[ev,lk,a1]at c
   rw[if_neg (by omega)]at q
   refine⟨2*n+b.toNat,dV,J (.int (((c6.Int.intBits ((m:Nat):Int):Nat):Int)-1+(j:Int)*(-1))),?_,cI,dX,gj,by rw[show ba m-(j+1)=ba m-1-j by omega];exact q⟩
   dsimp only
   rw[ev];rfl
 ·rintro ab ax ⟨n,i,z,rfl,M,b2,aC,q⟩
  rw[hw,Nat.sub_self]at q
  exact⟨_,I,_,M.sub b2,q _ _ i M I aC I b2⟩
inductive Qy(vs:List V)(H:au)(Q:bB)(E:bR):Prop where
 |mk (n:Nat) (bu:vs=[.int n]) (aj:n+1<2^255) (aq:Q (.str (aV (cnt n))) H):Qy  vs H Q E
def JA:b3:=fun vs H Q E=>Qy  vs H Q E
theorem Gz(e:Nat):(ks e).length<=1:=by unfold ks;split<;>simp
theorem Uw{n:Nat}(h:2^k<=n):k<ba n:=by
 rcases j4 k (ba n)with z|z
 .exact z
 ·have:=rL n
  have:=Nat.pow_le_pow_right (show 0<2 by decide) z
  omega
def h2(n:Int):Prop:=0<=n/\n<2^255-1
noncomputable instance (n:Int):Decidable (h2 n):=inferInstanceAs (Decidable (_/\_))
inductive QS(vs:List V)(H:au)(Q:bB)(E:bR):Prop where
 |mk (n:Int) (bu:vs=[.int n]) (aj:Q (.aN (decide (h2 n))) H):QS  vs H Q E
def zP:b3:=fun vs H Q E=>QS  vs H Q E
theorem Oe:h2 (m:Int)↔ba (m+1)<=255:=by
 unfold h2
 constructor
 .intro ⟨_,h⟩;exact hn (by omega)
 ·intro h
  rcases j4 (m+1) (2^255)with z|z
  .omega
  .have:=Uw z;omega
theorem YJ(HM:ej mg "MOST_DIGITS" (.int 255))(F:dx K mg "is_count" FW ["n"] f fd):bD P w K mg base 1 "is_count" ["n"] zP:=by
 refine F.fp Yw (fun bh A _ s H vs Q E az h=>?_)
 obtain⟨n,rfl,q⟩:=h
 refine⟨_,(aS (bG (jl (gi zz (ai 0) aD) (kq (gi zA (yp PySem.F.plainAttrs_int PySem.F.slot_int_bit_length PySem.F.type_int_bit_length x8 (aO dr (ai 0) aD)) (hv HM)))))),?_⟩
 try dsimp only[cQ,cR,cS,cT]
 refine⟨_,I,_,_,I,I,_,I,?_⟩
 refine e5 (fun c=>?_) (fun c=>?_)
 ·refine⟨_,I,.inl ⟨_,_,I,I,I,_,I,I,_,_,I,I,H,.refl (eb _),?_⟩⟩
  obtain⟨m,rfl⟩:∃m:Nat,n=m:=⟨n.toNat,by omega⟩
  rw[show((m:Int)+1)=((m+1:Nat):Int)from rfl,wb (m+1)]
  have e:decide (((ba (m+1):Nat):Int)<=255)=decide (h2 (m:Int)):=by
   rw[decide_eq_decide,Oe];omega
  dsimp only
  rw[e]
  exact q
 ·refine⟨H,.refl (eb _),?_⟩
  have e:decide (h2 n)=ag:=gu fun z=>c z.1
  rw[<-e];exact q
theorem Ye(wG:ej mg "MOST_AHEAD" (.int 7))(F:dx K mg "count_row" FG ["n"] f fd)(m6:bD P w K mg base 1 "is_count" ["n"] zP)(te:bD P w K mg base 1 "lower_digits" ["n","width"] JH):bD P w K mg base 2 "count_row" ["n"] JA:=by
 refine F.fp xQ (fun bh A _ s H vs Q E az h=>?_)
 obtain⟨n,rfl,bo,q⟩:=h
 refine⟨_,(aM (cW (kp (iu (cj m6 az (av (ai 0) aA)))) (aS oj) cV)
  (aM (bS 1 xQ.bp (aO dr (ai 0) aD))
  (aM (bS 2 xQ.bp (yp PySem.F.plainAttrs_int PySem.F.slot_int_bit_length PySem.F.type_int_bit_length x8 (ai 1)))
  (aM (bS 3 xQ.bp (aO gp (yp PySem.F.plainAttrs_int PySem.F.slot_int_bit_length PySem.F.type_int_bit_length x8 (ai 2)) aD))
  (aM (bS 4 xQ.bp (om (cd da (ai 3) (hv wG)) cw cw))
  (aS (bG (aO dr (aO dr (aO dr (aO kW cw (ai 3)) (ai 4)) (cj te az (av (ai 2) (av (ai 3) aA)))) (cj te az (av (ai 1) (av (aO gp (ai 2) aD) aA))))))))))),?_⟩
 try dsimp only[cQ,cR,cS,cT]
 have hd:ba (n+1)<=255:=hn bo
 have bj:0<ba (n+1):=rI (by omega)
 have he:ba (ba (n+1))<=8:=hn (by omega)
 have aW:0<ba (ba (n+1)):=rI (by omega)
 have gD:=wb (n+1)
 have f3:=wb (ba (n+1))
 refine⟨_,I,_,I,_,I,?_⟩
 rw[d6 (Oe.mpr hd)]
 refine fb ⟨_,I,.inl ⟨_,_,I,I,_,I,I,_,I,I,?_⟩⟩
 rw[show((n:Int)+1)=((n+1:Nat):Int)from rfl,gD]
 refine⟨_,I,I,_,I,I,_,_,I,I,?_⟩
 rw[f3]
 obtain⟨k,hk⟩:∃k:Nat,((ba (ba (n+1)):Nat):Int)-1=k:=⟨ba (ba (n+1))-1,by omega⟩
 have hk':k=ba (ba (n+1))-1:=by omega
 dsimp only
 rw[hk]
 have a1:(k:Int)<2^40:=by omega
 have a2 : -(2^40)<(k:Int):=by omega
 have a3:(af.ofString "1").length*((k:Nat):Int).toNat<=bY:=by rw[s1,cF];exact fg (by show 1*_<=_;omega)
 have a4:(Txt.mul (af.ofString "1") (k:Int)).length+(aV (ks (ba (ba (n+1))))).length<=bY:=by
  rw[s1,BN,cF,cF,List.length_replicate]
  have:=Gz (ba (ba (n+1)))
  exact fg (by omega)
 have a5:(Txt.mul (af.ofString "1") (k:Int)++aV (ks (ba (ba (n+1))))).length+(aV (el (ba (n+1)) k)).length<=bY:=by
  rw[s1,BN,hN,cF,cF,cD,List.length_replicate,la]
  have:=Gz (ba (ba (n+1)))
  exact fg (by omega)
 have a6:(Txt.mul (af.ofString "1") (k:Int)++aV (ks (ba (ba (n+1))))++aV (el (ba (n+1)) k)).length+(aV (el (n+1) (ba (n+1)-1))).length<=bY:=by
  rw[s1,BN,hN,hN,cF,cF,cD,cD,List.length_replicate,la,la]
  have:=Gz (ba (ba (n+1)))
  exact fg (by omega)
 have NY:Txt.mul (af.ofString "1") (k:Int)++aV (ks (ba (ba (n+1))))++aV (el (ba (n+1)) k)++aV (el (n+1) (ba (n+1)-1))=aV (cnt n):=by
  rw[s1,BN,hN,hN,hN]
  unfold cnt
  rw[hk',e2,e2]
  rfl
 have ad:[V.int ((n:Int)+1),V.int (((ba (n+1):Nat):Int)-1)]=[.int ((n+1:Nat):Int),.int ((ba (n+1)-1:Nat):Int)]:=by
  have:((ba (n+1):Nat):Int)-1=((ba (n+1)-1:Nat):Int):=by omega
  rw[this];rfl
 refine⟨_,I,I,_,I,?_⟩
 refine e5 (fun c=>?_) (fun c=>?_)
 ·have Iv:(af.ofString "")=aV (ks (ba (ba (n+1)))):=by
   have:=V.int.inj c
   rw[Qj];unfold ks;rw[if_pos (by omega)]
  rw[Iv]
  refine⟨_,I,.inr ⟨_,_,I,I,a1,a2,a3,_,I,.inr ⟨_,_,I,I,a4,_,I,_,I,_,_,I,(by omega),.inr ⟨_,_,I,I,a5,?_⟩⟩⟩⟩
  refine⟨_,I,_,I,_,_,I,I,n+1,ba (n+1)-1,ad,(by omega),.inr ⟨_,_,I,I,a6,H,.refl (eb _),?_⟩⟩
  rw[NY]
  exact q
 ·have Iv:(af.ofString "0")=aV (ks (ba (ba (n+1)))):=by
   have:¬k=7:=fun z=>c (by rw[z];rfl)
   rw[s0];unfold ks;rw[if_neg (by omega)]
  rw[Iv]
  refine⟨_,I,.inr ⟨_,_,I,I,a1,a2,a3,_,I,.inr ⟨_,_,I,I,a4,_,I,_,I,_,_,I,(by omega),.inr ⟨_,_,I,I,a5,?_⟩⟩⟩⟩
  refine⟨_,I,_,I,_,_,I,I,n+1,ba (n+1)-1,ad,(by omega),.inr ⟨_,_,I,I,a6,H,.refl (eb _),?_⟩⟩
  rw[NY]
  exact q
def iM(n:Int):Prop := -(2^255)<n/\n<2^255-1
inductive LU(vs:List V)(H:au)(Q:bB)(E:bR):Prop where
 |mk (n:Int) (bu:vs=[.int n]) (aj:iM n) (aq:Q (.str (aV (iW n))) H):LU  vs H Q E
def Bo:b3:=fun vs H Q E=>LU  vs H Q E
theorem U8{n:Int}(h:n<0)(b : -(2^255)<n):∃m:Nat,-1-n=m/\m+1<2^255/\iW n=ag::(cnt m).map (!·):=by
 refine⟨(-1-n).toNat,by omega,by omega,?_⟩
 unfold iW;rw[if_pos h]
theorem US{n:Int}(h:¬n<0)(b:n<2^255-1):∃m:Nat,n=m/\m+1<2^255/\iW n=ah::cnt m:=by
 refine⟨n.toNat,by omega,by omega,?_⟩
 unfold iW;rw[if_neg h]
theorem BI{n:Nat}(h:n+1<2^255):(cnt n).length<=269:=by
 have:=Bu h
 have:=hn h
 omega
theorem Nr(b:Bool)(l:List Bool):aV [b]++aV l=aV (b::l):=by rw[hN];rfl
theorem X2(F:dx K mg "whole_row" Ft ["n"] f fd)(tb:bD P w K mg base 2 "count_row" ["n"] JA)(n4:bD P w K mg base 1 "turned_row" ["row"] x3):bD P w K mg base 3 "whole_row" ["n"] Bo:=by
 refine F.fp XS (fun bh A _ s H vs Q E az h=>?_)
 obtain⟨n,rfl,bo,q⟩:=h
 refine⟨_,(aM (cW (cd mR (ai 0) aD) (aS (bG (aO dr cw (cj n4 az (av (cj tb az (av (aO gp (lh k5 aD) (ai 0)) aA)) aA))))) cV)
  (aS (bG (aO dr cw (cj tb az (av (ai 0) aA)))))),?_⟩
 try dsimp only[cQ,cR,cS,cT]
 refine⟨_,I,.inl ⟨_,_,I,I,_,I,?_⟩⟩
 refine e5 (fun c=>?_) (fun c=>?_)
 ·obtain⟨m,e,hm,pK⟩:=U8 c bo.1
  have lm:=BI hm
  refine⟨_,I,_,I,_,_,I,I,m,(congrArg (fun x=>[V.int x]) e),hm,cnt m,I,(by omega),.inr ⟨_,_,I,I,(by rw[s0,cF,cF,cC];exact fg (by simp only[dZ,List.length_nil];omega)),H,.refl (eb _),?_⟩⟩
  rw[s0,Nr,<-pK]
  exact q
 ·obtain⟨m,rfl,hm,pK⟩:=US c bo.2
  have lm:=BI hm
  refine⟨_,I,m,I,hm,.inr ⟨_,_,I,I,(by rw[s1,cF,cF];exact fg (by simp only[dZ,List.length_nil];omega)),H,.refl (eb _),?_⟩⟩
  rw[s1,Nr,<-pK]
  exact q
theorem nE(l:List Int):(l.map V.int).length=l.length:=cC ..
theorem xk{n:Nat}(h:n<=100001):n<=bY:=eE h (by decide)
theorem ry{r:ae}{o:c2}(hs:eD H ax)(az:H r=aw):eD H (upd ax r o):=fun b u e=>by rw[bO (eN e az)];exact hs b u e
inductive Rv(vs:List V)(H:au)(Q:bB)(E:bR):Prop where
 |mk (t:ae) (p q:Int) (bu:vs=[.ref t]) (aj:H t=J (.tup [.int p,.int q])) (aq:0<=q) (bl:(eu p q).length<=100000) (bW:(∀x∈eu p q,x.natAbs<2^1000)) (d0:∀r,H r=aw->Q (.ref r) (upd H r (.lst ((eu p q).map .int)))):Rv  vs H Q E
def DC:b3:=fun vs H Q E=>Rv  vs H Q E
theorem YC(F:dx K mg "steps_of" FO ["fraction"] f fd):bD P w K mg base 1 "steps_of" ["fraction"] DC:=by
 refine F.fp tE (fun bh A _ s H vs Q E az h=>?_)
 obtain⟨t,p,q,rfl,aT,aW,aB,ar,fY⟩:=h
 refine⟨_,(aM (bS 1 tE.bp (gC aA))
  (aM (bS 2 tE.bp (cP cU (ai 0) aD))
  (aM (bS 3 tE.bp (cP cU (ai 0) aD))
  (aM (rG jC.never (cd sz (ai 3) aD)
   (aM (iO (jG PySem.F.plainAttrs_list PySem.F.slot_list_append PySem.F.type_list_append tu (ai 1) (av (aO v3 (ai 2) (ai 3)) aA)))
   (aM (bS 4 tE.bp (aO dG (ai 2) (ai 3)))
   (aM (bS 2 tE.bp (ai 3))
   (aS (bS 3 tE.bp (ai 4)))))))
  (aS (bG (ai 1))))))),?_⟩
 try dsimp only[cQ,cR,cS,cT]
 have a0:eG [V.int p,V.int q] 0=J (.int p):=dA (j:=0) rfl
 have a1:eG [V.int p,V.int q] 1=J (.int q):=dA (j:=1) rfl
 refine⟨UF _,fun r e4=>?_⟩
 have sk:=dq (o:=c2.lst []) e4 t _ aT
 refine⟨_,I,.inl (.inr ⟨_,_,_,_,I,I,dk sk,a0,_,I,.inl (.inr ⟨_,_,_,_,I,I,dk sk,a1,?_⟩)⟩)⟩
 refine⟨fun m ab ax=>∃(d:List Int)(x y:Int)(z:Option V),d++eu x y=eu p q/\0<=y/\m=y.toNat/\ab=[J (.ref t),J (.ref r),J (.int x),J (.int y),z]/\ax=upd H r (.lst (d.map .int)),⟨q.toNat,[],p,q,aw,I,aW,I,I,I⟩,?_⟩
 rintro m ab ax ⟨d,x,y,z,hd,bP,rfl,rfl,rfl⟩
 refine⟨_,I,I,_,I,?_⟩
 rw[yi]
 by_cases uE:y=0
 ·subst uE
  rw[qs,List.append_nil]at hd
  subst hd
  refine fb ⟨_,I,_,.new e4 (dq e4) aQ trivial,fY r e4⟩
 ·have nC:0<y:=by omega
  rw[lS nC]at hd
  have sg:x/y∈eu p q:=by rw[<-hd];exact nf _ (hM ..)
  have cL:=congrArg List.length hd
  rw[cD,dZ]at cL
  have hf:(y == 0)=ag:=by simpa using uE
  rw[hf]
  have cK:=hJ x nC
  have kX:=hu x uE
  refine gQ ⟨fun bU H'=>∃b8,b8<y.toNat/\∃(d:List Int)(x y:Int)(z:Option V),d++eu x y=eu p q/\0<=y/\b8=y.toNat/\bU=[J (.ref t),J (.ref r),J (.int x),J (.int y),z]/\H'=upd H r (.lst (d.map .int)),fun _ _ h=>h,?_⟩
  refine⟨_,I,.inl ⟨I,_,b1 aQ⟩,_,I,_,I,_,_,I,I,⟨nC,.inr (eE (Um nC (ar _ sg)) (Nat.add_le_add_left (by decide) _))⟩,?_⟩
  refine⟨_,_,_,I,I,aQ,(by rw[nE];exact fB (show d.length<100001 by omega) (xk (by decide))),?_⟩
  refine⟨_,I,_,I,_,_,I,I,nC,_,I,_,I,?_⟩
  refine⟨(x%y).toNat,by omega,d++[x/y],y,x%y,_,?_,kX,rfl,rfl,?_⟩
  .rw[e2];exact hd
  .rw[iv,fk];rfl
inductive Qs(vs:List V)(H:au)(Q:bB)(E:bR):Prop where
 |mk (a:ae) (s:List Int) (bu:vs=[.ref a]) (aj:H a=J (.lst (s.map .int))) (aq:s.length<=100000) (bl:Q (.aN (gE s)) H):Qs  vs H Q E
def Jx:b3:=fun vs H Q E=>Qs  vs H Q E
theorem YN(h:s.length<2):gE s=decide (s.length=1):=by unfold gE;rw[if_pos h]
theorem Zr(h:¬s.length<2):gE s=(s.tail.all (fun x=>decide (0<x))&&decide (1<s.getLastD 0)):=by unfold gE;rw[if_neg h]
theorem Gh(h:s≠[]):eG (s.map V.int) (-1)=J (.int (s.getLastD 0)):=by
 rw[List.getLastD_eq_getLast?,List.getLast?_eq_some_getLast h,Option.getD_some]
 conv=>lhs;rw[<-List.dropLast_concat_getLast h,fk]
 exact Uz _ _
theorem Yf(nb:dW mg)(F:dx K mg "are_steps" FH ["steps"] f fd):bD P w K mg base 1 "are_steps" ["steps"] Jx:=by
 refine F.fp XV (fun bh A _ s H vs Q E az h=>?_)
 obtain⟨a,s,rfl,bf,aB,q⟩:=h
 refine⟨_,(aM (cW (cd mR (cy d7 I nb.d1 d2 (av (ai 0) aA)) aD) (aS (bG (gi da (cy d7 I nb.d1 d2 (av (ai 0) aA)) aD))) cV)
  (aS (bG (jl (cy (v7 rfl) rfl nb.wi wh (av (jj ["step"] [] rfl (by decide+kernel) trivial (kb (iw iG (ai 0) (h8 aD) iP)) (fun _ _ _ _ _=>(eF (i:=0) (show(["step"]:List af).Nodup by decide+kernel))) (fun _ _ _ _ _=>iN) (fun _ _ _ _ _=>(gi kV (ai 0) aD))) aA)) (kq (gi kV (cP cU (ai 0) (lh k5 aD)) aD)))))),?_⟩
 try dsimp only[cQ,cR,cS,cT]
 refine⟨_,I,_,_,I,.inl ⟨_,b1 bf,I⟩,.inl ⟨_,_,I,I,_,I,?_⟩⟩
 rw[nE]
 refine e5 (fun c=>?_) (fun c=>?_)
 ·refine⟨_,I,_,_,I,.inl ⟨_,b1 bf,I⟩,I,H,.refl (eb _),?_⟩
  have e:decide (V.int ((s.map V.int).length:Nat)=V.int 1)=gE s:=by
   rw[YN (by omega),nE,yi]
   apply Bool.eq_iff_iff.mpr;simp;omega
  rw[e];exact q
 ·have hs:s≠[]:=by intro e;subst e;simp at c
  refine .inl ⟨_,I,_,I,.inl ⟨a,_,I,b1 bf,fun p bj=>⟨_,I,⟨_,b1 aQ⟩,fun D dH=>?_⟩⟩⟩
  rw[MV,<-List.map_drop]at dH ⊢
  have lz:=dq (o:=c2.lst ((s.drop 1).map V.int)) bj
  refine BA (xs:=(s.drop 1).map V.int) (fun x=>match x with|.int i =>.aN (decide (0<i))|_=>x) (fun ab=>ab.length=1) (by rw[nE,kn];exact fg (by omega)) rfl dH (b1 aQ) ?_ ?_
  ·rintro x ay cz H1 b2 gw R cJ
   obtain⟨i,_,rfl⟩:=List.mem_map.mp ay
   obtain⟨z,rfl⟩:=BC b2
   exact⟨_,I,_,_,I,I,cJ _ I⟩
  ·rw[iL]
   have sO:=lz.trans (dq (o:=c2.lst ((s.drop 1).map fun i=>V.aN (decide (0<i)))) dH)
   refine⟨D,(s.drop 1).map fun i=>decide (0<i),I,b1 (by rw[aQ,iL];rfl),_,I,?_⟩
   have cZ:gE s=(((s.drop 1).map fun i=>decide (0<i)).all id&&decide (1<s.getLastD 0)):=by
    rw[Zr (by omega),<-List.drop_one,List.all_map];rfl
   cases ib:((s.drop 1).map fun i=>decide (0<i)).all id with
   |false =>
    rw[ib,Bool.false_and]at cZ
    rw[cZ]at q
    exact fb ⟨H,.refl sO,q⟩
   |true =>
    rw[ib,Bool.true_and]at cZ
    rw[cZ]at q
    exact gQ ⟨_,I,_,I,.inl (.inl ⟨_,_,_,_,I,I,b1 (sO _ _ bf),Gh hs,_,_,I,I,H,.refl sO,q⟩)⟩
inductive QK(vs:List V)(H:au)(Q:bB)(E:bR):Prop where
 |mk (a:ae) (s:List Int) (bu:vs=[.ref a]) (aj:H a=J (.lst (s.map .int))) (aq:s.length<=1000) (bl:(∀x∈s,x.natAbs<2^1000)) (bW:Good s) (d0:∀r,H r=aw->Q (.ref r) (upd H r (.tup [.int (cO s).1,.int (cO s).2]))):QK  vs H Q E
def QJ:b3:=fun vs H Q E=>QK  vs H Q E
theorem Z5(aB:s.length<=1000)(ar:∀x∈s,x.natAbs<2^1000):c6.Int.intBits (cO s).1<=2^20/\c6.Int.intBits (cO s).2<=2^20:=by
 obtain⟨aj,aq⟩:=MQ ar
 have k:(1000+1)*s.length+1<=2^20:=by
  have:(1000+1)*s.length<=1001*1000:=Nat.mul_le_mul_left _ aB
  omega
 exact⟨eE (NT aj) k,eE (NT aq) k⟩
theorem aaF{x:V}(h:((s.take (s.length-1)).map V.int)[((s.take (s.length-1)).map V.int).length-1-i]?=J x)(aC:i<s.length-1):∃y,x=.int y/\s.drop (s.length-1-(i+1))=y::s.drop (s.length-1-i)/\y∈s:=by
 rw[nE,hb,Nat.min_eq_left (by omega),gf,List.getElem?_take_of_lt (by omega)]at h
 have hk:s.length-1-1-i<s.length:=by omega
 rw[dR hk]at h
 refine⟨_,(gX h).symm,?_,List.getElem_mem hk⟩
 have aI:s.length-1-(i+1)=s.length-1-1-i:=by omega
 have aL:s.length-1-i=s.length-1-1-i+1:=by omega
 rw[aI,aL]
 exact AY hk
theorem aad(h:s≠[]):s.drop (s.length-1)=[s.getLastD 0]:=by
 rw[List.getLastD_eq_getLast?,List.getLast?_eq_some_getLast h,Option.getD_some]
 conv=>lhs;rw[<-List.dropLast_concat_getLast h]
 rw[cD,hL,Nat.add_sub_cancel,List.drop_left]
theorem Xm(nb:dW mg)(F:dx K mg "fraction_of" Fc ["steps"] f fd)(vf:bD P w K mg base 1 "are_steps" ["steps"] Jx):bD P w K mg base 2 "fraction_of" ["steps"] QJ:=by
 refine F.fp tJ (fun bh A _ s H vs Q E az h=>?_)
 obtain⟨a,s,rfl,bf,aB,ar,aH,q⟩:=h
 refine⟨_,(aM (cW (kp (iu (cj vf az (av (ai 0) aA)))) (aS oj) cV)
  (aM (bS 1 tJ.bp (cP cU (ai 0) (lh k5 aD)))
  (aM (bS 2 tJ.bp aD)
  (aM (pD jC.never rfl (VH rfl nb.ai8 (iw iG (ai 0) iP (h8 (lh k5 aD)))) (eF (i:=3) tJ.bp rfl (by exact Or.inl I))
   (aM (bS 4 tJ.bp (ai 1))
   (aM (bS 1 tJ.bp (aO dr (aO U2 (ai 3) (ai 1)) (ai 2)))
   (aS (bS 2 tJ.bp (ai 4))))))
  (aS (bG (jM (av (ai 1) (av (ai 2) aA))))))))),?_⟩
 try dsimp only[cQ,cR,cS,cT]
 have hs:=aH.ne
 have bo:0<s.length:=List.length_pos_iff.mpr hs
 refine⟨_,I,a,s,I,bf,by omega,_,rfl,?_⟩
 rw[(vW s).mpr aH]
 refine fb ⟨_,I,_,I,.inl (.inl ⟨_,_,_,_,I,I,b1 bf,Gh hs,?_⟩)⟩
 refine⟨_,I,_,I,_,I,.inl ⟨a,_,I,b1 bf,fun p bj=>?_⟩⟩
 rw[aam,<-List.map_take,nE]
 have lz:=dq (o:=c2.lst ((s.take (s.length-1)).map V.int)) bj
 refine⟨p,_,I,b1 aQ,?_⟩
 have cL:((s.take (s.length-1)).map V.int).length=s.length-1:=by rw[nE,hb];omega
 refine Vi (fun i ab ax=>ax=upd H p (.lst ((s.take (s.length-1)).map V.int))/\∃dh de,ab=[J (.ref a),J (.int (cO (s.drop (s.length-1-i))).1),J (.int (cO (s.drop (s.length-1-i))).2),dh,de]) ?_ ?_ ?_ ?_
 ·refine⟨I,aw,aw,?_⟩
  rw[Nat.sub_zero,aad hs]
  show _=[_,J (V.int (s.getLastD 0*1+0)),J (V.int 1),_,_]
  rw[Int.mul_one,Int.add_zero];rfl
 .rintro i ab ax aC ⟨rfl,_⟩;exact b1 aQ
 ·rintro i x ab ax aC ay ⟨rfl,dh,de,rfl⟩
  rw[cL]at aC
  obtain⟨y,rfl,yD,bP⟩:=aaF ay aC
  have ab1:=Z5 (s:=s.drop (s.length-1-i)) (by rw[kn];omega) fun x ay=>ar x (List.mem_of_mem_drop ay)
  refine⟨_,I,_,I,_,I,_,_,I,I,⟨eE (Vv (ar y bP)) (by decide),ab1.1⟩,_,I,.inl ⟨_,_,I,I,_,I,I,J (.int y),J (.int (cO (s.drop (s.length-1-i))).1),?_⟩⟩
  rw[yD];rfl
 ·rintro ab ax ⟨rfl,dh,de,rfl⟩
  rw[cL,Nat.sub_self,List.drop_zero]
  refine⟨_,I,_,I,(by show 2<=bY;decide),fun r e4=>?_⟩
  exact⟨_,.new (lz.free e4) (lz.trans (dq e4)) aQ trivial,q r (lz.free e4)⟩
noncomputable instance (n:Int):Decidable (iM n):=inferInstanceAs (Decidable (_/\_))
def lP(s:List Int):Prop:=(∀x∈s.take 1,iM x)/\∀x∈s.drop 1,h2 (x-1)
noncomputable instance (s:List Int):Decidable (lP s):=inferInstanceAs (Decidable (_/\_))
inductive QR(vs:List V)(H:au)(Q:bB)(E:bR):Prop where
 |mk (n:Int) (bu:vs=[.int n]) (aj:Q (.aN (decide (iM n))) H):QR  vs H Q E
def QP:b3:=fun vs H Q E=>QR  vs H Q E
theorem WI(F:dx K mg "has_whole_row" Aj ["n"] f fd)(m6:bD P w K mg base 1 "is_count" ["n"] zP):bD P w K mg base 2 "has_whole_row" ["n"] QP:=by
 refine F.fp LR (fun bh A _ s H vs Q E az h=>?_)
 obtain⟨n,rfl,q⟩:=h
 refine⟨_,(aS (bG (cj m6 az (av (om (cd zz (ai 0) aD) (ai 0) (aO gp (lh k5 aD) (ai 0))) aA)))),?_⟩
 try dsimp only[cQ,cR,cS,cT]
 refine⟨_,I,_,_,I,I,_,I,?_⟩
 refine e5 (fun c=>?_) (fun c=>?_)
 ·refine⟨_,I,_,I,H,.refl (eb _),?_⟩
  have e:decide (h2 n)=decide (iM n):=decide_eq_decide.mpr (by unfold h2 iM;omega)
  rw[e];exact q
 ·refine⟨_,I,_,I,_,_,I,I,_,I,H,.refl (eb _),?_⟩
  have e:decide (h2 (-1-n))=decide (iM n):=decide_eq_decide.mpr (by unfold h2 iM;omega)
  rw[e];exact q
inductive Qw(vs:List V)(H:au)(Q:bB)(E:bR):Prop where
 |mk (p q:Int) (bu:vs=[.int p,.int q]) (aj:0<=q) (aq:Q (.int (c9 p q)) H):Qw  vs H Q E
def Qv:b3:=fun vs H Q E=>Qw  vs H Q E
theorem Wu(F:dx K mg "common_divisor" EG ["one","other"] f fd):bD P w K mg base 1 "common_divisor" ["one","other"] Qv:=by
 refine F.fp A1 (fun bh A _ s H vs Q E az h=>?_)
 obtain⟨p,q,rfl,aW,fY⟩:=h
 refine⟨_,(aM (rG jC.never (cd sz (ai 1) aD)
   (aM (bS 2 A1.bp (aO dG (ai 0) (ai 1)))
   (aM (bS 0 A1.bp (ai 1))
   (aS (bS 1 A1.bp (ai 2))))))
  (aS (bG (ai 0)))),?_⟩
 try dsimp only[cQ,cR,cS,cT]
 refine⟨fun m ab ax=>∃(x y:Int)(z:Option V),c9 x y=c9 p q/\0<=y/\m=y.toNat/\ab=[J (.int x),J (.int y),z]/\ax=H,⟨q.toNat,p,q,aw,I,aW,I,I,I⟩,?_⟩
 rintro m ab ax ⟨x,y,z,hd,bP,rfl,rfl,rfl⟩
 refine⟨_,I,I,_,I,?_⟩
 rw[yi]
 by_cases uE:y=0
 ·subst uE
  rw[wa]at hd
  subst hd
  exact fb ⟨_,I,ax,.refl (eb _),fY⟩
 ·have nC:0<y:=by omega
  rw[wg nC]at hd
  have hf:(y == 0)=ag:=by simpa using uE
  rw[hf]
  have cK:=hJ x nC
  have kX:=hu x uE
  refine gQ ⟨fun bU H'=>∃b8,b8<y.toNat/\∃(x y:Int)(z:Option V),c9 x y=c9 p q/\0<=y/\b8=y.toNat/\bU=[J (.int x),J (.int y),z]/\H'=ax,fun _ _ h=>h,?_⟩
  refine⟨_,I,_,I,_,_,I,I,nC,_,I,_,I,?_⟩
  exact⟨(x%y).toNat,by omega,y,x%y,_,hd,kX,rfl,rfl,rfl⟩
inductive QU(vs:List V)(H:au)(Q:bB)(E:bR):Prop where
 |mk (t:ae) (p q:Int) (bu:vs=[.ref t]) (aj:H t=J (.tup [.int p,.int q])) (aq:Q (.aN (decide (0<q/\c9 p q=1))) H):QU  vs H Q E
def QT:b3:=fun vs H Q E=>QU  vs H Q E
theorem Xl(F:dx K mg "is_fraction" Fb ["fraction"] f fd)(D9:bD P w K mg base 1 "common_divisor" ["one","other"] Qv):bD P w K mg base 2 "is_fraction" ["fraction"] QT:=by
 refine F.fp W7 (fun bh A _ s H vs Q E az h=>?_)
 obtain⟨t,p,q,rfl,aT,fY⟩:=h
 refine⟨_,(aS (bG (jl (gi kV (cP cU (ai 0) aD) aD) (kq (gi da (cj D9 az (av (cP cU (ai 0) aD) (av (cP cU (ai 0) aD) aA))) aD))))),?_⟩
 try dsimp only[cQ,cR,cS,cT]
 have a0:eG [V.int p,V.int q] 0=J (.int p):=dA (j:=0) rfl
 have a1:eG [V.int p,V.int q] 1=J (.int q):=dA (j:=1) rfl
 refine⟨_,I,.inl (.inr ⟨_,_,_,_,I,I,dk aT,a1,_,_,I,I,_,I,?_⟩)⟩
 refine e5 (fun c=>?_) (fun c=>?_)
 ·refine⟨_,I,.inl (.inr ⟨_,_,_,_,I,I,dk aT,a0,_,I,.inl (.inr ⟨_,_,_,_,I,I,dk aT,a1,p,q,I,Int.le_of_lt c,I,H,.refl (eb _),?_⟩)⟩)⟩
  have e:decide (V.int (c9 p q)=V.int 1)=decide (0<q/\c9 p q=1):=decide_eq_decide.mpr ⟨fun z=>⟨c,V.int.inj z⟩,fun z=>congrArg V.int z.2⟩
  rw[e];exact fY
 ·refine⟨H,.refl (eb _),?_⟩
  rw[gu (fun z=>c z.1)]at fY
  exact fY
inductive QO(vs:List V)(H:au)(Q:bB)(E:bR):Prop where
 |mk (t:ae) (p q:Int) (bu:vs=[.ref t]) (aj:H t=J (.tup [.int p,.int q])) (aq:(0<q->(eu p q).length<=100000/\∀x∈eu p q,x.natAbs<2^1000)) (bl:Q (.aN (decide (0<q/\c9 p q=1/\lP (eu p q)))) H):QO  vs H Q E
def JE:b3:=fun vs H Q E=>QO  vs H Q E
theorem Wk(nb:dW mg)(F:dx K mg "has_fraction_row" Eu ["fraction"] f fd)(Eb:bD P w K mg base 2 "is_fraction" ["fraction"] QT)(rp:bD P w K mg base 1 "steps_of" ["fraction"] DC)(tc:bD P w K mg base 2 "has_whole_row" ["n"] QP)(m6:bD P w K mg base 1 "is_count" ["n"] zP):bD P w K mg base 3 "has_fraction_row" ["fraction"] JE:=by
 refine F.fp LO (fun bh A _ s H vs Q E az h=>?_)
 obtain⟨t,p,q,rfl,aT,ar,fY⟩:=h
 refine⟨_,(aM (cW (kp (iu (cj Eb az (av (ai 0) aA)))) (aS (bG hy)) cV)
  (aM (bS 1 LO.bp (cj rp az (av (ai 0) aA)))
  (aS (bG (jl (cj tc az (av (cP cU (ai 1) aD) aA)) (kq (cy (v7 rfl) rfl nb.wi wh (av (jj ["step"] [] rfl (by decide+kernel) trivial (kb (iw iG (ai 1) (h8 aD) iP)) (fun _ _ _ _ _=>(eF (i:=0) (show(["step"]:List af).Nodup by decide+kernel))) (fun _ _ _ _ _=>iN) (fun _ _ _ _ _=>(cj m6 az (av (aO gp (ai 0) aD) aA)))) aA)))))))),?_⟩
 try dsimp only[cQ,cR,cS,cT]
 refine⟨_,I,t,p,q,I,aT,_,I,?_⟩
 by_cases aG:0<q/\c9 p q=1
 ·rw[d6 aG]
  obtain⟨aB,bC⟩:=ar aG.1
  refine fb ⟨_,I,t,p,q,I,aT,Int.le_of_lt aG.1,aB,bC,fun r e4=>?_⟩
  have lz:=dq (o:=c2.lst ((eu p q).map V.int)) e4
  obtain⟨a,aZ,he⟩:∃a aZ,eu p q=a::aZ:=⟨_,_,lS aG.1⟩
  rw[he]at fY lz aB ⊢
  have a0:eG ((a::aZ).map V.int) 0=J (.int a):=dA (j:=0) rfl
  refine⟨_,I,.inl (.inl ⟨_,_,_,_,I,I,b1 aQ,a0,a,I,_,I,?_⟩)⟩
  refine e5 (fun c=>?_) (fun c=>?_)
  ·refine .inl ⟨_,I,_,I,.inl ⟨r,_,I,b1 aQ,fun g aH=>⟨_,I,⟨_,b1 aQ⟩,fun D dH=>?_⟩⟩⟩
   rw[MV,<-List.map_drop]at dH ⊢
   have sO:=lz.trans (dq (o:=c2.lst (((a::aZ).drop 1).map V.int)) aH)
   refine BA (xs:=((a::aZ).drop 1).map V.int) (fun x=>match x with|.int i =>.aN (decide (h2 (i-1)))|_=>x) (fun ab=>ab.length=1) (by rw[nE,kn];exact fg (by omega)) rfl dH (b1 aQ) ?_ ?_
   ·rintro x ay cz H1 b2 gw R cJ
    obtain⟨i,_,rfl⟩:=List.mem_map.mp ay
    obtain⟨z,rfl⟩:=BC b2
    exact⟨_,I,_,_,I,I,_,I,cJ _ I⟩
   ·rw[iL]
    have Ju:=sO.trans (dq (o:=c2.lst (((a::aZ).drop 1).map fun i=>V.aN (decide (h2 (i-1))))) dH)
    refine⟨D,((a::aZ).drop 1).map fun i=>decide (h2 (i-1)),I,b1 (by rw[aQ,iL];rfl),H,.refl Ju,?_⟩
    have e:(((a::aZ).drop 1).map fun i=>decide (h2 (i-1))).all id=decide (0<q/\c9 p q=1/\lP (a::aZ)):=by
     rw[List.all_map]
     apply Bool.eq_iff_iff.mpr
     rw[jf,jJ]
     constructor
     ·intro h
      refine⟨aG.1,aG.2,fun x ay=>?_,fun x ay=>lQ (h x ay)⟩
      rw[fU.mp ay];exact c
     ·intro h x ay
      exact d6 (h.2.2.2 x ay)
    rw[e];exact fY
  ·refine⟨H,.refl lz,?_⟩
   rw[gu (fun z=>c (z.2.2.1 a (fU.mpr rfl)))]at fY
   exact fY
 ·rw[gu aG]
  refine gQ ⟨H,.refl (eb _),?_⟩
  rw[gu (fun z=>aG ⟨z.1,z.2.1⟩)]at fY
  exact fY
inductive Rn(vs:List V)(H:au)(Q:bB)(E:bR):Prop where
 |mk (a:ae) (s:List Int) (bu:vs=[.ref a]) (aj:H a=J (.lst (s.map .int))) (aq:s≠[]) (bl:s.length<=10000) (bW:lP s) (d0:Q (.str (aV (l0 s))) H):Rn  vs H Q E
def JM:b3:=fun vs H Q E=>Rn  vs H Q E
theorem ZL{x:Int}{b:Bool}(h:if k=0 then iM x else h2 (x-1)):(hW k x b).length<=271:=by
 unfold hW
 rw[cC,cD,hL]
 by_cases hk:k=0
 ·rw[if_pos hk]at h ⊢
  have:=Mo h.1 h.2
  omega
 ·rw[if_neg hk]at h ⊢
  have:=BI (n:=(x-1).toNat) (by unfold h2 at h;omega)
  omega
theorem lP.at{x:Int}(h:lP s)(ay:s[i]?=J x):if i=0 then iM x else h2 (x-1):=by
 match s,i,ay with
 |a::r,0,ay=>cases ay;exact h.1 x (fU.mpr I)
 |a::r,i+1,ay=>exact h.2 x (kl ay)
theorem UJ{l:List (List Bool)}(h:∀p∈l,p.length<=271):((l.map aV).map (·.length)).sum<=271*l.length:=by
 induction l with
 |nil=>exact UF _
 |cons p r cM =>
  rw[je,je,List.sum_cons,dZ,cF]
  have:=h p (hM ..)
  have:=cM fun q aW=>h q (fD _ aW)
  omega
theorem Bv(x:List Bool)(b:Bool):aV x++aV [b]=aV (x++[b]):=by rw[hN]
theorem WZ(nb:dW mg)(F:dx K mg "row_of_steps" E6 ["steps"] f fd)(rq:bD P w K mg base 3 "whole_row" ["n"] Bo)(tb:bD P w K mg base 2 "count_row" ["n"] JA)(n4:bD P w K mg base 1 "turned_row" ["row"] x3):bD P w K mg base 4 "row_of_steps" ["steps"] JM:=by
 refine F.fp tI (fun bh A _ s H vs Q E az h=>?_)
 obtain⟨a,s,rfl,bf,oL,aB,cJ,q⟩:=h
 refine⟨_,(aM (bS 1 tI.bp (aO gp (cy d7 I nb.d1 d2 (av (ai 0) aA)) aD))
  (aM (bS 2 tI.bp (gC aA))
  (aM (pD jC.never rfl (UU rfl nb.abO (ai 0)) (pE rfl (ji (eF (i:=3) tI.bp rfl (by exact Or.inl I)) (ji (eF (i:=4) tI.bp rfl (by exact Or.inl I)) pk)))
   (aM (bS 5 tI.bp (om (cd da (ai 3) aD) (cj rq az (av (ai 4) aA)) (cj tb az (av (aO gp (ai 4) aD) aA))))
   (aM (bS 5 tI.bp (aO dr (ai 5) (om (cd da (ai 3) (ai 1)) cw cw)))
   (aS (iO (jG PySem.F.plainAttrs_list PySem.F.slot_list_append PySem.F.type_list_append tu (ai 2) (av (om (cd da (aO dG (ai 3) aD) aD) (cj n4 az (av (ai 5) aA)) (ai 5)) aA)))))))
  (aS (bG (jG PySem.F.plainAttrs_str PySem.F.slot_str_join PySem.F.type_str_join tN cw (av (ai 2) aA))))))),?_⟩
 try dsimp only[cQ,cR,cS,cT]
 refine⟨_,I,_,_,I,.inl ⟨_,b1 bf,I⟩,_,_,I,I,UF _,fun r e4=>?_⟩
 have sB:=dq (o:=c2.lst []) e4
 refine⟨_,I,a,_,I,b1 (sB _ _ bf),?_⟩
 refine Uh (xs:=s.map V.int) (fun i ab ax=>eD H ax/\ax r=J (.lst (((gR 0 s).take i).map (fun p=>V.str (aV p))))/\∃dh de g8,ab=[J (.ref a),J (.int ((s.length:Nat)-1:Int)),J (.ref r),dh,de,g8]) ?_ ?_ ?_ ?_
 .exact⟨sB,aQ,aw,aw,aw,by dsimp only;rw[nE];rfl⟩
 .rintro i ab ax aC ⟨hs,_⟩;exact b1 (hs _ _ bf)
 ·rintro i akW ab ax T ay cf ⟨hs,i0,dh,de,g8,rfl⟩
  obtain⟨x,IZ,rfl⟩:∃x,s[i]?=J x/\akW=.int x:=by
   rw[gf]at ay
   cases h:s[i]? with
   |none=>rw[h]at ay;cases ay
   |some y=>rw[h]at ay;exact⟨y,I,(gX ay).symm⟩
  have aC:i<s.length:=(km.mp IZ).1
  have ie:=cJ.at IZ
  have y7:=NC (k:=0) IZ
  rw[Nat.zero_add]at y7
  have hS:=hs.trans (dq (o:=c2.tup [V.int ((i:Nat):Int),V.int x]) cf)
  have nt:=dq (o:=c2.tup [V.int ((i:Nat):Int),V.int x]) cf _ _ i0
  refine⟨T,_,I,dk aQ,I,_,_,I,_,_,I,I,?_⟩
  refine⟨_,I,I,_,I,?_⟩
  by_cases yY:i=0
  ·rw[if_pos yY]at ie
   have eP:decide (V.int ((i:Nat):Int)=V.int 0)=ah:=d6 (congrArg V.int (by omega))
   rw[eP]
   refine gQ ⟨_,I,x,I,ie,_,I,_,I,_,I,I,_,I,?_⟩
   obtain⟨lB,rW⟩:∃lB,lB=iW x:=⟨_,rfl⟩
   have ex:(if i=0 then iW x else cnt (x-1).toNat)=lB:=by rw[if_pos yY,rW]
   have afK:lB.length<=270:=by rw[rW];exact Mo ie.1 ie.2
   rw[<-rW]
   have mQ:(lB++[!decide (i+1=s.length)]).length<=271:=by rw[cD,hL];omega
   refine e5 (fun gv=>?_) (fun gv=>?_)
   ·
    have gZ:i+1=s.length:=by have:=V.int.inj gv;omega
    have hf:[!decide (i+1=s.length)]=[ag]:=by rw[d6 gZ];rfl
    refine .inr ⟨_,_,I,I,(by rw[s0,cF,cF];exact fg (by rw[hL];omega)),?_⟩
    rw[s0,Bv,<-hf]
    refine⟨_,I,.inl ⟨I,_,b1 nt⟩,_,I,_,_,I,I,(by show(0:Int)<2;decide),I,_,I,?_⟩
    have oH:∀z:List V,z=((gR 0 s).take i).map (fun p=>V.str (aV p))->z.length<bY:=fun z bC=>by rw[bC,cC,hb];exact fB (show min i (gR 0 s).length<100001 by omega) (xk (by decide))
    have cZ:∀p:List Bool,p=hW i x (decide (i+1=s.length))->((gR 0 s).take i).map (fun p=>V.str (aV p))++[V.str (aV p)]=((gR 0 s).take (i+1)).map (fun p=>V.str (aV p)):=fun p bj=>by rw[oi,y7,fk,bj];rfl
    refine e5 (fun fX=>?_) (fun fX=>?_)
    ·have aK:odd i=ah:=d6 (by have:=V.int.inj fX;omega)
     refine⟨_,I,_,I,by omega,?_⟩
     refine⟨_,_,_,I,I,nt,oH _ I,?_⟩
     rw[cZ _ (by unfold hW;rw[aK,ex];exact qt fun b _=>by cases b<;>rfl)]
     exact⟨ry hS e4,aQ,_,_,_,I⟩
    ·have aK:odd i=ag:=gu (fun z=>fX (congrArg V.int (by omega)))
     refine⟨_,I,?_⟩
     refine⟨_,_,_,I,I,nt,oH _ I,?_⟩
     rw[cZ _ (by unfold hW;rw[aK,ex,yc])]
     exact⟨ry hS e4,aQ,_,_,_,I⟩
   ·have gZ:¬i+1=s.length:=fun z=>gv (congrArg V.int (by omega))
    have hf:[!decide (i+1=s.length)]=[ah]:=by rw[gu gZ];rfl
    refine .inr ⟨_,_,I,I,(by rw[s1,cF,cF];exact fg (by rw[hL];omega)),?_⟩
    rw[s1,Bv,<-hf]
    refine⟨_,I,.inl ⟨I,_,b1 nt⟩,_,I,_,_,I,I,(by show(0:Int)<2;decide),I,_,I,?_⟩
    have oH:∀z:List V,z=((gR 0 s).take i).map (fun p=>V.str (aV p))->z.length<bY:=fun z bC=>by rw[bC,cC,hb];exact fB (show min i (gR 0 s).length<100001 by omega) (xk (by decide))
    have cZ:∀p:List Bool,p=hW i x (decide (i+1=s.length))->((gR 0 s).take i).map (fun p=>V.str (aV p))++[V.str (aV p)]=((gR 0 s).take (i+1)).map (fun p=>V.str (aV p)):=fun p bj=>by rw[oi,y7,fk,bj];rfl
    refine e5 (fun fX=>?_) (fun fX=>?_)
    ·have aK:odd i=ah:=d6 (by have:=V.int.inj fX;omega)
     refine⟨_,I,_,I,by omega,?_⟩
     refine⟨_,_,_,I,I,nt,oH _ I,?_⟩
     rw[cZ _ (by unfold hW;rw[aK,ex];exact qt fun b _=>by cases b<;>rfl)]
     exact⟨ry hS e4,aQ,_,_,_,I⟩
    ·have aK:odd i=ag:=gu (fun z=>fX (congrArg V.int (by omega)))
     refine⟨_,I,?_⟩
     refine⟨_,_,_,I,I,nt,oH _ I,?_⟩
     rw[cZ _ (by unfold hW;rw[aK,ex,yc])]
     exact⟨ry hS e4,aQ,_,_,_,I⟩
  ·rw[if_neg yY]at ie
   have eP:decide (V.int ((i:Nat):Int)=V.int 0)=ag:=gu (fun z=>yY (by have:=V.int.inj z;omega))
   rw[eP]
   have alY:=ie.1
   have Ih:=ie.2
   refine fb ⟨_,I,_,_,I,I,(x-1).toNat,(congrArg (fun y=>[V.int y]) (by omega)),(by omega),_,I,_,I,_,I,I,_,I,?_⟩
   obtain⟨lB,rW⟩:∃lB,lB=cnt (x-1).toNat:=⟨_,rfl⟩
   have ex:(if i=0 then iW x else cnt (x-1).toNat)=lB:=by rw[if_neg yY,rW]
   have afK:lB.length<=270:=by rw[rW];have:=BI (n:=(x-1).toNat) (by omega);omega
   rw[<-rW]
   have mQ:(lB++[!decide (i+1=s.length)]).length<=271:=by rw[cD,hL];omega
   refine e5 (fun gv=>?_) (fun gv=>?_)
   ·
    have gZ:i+1=s.length:=by have:=V.int.inj gv;omega
    have hf:[!decide (i+1=s.length)]=[ag]:=by rw[d6 gZ];rfl
    refine .inr ⟨_,_,I,I,(by rw[s0,cF,cF];exact fg (by rw[hL];omega)),?_⟩
    rw[s0,Bv,<-hf]
    refine⟨_,I,.inl ⟨I,_,b1 nt⟩,_,I,_,_,I,I,(by show(0:Int)<2;decide),I,_,I,?_⟩
    have oH:∀z:List V,z=((gR 0 s).take i).map (fun p=>V.str (aV p))->z.length<bY:=fun z bC=>by rw[bC,cC,hb];exact fB (show min i (gR 0 s).length<100001 by omega) (xk (by decide))
    have cZ:∀p:List Bool,p=hW i x (decide (i+1=s.length))->((gR 0 s).take i).map (fun p=>V.str (aV p))++[V.str (aV p)]=((gR 0 s).take (i+1)).map (fun p=>V.str (aV p)):=fun p bj=>by rw[oi,y7,fk,bj];rfl
    refine e5 (fun fX=>?_) (fun fX=>?_)
    ·have aK:odd i=ah:=d6 (by have:=V.int.inj fX;omega)
     refine⟨_,I,_,I,by omega,?_⟩
     refine⟨_,_,_,I,I,nt,oH _ I,?_⟩
     rw[cZ _ (by unfold hW;rw[aK,ex];exact qt fun b _=>by cases b<;>rfl)]
     exact⟨ry hS e4,aQ,_,_,_,I⟩
    ·have aK:odd i=ag:=gu (fun z=>fX (congrArg V.int (by omega)))
     refine⟨_,I,?_⟩
     refine⟨_,_,_,I,I,nt,oH _ I,?_⟩
     rw[cZ _ (by unfold hW;rw[aK,ex,yc])]
     exact⟨ry hS e4,aQ,_,_,_,I⟩
   ·have gZ:¬i+1=s.length:=fun z=>gv (congrArg V.int (by omega))
    have hf:[!decide (i+1=s.length)]=[ah]:=by rw[gu gZ];rfl
    refine .inr ⟨_,_,I,I,(by rw[s1,cF,cF];exact fg (by rw[hL];omega)),?_⟩
    rw[s1,Bv,<-hf]
    refine⟨_,I,.inl ⟨I,_,b1 nt⟩,_,I,_,_,I,I,(by show(0:Int)<2;decide),I,_,I,?_⟩
    have oH:∀z:List V,z=((gR 0 s).take i).map (fun p=>V.str (aV p))->z.length<bY:=fun z bC=>by rw[bC,cC,hb];exact fB (show min i (gR 0 s).length<100001 by omega) (xk (by decide))
    have cZ:∀p:List Bool,p=hW i x (decide (i+1=s.length))->((gR 0 s).take i).map (fun p=>V.str (aV p))++[V.str (aV p)]=((gR 0 s).take (i+1)).map (fun p=>V.str (aV p)):=fun p bj=>by rw[oi,y7,fk,bj];rfl
    refine e5 (fun fX=>?_) (fun fX=>?_)
    ·have aK:odd i=ah:=d6 (by have:=V.int.inj fX;omega)
     refine⟨_,I,_,I,by omega,?_⟩
     refine⟨_,_,_,I,I,nt,oH _ I,?_⟩
     rw[cZ _ (by unfold hW;rw[aK,ex];exact qt fun b _=>by cases b<;>rfl)]
     exact⟨ry hS e4,aQ,_,_,_,I⟩
    ·have aK:odd i=ag:=gu (fun z=>fX (congrArg V.int (by omega)))
     refine⟨_,I,?_⟩
     refine⟨_,_,_,I,I,nt,oH _ I,?_⟩
     rw[cZ _ (by unfold hW;rw[aK,ex,yc])]
     exact⟨ry hS e4,aQ,_,_,_,I⟩
 ·rintro ab ax ⟨hs,i0,dh,de,g8,rfl⟩
  have ll:(gR 0 s).take (s.map V.int).length=gR 0 s:=by rw[nE,<-FY 0 s,List.take_length]
  rw[ll]at i0
  obtain⟨a0,Du,rfl⟩:=List.exists_cons_of_ne_nil oL
  have cL:∀p∈gR 0 (a0::Du),p.length<=271:=fun p bj=>by
   obtain⟨i,aC,rfl⟩:=List.mem_iff_getElem.mp bj
   have uu:i<(a0::Du).length:=by rw[<-FY 0 (a0::Du)];exact aC
   have aH:=NC (k:=0) (dR uu)
   rw[dR aC,Nat.zero_add]at aH
   rw[gX aH]
   exact ZL (cJ.at (dR uu))
  refine⟨I,_,I,_,r,(gR 0 (a0::Du)).map aV,I,I,b1 (by rw[i0,iL];rfl),?_,H,.refl hs,?_⟩
  ·have:=UJ cL
   have eP:(af.ofString "").length=0:=by decide+kernel
   rw[eP,Nat.mul_zero,Nat.add_zero]
   rw[FY]at this
   omega
  .rw[tv,U0];exact q
inductive Qz(vs:List V)(H:au)(Q:bB)(E:bR):Prop where
 |mk (n:Nat) (bu:vs=[.int n]) (aj:n<2^100000) (aq:Q (.str (aV (j5 n))) H):Qz  vs H Q E
def JB:b3:=fun vs H Q E=>Qz  vs H Q E
theorem XF(F:dx K mg "_law_digits" Fn ["_law_number"] f fd):bD P w K mg base 1 "_law_digits" ["_law_number"] JB:=by
 refine F.fp AD (fun bh A _ s H vs Q E az h=>?_)
 obtain⟨n,rfl,bo,q⟩:=h
 refine⟨_,(aM (bS 1 AD.bp cw)
  (aM (rG jC.never (cd kV (ai 0) aD)
   (aM (bS 1 AD.bp (aO dr (cP cU (gC (av cw (av cw aA))) (aO dG (ai 0) aD)) (ai 1)))
   (aS (bS 0 AD.bp (aO hx (ai 0) aD)))))
  (aS (bG (ai 1))))),?_⟩
 try dsimp only[cQ,cR,cS,cT]
 have oI:ba n<=100000:=hn bo
 refine⟨fun m ab ax=>∃l:List Bool,ab=[J (.int (m:Nat)),J (.str (aV l))]/\j5 m++l=j5 n/\eD H ax,⟨n,[],by rw[<-Qj];rfl,List.append_nil _,eb _⟩,?_⟩
 rintro m ab ax ⟨l,rfl,hd,hs⟩
 have cL:=congrArg List.length hd
 rw[cD,Bn,Bn]at cL
 refine⟨_,I,_,_,I,I,_,I,?_⟩
 refine e5 (fun c=>?_) (fun c=>?_)
 ·have hm:m≠0:=by omega
  have jT:=aag hm
  have ar:=rI hm
  refine⟨fun bU H'=>∃b8,b8<m/\∃l:List Bool,bU=[J (.int (b8:Nat)),J (.str (aV l))]/\j5 b8++l=j5 n/\eD H H',fun _ _ h=>h,?_⟩
  refine⟨(by show 2<=bY;decide),fun r w0=>⟨_,I,_,_,I,I,(by show(0:Int)<2;decide),.inl (.inl ⟨_,_,_,_,I,I,b1 aQ,VC m,?_⟩)⟩⟩
  refine⟨_,I,.inr ⟨_,_,I,I,(by rw[cF,cF];exact fg (by simp only[dZ,List.length_nil];omega)),?_⟩⟩
  refine⟨_,I,_,_,I,I,⟨by decide,by decide⟩,m/2,by omega,[decide (m%2=1)]++l,?_,?_,hs.trans (dq w0)⟩
  .rw[hN];rfl
  .rw[<-e2,<-jT];exact hd
 ·have hm:m=0:=by omega
  subst hm
  have:l=j5 n:=by rw[<-hd,aaf];rfl
  subst this
  exact⟨_,I,H,.refl hs,q⟩
structure nZ where
 (n s w l f t a b DP k:ae)
structure KI(mg:af->Option ao)(c:nZ):Prop where
 alQ:ej mg "NoFit" (.ref c.n)
 alR:ej mg "Short" (.ref c.s)
 alS:ej mg "Wrong" (.ref c.w)
 gl:ej mg "Left" (.ref c.l)
 acy:ej mg "NoForm" (.ref c.f)
 gt:ej mg "NoText" (.ref c.t)
 ga:ej mg "NotAhead" (.ref c.a)
 alN:ej mg "BadPage" (.ref c.b)
 g2:ej mg "Twice" (.ref c.DP)
 alP:ej mg "Lacking" (.ref c.k)
structure na(K:bN)(c:nZ)(C:ae)(bs:List Bool):Prop where
 e6:ExcC K C
 amw:∃gD f3 pG tV tW tX tY wk wm wj:Bool,bs=[gD,f3,pG,tV,tW,tX,tY,wk,wm,wj,ah]/\dn K (.ref C) (.ref c.n)=J gD/\dn K (.ref C) (.ref c.s)=J f3/\dn K (.ref C) (.ref c.w)=J pG/\dn K (.ref C) (.ref c.l)=J tV/\
  dn K (.ref C) (.ref c.f)=J tW/\dn K (.ref C) (.ref c.t)=J tX/\dn K (.ref C) (.ref c.a)=J tY/\dn K (.ref C) (.ref c.b)=J wk/\dn K (.ref C) (.ref c.DP)=J wm/\dn K (.ref C) (.ref c.k)=J wj/\dn K (.ref C) (.type "ValueError")=J ah
inductive QZ(K:bN)(c:nZ)(vs:List V)(H:au)(Q:bB)(E:bR):Prop where
 |mk (v:V) (bu:vs=[v]) (aj:((v=.bK/\∀p,H p=aw->Q (.ref p) (upd H p (.lst ([]:List V))))\/ (∃a C d bs,v=.ref a/\H a=J (iK a C d)/\(d=aw\/∃al fs,d=J al/\H al=J (.i9 fs))/\na K c C bs/\∀p,H p=aw->Q (.ref p) (upd H p (.lst (bs.map .aN)))))):QZ K c vs H Q E
def QY(K:bN)(c:nZ):b3:=fun vs H Q E=>QZ K c vs H Q E
theorem XE{c:nZ}(nb:dW mg)(Jb:mg "ValueError"=aw)(X:KI mg c)(F:dx K mg "_law_kinds" Fy ["_law_kept"] f fd):bD P w K mg base 1 "_law_kinds" ["_law_kept"] (QY K c):=by
 obtain⟨HS,wH,wI,qJ,HT,HU,HV,HQ,HW,HR⟩:=X
 refine F.fp Ba (fun bh A _ s H vs Q E az h=>?_)
 obtain⟨v,rfl,bg⟩:=h
 refine⟨_,(aM (cW (cd yr (ai 0) lN) (aS (bG (gC aA))) cV)
  (aM (bS 1 Ba.bp (gC (av (cy k9 rfl nb.hC hz (av (ai 0) (av (hv HS) aA))) (av (cy k9 rfl nb.hC hz (av (ai 0) (av (hv wH) aA))) (av (cy k9 rfl nb.hC hz (av (ai 0) (av (hv wI) aA))) (av (cy k9 rfl nb.hC hz (av (ai 0) (av (hv qJ) aA))) aA))))))
  (aM (bS 1 Ba.bp (aO B6 (ai 1) (gC (av (cy k9 rfl nb.hC hz (av (ai 0) (av (hv HT) aA))) (av (cy k9 rfl nb.hC hz (av (ai 0) (av (hv HU) aA))) (av (cy k9 rfl nb.hC hz (av (ai 0) (av (hv HV) aA))) aA))))))
  (aM (bS 1 Ba.bp (aO B6 (ai 1) (gC (av (cy k9 rfl nb.hC hz (av (ai 0) (av (hv HQ) aA))) (av (cy k9 rfl nb.hC hz (av (ai 0) (av (hv HW) aA))) (av (cy k9 rfl nb.hC hz (av (ai 0) (av (hv HR) aA))) aA))))))
  (aS (bG (aO B6 (ai 1) (gC (av (cy k9 rfl nb.hC hz (av (ai 0) (av (m9 (v :=.ty "ValueError") rfl Jb XO rfl) aA))) aA))))))))),?_⟩
 try dsimp only[cQ,cR,cS,cT]
 rcases bg with⟨rfl,q⟩|⟨a,C,d,bs,rfl,bf,hd,⟨e6,gD,f3,pG,tV,tW,tX,tY,wk,wm,wj,rfl,fO,fh,iT,w5,mP,aeL,aeM,aeN,aeO,aeK,gm⟩,q⟩
 .exact⟨_,I,I,_,I,jw I ⟨UF _,fun r e4=>⟨_,.new e4 (dq e4) aQ trivial,q r e4⟩⟩⟩
 ·have i5:∀{D:ae}{b:Bool},dn K (.ref C) (.ref D)=J b->∀hp,RelV (.ref D) hp->dn K (.ref C) hp=J b:=fun{D b}h hp r=>by
   obtain rfl:hp=.ref D:=r
   exact h
  have i6:∀hp,RelV (.ty "ValueError") hp->dn K (.ref C) hp=J ah:=fun hp r=>by
   obtain rfl:hp=.type "ValueError":=r
   exact gm
  have t7:∀{H':au},eD H H'->(d=aw\/∃al fs,d=J al/\H' al=J (.i9 fs)):=fun{H'}hs=>by
   rcases hd with z|⟨al,fs,z,e⟩
   .exact .inl z
   .exact .inr ⟨al,fs,z,hs _ _ e⟩
  refine⟨_,I,I,_,I,gg (fun z=>nomatch z) ?_⟩
  refine⟨_,I,a,C,d,_,gD,I,bf,e6,hd,i5 fO,?_⟩
  refine⟨_,I,a,C,d,_,f3,I,bf,e6,hd,i5 fh,?_⟩
  refine⟨_,I,a,C,d,_,pG,I,bf,e6,hd,i5 iT,?_⟩
  refine⟨_,I,a,C,d,_,tV,I,bf,e6,hd,i5 w5,?_⟩
  refine⟨(by show 4<=bY;decide),fun cK aj=>?_⟩
  have lz:=dq (o:=c2.lst [V.aN gD,.aN f3,.aN pG,.aN tV]) aj
  have Ib:=lz _ _ bf
  refine⟨_,I,_,I,a,C,d,_,tW,I,Ib,e6,t7 lz,i5 mP,?_⟩
  refine⟨_,I,a,C,d,_,tX,I,Ib,e6,t7 lz,i5 aeL,?_⟩
  refine⟨_,I,a,C,d,_,tY,I,Ib,e6,t7 lz,i5 aeM,?_⟩
  refine⟨(by show 3<=bY;decide),fun ef aq=>?_⟩
  have sO:=dq (o:=c2.lst [V.aN tW,.aN tX,.aN tY]) aq
  refine⟨cK,ef,_,_,I,I,sO _ _ aQ,aQ,(by show 4+3<=bY;decide),fun zF bl=>?_⟩
  have Ju:=dq (o:=c2.lst ([V.aN gD,.aN f3,.aN pG,.aN tV]++[V.aN tW,.aN tX,.aN tY])) bl
  have t3:=(lz.trans sO).trans Ju
  have Ic:=t3 _ _ bf
  refine⟨_,I,_,I,a,C,d,_,wk,I,Ic,e6,t7 t3,i5 aeN,?_⟩
  refine⟨_,I,a,C,d,_,wm,I,Ic,e6,t7 t3,i5 aeO,?_⟩
  refine⟨_,I,a,C,d,_,wj,I,Ic,e6,t7 t3,i5 aeK,?_⟩
  refine⟨(by show 3<=bY;decide),fun Jo bW=>?_⟩
  have Qh:=dq (o:=c2.lst [V.aN wk,.aN wm,.aN wj]) bW
  refine⟨zF,Jo,_,_,I,I,Qh _ _ aQ,aQ,(by show 7+3<=bY;decide),fun uS d0=>?_⟩
  have ajc:=dq (o:=c2.lst (([V.aN gD,.aN f3,.aN pG,.aN tV]++[V.aN tW,.aN tX,.aN tY])++[V.aN wk,.aN wm,.aN wj])) d0
  have JR:=(t3.trans Qh).trans ajc
  have acW:=JR _ _ bf
  refine⟨_,I,_,I,a,C,d,_,ah,I,acW,e6,t7 JR,i6,?_⟩
  refine⟨(by show 1<=bY;decide),fun aiU jQ=>?_⟩
  have Qi:=dq (o:=c2.lst [V.aN ah]) jQ
  refine⟨uS,aiU,_,_,I,I,Qi _ _ aQ,aQ,(by show 10+1<=bY;decide),fun p bj=>?_⟩
  have sa:=JR.trans Qi
  exact⟨_,.new (sa.free bj) (sa.trans (dq bj)) aQ trivial,q p (sa.free bj)⟩
theorem B7:1<=bY:=by decide
inductive Q7(vs:List V)(H:au)(Q:bB)(E:bR):Prop where
 |mk (t s:af) (bu:vs=[.str t,.str s]) (aj:t.length<=1000) (aq:Q (.aN (nF t s)) H):Q7  vs H Q E
def zR:b3:=fun vs H Q E=>Q7  vs H Q E
theorem Ze(nb:dW mg)(F:dx K mg "made_of" F5 ["text","signs"] f fd):bD P w K mg base 1 "made_of" ["text","signs"] zR:=by
 refine F.fp Y6 (fun bh A _ s H vs Q E az h=>?_)
 obtain⟨t,aY,rfl,aT,q⟩:=h
 refine⟨_,(aS (bG (cy (v7 I) I nb.wi wh (av (jj ["sign"] [(1,"signs")] I (by decide+kernel) ⟨I,.inl I,trivial⟩ (kb (ai 0)) (fun _ _ _ _ _=>(eF (i:=0) (show(["sign","signs"]:List af).Nodup by decide+kernel))) (fun _ _ _ _ _=>iN) (fun _ _ _ _ _=>(NB ZQ (ai 0) (ai 1) (by with_unfolding_all rfl)))) aA)))),?_⟩
 try dsimp only[cQ,cR,cS,cT]
 refine .inr ⟨_,I,t,I,fun D dH=>?_⟩
 refine Nt (fun c =>.aN (decide (c∈aY.cps.toList))) (fun ab=>∃z,ab=[z,J (.str aY)]) (fg (by show t.length<=_;omega)) ⟨_,I⟩ dH ?_ ?_
 ·rintro c hc cz H1 ⟨z,rfl⟩ hs R cJ
  refine⟨_,I,_,I,_,_,I,I,?_⟩
  rw[StrLaws.found_one]
  exact cJ _ ⟨_,I⟩
 ·refine⟨D,t.cps.toList.map fun c=>decide (c∈aY.cps.toList),I,?_,H,.refl (dq dH),?_⟩
  .rw[iL];exact b1 aQ
  .rw[List.all_map];exact q
inductive QW(vs:List V)(H:au)(Q:bB)(E:bR):Prop where
 |mk (n:af) (bu:vs=[.str n]) (aj:n.length<=1000) (aq:Q (.aN (isName n)) H):QW  vs H Q E
def QV:b3:=fun vs H Q E=>QW  vs H Q E
theorem Zg(nb:dW mg)(HL:ej mg "LONGEST_NAME" (.int 12))(HP:ej mg "SMALL_LETTERS" (.str kj))(F:dx K mg "is_name" F7 ["name"] f fd)(n3:bD P w K mg base 1 "made_of" ["text","signs"] zR):bD P w K mg base 2 "is_name" ["name"] QV:=by
 refine F.fp Y7 (fun bh A _ s H vs Q E az h=>?_)
 obtain⟨n,rfl,bo,q⟩:=h
 refine⟨_,(aS (bG (jl (gi mR aD (cy d7 I nb.d1 d2 (av (ai 0) aA))) (jl (gi zA (cy d7 I nb.d1 d2 (av (ai 0) aA)) (hv HL)) (kq (cj n3 az (av (ai 0) (av (hv HP) aA)))))))),?_⟩
 try dsimp only[cQ,cR,cS,cT]
 have ln:n.length<=bY:=fg (by omega)
 unfold isName at q
 refine⟨_,I,_,_,I,⟨ln,I⟩,.inl ⟨_,_,I,I,_,I,?_⟩⟩
 refine e5 (fun fl=>?_) (fun fl=>?_)
 ·refine⟨_,I,_,_,I,⟨ln,I⟩,_,_,I,I,_,I,?_⟩
  refine e5 (fun gv=>?_) (fun gv=>?_)
  ·refine⟨_,I,n,kj,I,bo,H,.refl (eb _),?_⟩
   rw[d6 ⟨by omega,by omega⟩,Bool.true_and]at q
   exact q
  ·rw[gu (fun z=>gv (by omega)),Bool.false_and]at q
   exact⟨H,.refl (eb _),q⟩
 ·rw[gu (fun z=>fl (by omega)),Bool.false_and]at q
  exact⟨H,.refl (eb _),q⟩
structure Parts(H:au)(p:ae)(ps:List (ae×af×ae)):Prop where
 l:H p=J (.lst (ps.map fun x=>V.ref x.1))
 t:∀x,x∈ps->H x.1=J (.tup [.str x.2.1,.ref x.2.2])
 n:ps.length<=30
 b:∀x,x∈ps->x.2.1.length<=100
noncomputable def g6(ps:List (ae×af×ae)):List af:=ps.map fun x=>x.2.1
noncomputable def iA(ps:List (ae×af×ae)):List ae:=ps.map fun x=>x.2.2
theorem Parts.same{ps:List (ae×af×ae)}(h:Parts H p ps)(s:eD H H'):Parts H' p ps:=⟨s _ _ h.l,fun x ay=>s _ _ (h.t x ay),h.n,h.b⟩
inductive Q9(vs:List V)(H:au)(Q:bB)(E:bR):Prop where
 |mk (p ps:_) (bu:vs=[.ref p]) (aj:Parts H p ps) (aq:jP (g6 ps)=ah) (bl:∀D,H D=aw->Q (.ref D) (upd H D (.lst ((g6 ps).map V.str)))):Q9  vs H Q E
def JJ:b3:=fun vs H Q E=>Q9  vs H Q E
theorem YF(nb:dW mg)(HN:ej mg "MOST_PARTS" (.int 20))(F:dx K mg "names_of" FQ ["parts"] f fd)(Ec:bD P w K mg base 2 "is_name" ["name"] QV):bD P w K mg base 3 "names_of" ["parts"] JJ:=by
 refine F.fp Mf (fun bh A _ s H vs Q E az h=>?_)
 obtain⟨p,ps,rfl,ck,aH,q⟩:=h
 refine⟨_,(aM (YA (i:=1)  ["part"] [] Mf.bp I I I (by decide+kernel) trivial (kb (ai 0)) (fun _ _ _ _ _=>(eF (i:=0) (show(["part"]:List af).Nodup by decide+kernel))) (fun _ _ _ _ _=>iN) (fun _ _ _ _ _=>(cP cU (ai 0) aD)))
  (aM (cW (g9.pt (jb (cd da (cy d7 rfl nb.d1 d2 (av (ai 1) aA)) aD) (k6 (cd kV (cy d7 rfl nb.d1 d2 (av (ai 1) aA)) (hv HN))))) (aS oj) cV)
  (aM (cW (cd mR (MG rfl rfl nb.d1 rfl nb.Qm (ai 1)) (cy d7 rfl nb.d1 d2 (av (ai 1) aA))) (aS oj) cV)
  (aM (cW (kp (iu (cy (v7 rfl) rfl nb.wi wh (av (jj ["name"] [] rfl (by decide+kernel) trivial (kb (ai 1)) (fun _ _ _ _ _=>(eF (i:=0) (show(["name"]:List af).Nodup by decide+kernel))) (fun _ _ _ _ _=>iN) (fun _ _ _ _ _=>(cj Ec az (av (ai 0) aA)))) aA)))) (aS oj) cV)
  (aS (bG (ai 1))))))),?_⟩
 try dsimp only[cQ,cR,cS,cT]
 refine .inl ⟨_,I,p,I,⟨_,b1 ck.l⟩,fun D dH=>?_⟩
 refine x6 (K:=K) (a:=p) (xs:=ps.map fun x=>V.ref x.1) (fun i=>V.str ((g6 ps).getD i af.empty)) (fun ab=>∃z,ab=[z]) (by rw[cC];exact fg (by have:=ck.n;omega)) ⟨_,I⟩ dH (b1 ck.l) ?_ ?_
 ·rintro i x ay cz H1 ⟨z,rfl⟩ gw R cJ
  rw[gf]at ay
  obtain⟨y,bP,rfl⟩:=Uf.mp ay
  have hm:=kl bP
  have e:(g6 ps).getD i af.empty=y.2.1:=by unfold g6;rw[fu,gf,bP];rfl
  rw[e]at cJ
  exact⟨_,I,.inl (.inr ⟨_,_,_,_,I,I,dk (gw _ _ (ck.t y hm)),dA (j:=0) I,cJ _ ⟨_,I⟩⟩)⟩
 have g0:(List.range (ps.map fun x=>V.ref x.1).length).map (fun i=>V.str ((g6 ps).getD i af.empty))=(g6 ps).map V.str:=by
  have bu:=Mj (g6 ps)
  rw[show(ps.map fun x=>V.ref x.1).length=(g6 ps).length by unfold g6;rw[cC,cC]]
  exact bu
 rw[g0]
 have al9:(g6 ps).length<=30:=by unfold g6;rw[cC];exact ck.n
 have wM:dE K (upd H D (.lst ((g6 ps).map V.str))) D ((g6 ps).map V.str):=b1 aQ
 have gH:=V1 (g6 ps)
 unfold jP at aH
 refine⟨_,I,_,_,I,.inl ⟨_,wM,I⟩,I,_,I,?_⟩
 rw[cC]
 simp only[hK,jJ]at aH
 obtain⟨⟨bu,wJ,hd⟩,ib⟩:=aH
 refine gg (fun z=>bu (by have:=V.int.inj z;omega)) ⟨_,I,_,_,I,.inl ⟨_,wM,I⟩,_,_,I,I,_,I,gg (by rw[cC];omega) ?_⟩
 refine⟨_,I,_,_,Yt wM,(by unfold scanBound;omega),_,I,_,_,I,.inl ⟨_,wM,I⟩,.inl ⟨_,_,I,I,_,I,gg (by rw[cC];show ¬(((Ck (g6 ps):Nat):Int)<_);omega) ?_⟩⟩
 refine .inl ⟨_,I,D,I,⟨_,wM⟩,fun kh mC=>?_⟩
 have qM:upd H D (.lst ((g6 ps).map V.str)) D=J (.lst ((g6 ps).map V.str)):=aQ
 refine BA (K:=K) (a:=D) (xs:=(g6 ps).map V.str) (fun x=>match x with|.str n =>.aN (isName n)|_ =>.bK) (fun ab=>∃z,ab=[z]) (by rw[cC];exact fg (by omega)) ⟨_,rfl⟩ mC wM ?_ ?_
 ·rintro x ay cz H1 ⟨z,rfl⟩ gw R cJ
  obtain⟨n,bo,rfl⟩:=List.mem_map.mp ay
  obtain⟨y,bP,rfl⟩:=List.mem_map.mp bo
  have:=ck.b y bP
  exact⟨_,I,_,I,by omega,cJ _ ⟨_,rfl⟩⟩
 ·rw[iL]
  refine⟨kh,(g6 ps).map isName,I,?_,_,I,?_⟩
  .rw[iL];exact b1 aQ
  rw[List.all_map,show(id ∘ isName)=isName from rfl,ib]
  exact fb ⟨_,I,_,.new (o:=c2.lst ((g6 ps).map V.str)) dH ((dq dH).trans (dq mC)) (by rw[bO (fun z=>by rw[<-z,qM]at mC;cases mC)];exact aQ) trivial,q D dH⟩
structure vN(K:bN)(C:ae):Prop where
 cl:fz K C
 pW:kk K C "low"
 Dg:kk K C "high"
structure tn(K:bN)(C:ae):Prop where
 cl:fz K C
 nJ:kk K C "signs"
structure og(K:bN)(C:ae):Prop where
 cl:fz K C
 sv:kk K C "names"
 q6:kk K C "forms"
theorem afI:¬(("low":af)="high"):=by decide+kernel
theorem agh:¬(("names":af)="forms"):=by decide+kernel
theorem UR(v:V):ft "low" v []=([("low",v)]:List (af×V)):=rfl
theorem TO(v w:V):ft "high" w ([("low",v)]:List (af×V))=([("low",v),("high",w)]:List (af×V)):=by simp only[ft,afI,if_false]
theorem Zb(v:V):ft "signs" v []=([("signs",v)]:List (af×V)):=rfl
theorem MD(v:V):ft "names" v []=([("names",v)]:List (af×V)):=rfl
theorem ME(v w:V):ft "forms" w ([("names",v)]:List (af×V))=([("names",v),("forms",w)]:List (af×V)):=by simp only[ft,agh,if_false]
theorem hU(k:af)(v:V)(r:List (af×V)):((k,v)::r).lookup k=J v:=by simp[List.lookup]
theorem pV(k fh:af)(v w:V)(h:(fh == k)=ag):([(k,v),(fh,w)]:List (af×V)).lookup fh=J w:=by simp[List.lookup,h]
theorem IC:(("high":af) == "low")=ag:=by decide+kernel
theorem ue:(("forms":af) == "names")=ag:=by decide+kernel
noncomputable def RH(a b:Int):List (af×V):=[("low",.int a),("high",.int b)]
noncomputable def PL(s:af):List (af×V):=[("signs",.str s)]
noncomputable def DQ(eJ e0:ae):List (af×V):=[("names",.ref eJ),("forms",.ref e0)]
inductive Rt(C:ae)(vs:List V)(H:au)(Q:bB)(E:bR):Prop where
 |mk (p al:ae) (a b:Int) (bu:vs=[.ref p,.int a,.int b]) (aj:H p=J (.ins C al [])) (aq:a<=b) (bl:Q .bK (upd H p (.ins C al (RH a b)))):Rt C vs H Q E
def JO(C:ae):b3:=fun vs H Q E=>Rt C vs H Q E
theorem X3(T:vN K C)(F:c5 K "__init__" "Span.__init__" FI f fd):cq P w K mg base dv 1 f fd ["self","low","high"] (JO C):=by
 refine F.ok XW (fun vs H Q E h=>?_) (fun bh A _ s H vs Q E az h=>?_)
 .obtain⟨_,_,_,_,rfl,_⟩:=h;rfl
 obtain⟨p,al,a,b,rfl,bj,O0,q⟩:=h
 refine⟨_,(aM (cW (cd kV (ai 1) (ai 2)) (aS oj) cV)
  (aM (jk (ai 0) (ai 1) rfl)
  (aS (jk (ai 0) (ai 2) rfl)))),?_⟩
 try dsimp only[cQ,cR,cS,cT]
 refine⟨_,I,_,I,_,_,I,I,_,I,gg (by omega) ?_⟩
 refine⟨_,I,_,I,p,C,al,_,I,bj,T.cl,T.pW,(by show 0<1000;decide),?_⟩
 rw[UR]
 refine⟨_,I,_,I,p,C,al,_,I,aQ,T.cl,T.Dg,(by show 1<1000;decide),?_⟩
 rw[TO,iv]
 exact q
inductive Q3(C:ae)(vs:List V)(H:au)(Q:bB)(E:bR):Prop where
 |mk (p al:ae) (s:af) (bu:vs=[.ref p,.str s]) (aj:H p=J (.ins C al [])) (aq:s.length<=1000) (bl:kR s=ah) (bW:Q .bK (upd H p (.ins C al (PL s)))):Q3 C vs H Q E
def JG(C:ae):b3:=fun vs H Q E=>Q3 C vs H Q E
theorem YG(nb:dW mg)(HO:ej mg "MOST_SIGNS" (.int 60))(HK:ej mg "LETTERS_AND_FIGURES" (.str qr))(T:tn K C)(F:c5 K "__init__" "Letters.__init__" E9 f fd)(n3:bD P w K mg base 1 "made_of" ["text","signs"] zR):cq P w K mg base dv 2 f fd ["self","signs"] (JG C):=by
 refine F.ok WX (fun vs H Q E h=>?_) (fun bh A _ s H vs Q E az h=>?_)
 .obtain⟨_,_,_,rfl,_⟩:=h;rfl
 obtain⟨p,al,t,rfl,bj,aT,aH,q⟩:=h
 refine⟨_,(aM (cW (g9.pt (jb (cd da (ai 1) cw) (k6 (cd kV (cy d7 I nb.d1 d2 (av (ai 1) aA)) (hv HO))))) (aS oj) cV)
  (aM (cW (cd mR (MG rfl rfl nb.d1 rfl nb.Qm (ai 1)) (cy d7 rfl nb.d1 d2 (av (ai 1) aA))) (aS oj) cV)
  (aM (cW (kp (iu (cj n3 az (av (ai 1) (av (hv HK) aA))))) (aS oj) cV)
  (aS (jk (ai 0) (ai 1) rfl))))),?_⟩
 try dsimp only[cQ,cR,cS,cT]
 have ln:t.length<=bY:=fg (by omega)
 have gH:=V0 t
 unfold kR at aH
 simp only[hK,jJ]at aH
 obtain⟨⟨bu,qK,hd⟩,ib⟩:=aH
 refine⟨_,I,I,_,I,gg (fun z=>bu ((UK t).mp (V.str.inj z))) ⟨_,I,_,_,I,⟨ln,I⟩,_,_,I,I,_,I,gg (by omega) ?_⟩⟩
 refine⟨_,I,_,_,Y0 t,(by unfold scanBound;show t.length+1<_;omega),_,I,_,_,I,⟨ln,I⟩,.inl ⟨_,_,I,I,_,I,gg (by show ¬(((Cm t:Nat):Int)<_);omega) ?_⟩⟩
 refine⟨_,I,t,qr,I,by omega,_,rfl,?_⟩
 rw[ib]
 refine fb ⟨_,I,_,I,p,C,al,_,I,bj,T.cl,T.nJ,(by show 0<1000;decide),?_⟩
 rw[Zb]
 exact q
theorem Parts.keep{C al:ae}{fs:List (af×V)}{ps:List (ae×af×ae)}(h:Parts H p ps)(aK:H o=J (.ins C al fs))(s:∀b u,b≠o->H b=J u->H' b=J u):Parts H' p ps :=
 ⟨s _ _ (fun z=>by have:=h.l;rw[z,aK]at this;cases this) h.l,fun x ay=>s _ _ (fun z=>by have:=h.t x ay;rw[z,aK]at this;cases this) (h.t x ay),h.n,h.b⟩
inductive Rx(C:ae)(vs:List V)(H:au)(Q:bB)(E:bR):Prop where
 |mk (o al p:ae) (ps:List (ae×af×ae)) (bu:vs=[.ref o,.ref p]) (aj:H o=J (.ins C al [])) (aq:Parts H p ps) (bl:jP (g6 ps)=ah) (bW:∀eJ e0,H eJ=aw->H e0=aw->eJ≠e0->Q .bK (upd (upd (upd H eJ (.lst ((g6 ps).map V.str))) e0 (.lst ((iA ps).map V.ref))) o (.ins C al (DQ eJ e0)))):Rx C vs H Q E
def xm(C:ae):b3:=fun vs H Q E=>Rx C vs H Q E
theorem YE(nb:dW mg)(T:og K C)(F:c5 K "__init__" "Record.__init__" Ff f fd)(vm:bD P w K mg base 3 "names_of" ["parts"] JJ):cq P w K mg base dv 4 f fd ["self","parts"] (xm C):=by
 refine F.ok Xd (fun vs H Q E h=>?_) (fun bh A _ s H vs Q E az h=>?_)
 .obtain⟨_,_,_,_,rfl,_⟩:=h;rfl
 obtain⟨o,al,p,ps,rfl,aK,ck,aH,q⟩:=h
 refine⟨_,(aM (jk (ai 0) (cj vm az (av (ai 1) aA)) I)
  (aS (jk (ai 0) (jj ["part"] [] rfl (by decide+kernel) trivial (kb (ai 1)) (fun _ _ _ _ _=>(eF (i:=0) (show(["part"]:List af).Nodup by decide+kernel))) (fun _ _ _ _ _=>iN) (fun _ _ _ _ _=>(cP cU (ai 0) aD))) rfl))),?_⟩
 try dsimp only[cQ,cR,cS,cT]
 refine⟨_,I,p,ps,I,ck,aH,fun eJ aj=>?_⟩
 have fo:eJ≠o:=(eN aK aj).symm
 refine⟨_,I,o,C,al,_,I,(by rw[bO (ea fo)];exact aK),T.cl,T.sv,(by show 0<1000;decide),?_⟩
 rw[MD]
 have fO:∀b u,b≠o->H b=J u->upd (upd H eJ (.lst ((g6 ps).map V.str))) o (.ins C al [("names",.ref eJ)]) b=J u:=fun b u nb e=>by rw[bO nb,bO (eN e aj)];exact e
 have uj:=ck.keep aK fO
 refine .inl ⟨_,I,p,I,⟨_,b1 uj.l⟩,fun e0 aq=>?_⟩
 have en:e0≠o:=fun z=>by rw[z,aQ]at aq;cases aq
 have zr:eJ≠e0:=fun z=>by rw[bO en,<-z,aQ]at aq;cases aq
 have wJ:H e0=aw:=by rw[bO en,bO (ea zr)]at aq;exact aq
 refine x6 (K:=K) (a:=p) (xs:=ps.map fun x=>V.ref x.1) (fun i=>V.ref ((iA ps).getD i 0)) (fun ab=>∃z,ab=[z]) (by rw[cC];exact fg (by have:=ck.n;omega)) ⟨_,I⟩ aq (b1 uj.l) ?_ ?_
 ·rintro i x ay cz H1 ⟨z,rfl⟩ gw R cJ
  rw[gf]at ay
  obtain⟨y,bP,rfl⟩:=Uf.mp ay
  have hm:=kl bP
  have e:(iA ps).getD i 0=y.2.2:=by unfold iA;rw[fu,gf,bP];rfl
  rw[e]at cJ
  exact⟨_,I,.inl (.inr ⟨_,_,_,_,I,I,dk (gw _ _ (uj.t y hm)),dA (j:=1) I,cJ _ ⟨_,I⟩⟩)⟩
 have g0:(List.range (ps.map fun x=>V.ref x.1).length).map (fun i=>V.ref ((iA ps).getD i 0))=(iA ps).map V.ref:=by
  apply List.ext_getElem
  .unfold iA;simp
  ·intro i g1 g2
   have g3:i<ps.length:=by simpa [iA] using g2
   have oC:i<(iA ps).length:=by simpa using g2
   rw[ko,ko,List.getElem_range,fu,dR oC];rfl
 rw[g0]
 refine⟨_,I,o,C,al,_,I,(by rw[bO (ea en)];exact aQ),T.cl,T.q6,(by show 1<1000;decide),?_⟩
 rw[ME,BB (ea en),iv]
 exact q eJ e0 aj wJ zr
theorem YK(nb:dW mg)(T:og K C)(F:c5 K "__init__" "Choice.__init__" Fg f fd)(vm:bD P w K mg base 3 "names_of" ["parts"] JJ):cq P w K mg base dv 4 f fd ["self","cases"] (xm C):=by
 refine F.ok Xg (fun vs H Q E h=>?_) (fun bh A _ s H vs Q E az h=>?_)
 .obtain⟨_,_,_,_,rfl,_⟩:=h;rfl
 obtain⟨o,al,p,ps,rfl,aK,ck,aH,q⟩:=h
 refine⟨_,(aM (jk (ai 0) (cj vm az (av (ai 1) aA)) I)
  (aS (jk (ai 0) (jj ["case"] [] rfl (by decide+kernel) trivial (kb (ai 1)) (fun _ _ _ _ _=>(eF (i:=0) (show(["case"]:List af).Nodup by decide+kernel))) (fun _ _ _ _ _=>iN) (fun _ _ _ _ _=>(cP cU (ai 0) aD))) rfl))),?_⟩
 try dsimp only[cQ,cR,cS,cT]
 refine⟨_,I,p,ps,I,ck,aH,fun eJ aj=>?_⟩
 have fo:eJ≠o:=(eN aK aj).symm
 refine⟨_,I,o,C,al,_,I,(by rw[bO (ea fo)];exact aK),T.cl,T.sv,(by show 0<1000;decide),?_⟩
 rw[MD]
 have fO:∀b u,b≠o->H b=J u->upd (upd H eJ (.lst ((g6 ps).map V.str))) o (.ins C al [("names",.ref eJ)]) b=J u:=fun b u nb e=>by rw[bO nb,bO (eN e aj)];exact e
 have uj:=ck.keep aK fO
 refine .inl ⟨_,I,p,I,⟨_,b1 uj.l⟩,fun e0 aq=>?_⟩
 have en:e0≠o:=fun z=>by rw[z,aQ]at aq;cases aq
 have zr:eJ≠e0:=fun z=>by rw[bO en,<-z,aQ]at aq;cases aq
 have wJ:H e0=aw:=by rw[bO en,bO (ea zr)]at aq;exact aq
 refine x6 (K:=K) (a:=p) (xs:=ps.map fun x=>V.ref x.1) (fun i=>V.ref ((iA ps).getD i 0)) (fun ab=>∃z,ab=[z]) (by rw[cC];exact fg (by have:=ck.n;omega)) ⟨_,I⟩ aq (b1 uj.l) ?_ ?_
 ·rintro i x ay cz H1 ⟨z,rfl⟩ gw R cJ
  rw[gf]at ay
  obtain⟨y,bP,rfl⟩:=Uf.mp ay
  have hm:=kl bP
  have e:(iA ps).getD i 0=y.2.2:=by unfold iA;rw[fu,gf,bP];rfl
  rw[e]at cJ
  exact⟨_,I,.inl (.inr ⟨_,_,_,_,I,I,dk (gw _ _ (uj.t y hm)),dA (j:=1) I,cJ _ ⟨_,I⟩⟩)⟩
 have g0:(List.range (ps.map fun x=>V.ref x.1).length).map (fun i=>V.ref ((iA ps).getD i 0))=(iA ps).map V.ref:=by
  apply List.ext_getElem
  .unfold iA;simp
  ·intro i g1 g2
   have g3:i<ps.length:=by simpa [iA] using g2
   have oC:i<(iA ps).length:=by simpa using g2
   rw[ko,ko,List.getElem_range,fu,dR oC];rfl
 rw[g0]
 refine⟨_,I,o,C,al,_,I,(by rw[bO (ea en)];exact aQ),T.cl,T.q6,(by show 1<1000;decide),?_⟩
 rw[ME,BB (ea en),iv]
 exact q eJ e0 aj wJ zr
structure kI(K:bN)(C:ae):Prop where
 cl:fz K C
 nI:kk K C "inner"
inductive Rg(C:ae)(vs:List V)(H:au)(Q:bB)(E:bR):Prop where
 |mk (p al w:_) (bu:vs=[.ref p,.ref w]) (aj:H p=J (.ins C al [])) (aq:Q .bK (upd H p (.ins C al [("inner",.ref w)]))):Rg C vs H Q E
def rd(C:ae):b3:=fun vs H Q E=>Rg C vs H Q E
theorem XA(T:kI K C)(F:c5 K "__init__" "Maybe.__init__" Fs f fd):cq P w K mg base dv 1 f fd ["self","inner"] (rd C):=by
 refine F.ok Xw (fun vs H Q E h=>?_) (fun bh A _ s H vs Q E az h=>?_)
 .obtain⟨_,_,_,rfl,_⟩:=h;rfl
 obtain⟨p,al,w,rfl,bj,q⟩:=h
 exact⟨_,(aS (jk (ai 0) (ai 1) I)),_,I,_,I,p,C,al,_,I,bj,T.cl,T.nI,(by show 0<1000;decide),q⟩
theorem X4(T:kI K C)(F:c5 K "__init__" "Many.__init__" FJ f fd):cq P w K mg base dv 1 f fd ["self","inner"] (rd C):=by
 refine F.ok XZ (fun vs H Q E h=>?_) (fun bh A _ s H vs Q E az h=>?_)
 .obtain⟨_,_,_,rfl,_⟩:=h;rfl
 obtain⟨p,al,w,rfl,bj,q⟩:=h
 exact⟨_,(aS (jk (ai 0) (ai 1) I)),_,I,_,I,p,C,al,_,I,bj,T.cl,T.nI,(by show 0<1000;decide),q⟩
theorem Xj(T:kI K C)(F:c5 K "__init__" "Turned.__init__" Fd f fd):cq P w K mg base dv 1 f fd ["self","inner"] (rd C):=by
 refine F.ok W8 (fun vs H Q E h=>?_) (fun bh A _ s H vs Q E az h=>?_)
 .obtain⟨_,_,_,rfl,_⟩:=h;rfl
 obtain⟨p,al,w,rfl,bj,q⟩:=h
 exact⟨_,(aS (jk (ai 0) (ai 1) I)),_,I,_,I,p,C,al,_,I,bj,T.cl,T.nI,(by show 0<1000;decide),q⟩
noncomputable def isNum:D->Bool
 |.int _=>ah
 |_=>ag
noncomputable def Ce(bL:D->Bool):Fin 4->D->Bool
 |0,.bK=>ah
 |1,.aN _=>ah
 |2,.int i=>decide (iM i)
 |3,d=>bL d
 |_,_=>ag
noncomputable def xc(g:D->Bool):D->Bool
 |.tup []=>ah
 |.tup [x]=>g x
 |_=>ag
noncomputable def zo(g:D->Bool):D->Bool
 |.lst ds=>decide (ds.length<=60)&&ds.all g
 |_=>ag
noncomputable def Jj(k:Fin 3)(g:D->Bool)(d:D):Bool:=if k=0 then xc g d else if k=1 then zo g d else g d
noncomputable def ajp(a b:Int):D->Bool
 |.int i=>decide (a<=i/\i<=b)
 |_=>ag
noncomputable def afE(s:af):D->Bool
 |.str t=>decide (t.length<=200)&&nF t s
 |_=>ag
noncomputable def JY(g:List D->Bool):D->Bool
 |.tup ds=>g ds
 |_=>ag
noncomputable def Ch(g:af->D->Bool):D->Bool
 |.tup [.str n,x]=>g n x
 |_=>ag
mutual
noncomputable def c4(bL:D->Bool):bF->D->Bool
 |.bare k,d=>Ce bL k d
 |.sp a b,d=>ajp a b d
 |.le s,d=>afE s d
 |.one k f,d=>Jj k (c4 bL f) d
 |.two k ns fs,d=>if k=0 then JY (fL bL fs) d else Ch (oB bL fs ns) d
noncomputable def fL(bL:D->Bool):List bF->List D->Bool
 |[],ds=>ds.isEmpty
 |f::fs,ds=>match ds with|[]=>ag|d::ds=>c4 bL f d&&fL bL fs ds
noncomputable def oB(bL:D->Bool):List bF->List af->af->D->Bool
 |[],_,_,_=>ag
 |f::fs,ns,n,x=>if ns.head?=J n then c4 bL f x else oB bL fs ns.tail n x
end
inductive QX(vs:List V)(H:au)(Q:bB)(E:bR):Prop where
 |mk (v:V) (d:D) (bu:vs=[v]) (aj:h3 H d v) (aq:Q (.aN (isNum d)) H):QX  vs H Q E
def zQ:b3:=fun vs H Q E=>QX  vs H Q E
inductive QQ(vs:List V)(H:au)(Q:bB)(E:bR):Prop where
 |mk (n:Int) (bu:vs=[.int n]) (aj:Q (.aN (decide (iM n))) H):QQ  vs H Q E
def JF:b3:=fun vs H Q E=>QQ  vs H Q E
theorem Wt(F:dx K mg "has_whole_row" Aj ["n"] f fd)(m6:bD P w K mg base 1 "is_count" ["n"] zP):bD P w K mg base 2 "has_whole_row" ["n"] JF:=by
 refine F.fp LR (fun bh A _ s H vs Q E az h=>?_)
 obtain⟨n,rfl,q⟩:=h
 refine⟨_,(aS (bG (cj m6 az (av (om (cd zz (ai 0) aD) (ai 0) (aO gp (lh k5 aD) (ai 0))) aA)))),?_⟩
 try dsimp only[cQ,cR,cS,cT]
 refine⟨_,I,_,_,I,I,_,I,?_⟩
 refine e5 (fun c=>?_) (fun c=>?_)
 ·refine⟨_,I,_,I,H,.refl (eb _),?_⟩
  have e:decide (h2 n)=decide (iM n):=decide_eq_decide.mpr (by unfold h2 iM;omega)
  rw[e];exact q
 ·refine⟨_,I,_,I,_,_,I,I,_,I,H,.refl (eb _),?_⟩
  have e:decide (h2 (-1-n))=decide (iM n):=decide_eq_decide.mpr (by unfold h2 iM;omega)
  rw[e];exact q
theorem XG(nb:dW mg)(F:dx K mg "is_number" FE ["value"] f fd):bD P w K mg base 1 "is_number" ["value"] zQ:=by
 refine F.fp XT (fun bh A _ s H vs Q E az h=>?_)
 obtain⟨v,d,rfl,hd,q⟩:=h
 refine⟨_,(aS (bG (jl (cy ot I nb.hC hz (av (ai 0) (av (m9 (v :=.ty "int") I nb.qZ qA I) aA))) (kq (GK (cy ot I nb.hC hz (av (ai 0) (av (m9 (v :=.ty "bool") I nb.N2 NR I) aA)))))))),?_⟩
 try dsimp only[cQ,cR,cS,cT]
 refine⟨_,I,.inl ⟨_,_,_,_,I,hd.ty,q5 K d (by decide),_,I,?_⟩⟩
 cases d with
 |int i=>exact gQ ⟨_,I,.inl ⟨_,_,_,_,I,hd.ty,q5 K _ (by decide),_,I,H,.refl (eb _),q⟩⟩
 |aN b=>exact gQ ⟨_,I,.inl ⟨_,_,_,_,I,hd.ty,q5 K _ (by decide),_,I,H,.refl (eb _),q⟩⟩
 |_=>exact fb ⟨H,.refl (eb _),q⟩
inductive QE(has:eW->Bool)(bL:D->Bool)(c:dP)(n:Nat)(i:eW)(vs:List V)(H:au)(Q:bB)(E:bR):Prop where
 |mk (o:ae) (f:bF) (v:V) (d:D) (bu:vs=[.ref o,v]) (aj:slot f=i) (aq:b0 c [] H f o) (bl:ka has f) (bW:aT f<=n) (d0:h3 H d v) (jQ:c4 bL f d=ah) (qL:Q (.aN ah) H):QE has bL c n i vs H Q E
def i8(has:eW->Bool)(bL:D->Bool)(c:dP)(n:Nat)(i:eW):b3:=fun vs H Q E=>QE has bL c n i vs H Q E
theorem yd(bL:D->Bool)(k:Fin 4)(d:D):c4 bL (.bare k) d=Ce bL k d:=by rw[c4]
theorem b0.fits{c:dP}(f:bF)(h:b0 c X H f o):∃al fs,H o=J (.ins (eO c (slot f)) al fs)/\fs.lookup (af.ofString "fits")=aw :=
 b0.ins (m:=af.ofString "fits") (by decide+kernel) (by decide+kernel) (by decide+kernel) (by decide+kernel) (by decide+kernel) (by decide+kernel) f h
theorem Gu(bL:D->Bool):∀(fs:List bF)(ds:List D),ds.length≠fs.length->fL bL fs ds=ag
 |[],ds,h=>by
  cases ds with
  |nil=>exact absurd I h
  |cons d ds=>rw[fL];rfl
 |f::fs,[],h=>by rw[fL]
 |f::fs,d::ds,h=>by
  rw[fL]
  show(c4 bL f d&&fL bL fs ds)=ag
  rw[Gu bL fs ds (fun e=>h (by rw[dZ,dZ,e])),Bool.and_false]
theorem Gv(bL:D->Bool):∀(fs:List bF)(ds:List D),ds.length=fs.length->fL bL fs ds=(List.range fs.length).all fun i=>c4 bL (fs.getD i (.bare 0)) (ds.getD i .bK)
 |[],ds,h=>by
  obtain rfl:ds=[]:=List.length_eq_zero_iff.mp h
  rw[fL];rfl
 |f::fs,[],h=>by cases h
 |f::fs,d::ds,h=>by
  rw[fL]
  show(c4 bL f d&&fL bL fs ds)=_
  rw[Gv bL fs ds (by simpa using h),dZ,List.range_succ_eq_map,List.all_cons,List.all_map]
  rfl
theorem Zt(F:c5 K "fits" "Nothing.fits" As f fd):cq P w K mg base dv 1 f fd ["self","value"] (i8 has bL c n (.b 0)):=by
 refine F.hV WU (fun bh A _ s H vs Q E az h=>?_)
 obtain⟨o,ec,v,d,rfl,hs,bx,aP,cu,hd,aG,q⟩:=h
 have:=nk hs
 subst this
 rw[yd]at aG
 cases d with
 |bK =>
  obtain rfl:v=.bK:=hd
  exact⟨_,(aS (bG (gi yr (ai 1) lN))),_,I,I,H,.refl (eb _),q⟩
 |_=>cases aG
theorem Uc(F:c5 K "fits" "Truth.fits" Be f fd):cq P w K mg base dv 1 f fd ["self","value"] (i8 has bL c n (.b 1)):=by
 refine F.hV Xt (fun bh A _ s H vs Q E az h=>?_)
 obtain⟨o,ec,v,d,rfl,hs,bx,aP,cu,hd,aG,q⟩:=h
 have:=nk hs
 subst this
 rw[yd]at aG
 cases d with
 |aN b =>
  obtain rfl:v=.aN b:=hd
  refine⟨_,(aS (bG (LD (gi Hc (ai 1) hy) (kq (gi Hc (ai 1) hy))))),_,I,ag,I,I,?_⟩
  cases b with
  |false=>exact⟨ah,I,gQ ⟨H,.refl (eb _),q⟩⟩
  |true=>exact⟨ag,I,fb ⟨_,I,ah,I,I,H,.refl (eb _),q⟩⟩
 |_=>cases aG
theorem Ub(F:c5 K "fits" "Whole.fits" Bc f fd)(m7:bD P w K mg base 1 "is_number" ["value"] zQ)(tc:bD P w K mg base 2 "has_whole_row" ["n"] JF):cq P w K mg base dv 3 f fd ["self","value"] (i8 has bL c n (.b 2)):=by
 refine F.hV Xr (fun bh A _ s H vs Q E az h=>?_)
 obtain⟨o,ec,v,d,rfl,hs,bx,aP,cu,hd,aG,q⟩:=h
 have:=nk hs
 subst this
 rw[yd]at aG
 cases d with
 |int i =>
  obtain rfl:v=.int i:=hd
  have aG:decide (iM i)=ah:=aG
  refine⟨_,(aS (bG (jl (cj m7 az (av (ai 1) aA)) (kq (cj tc az (av (ai 1) aA)))))),_,I,_,.int i,I,I,ah,I,gQ ⟨_,I,i,I,H,.refl (eb _),?_⟩⟩
  rw[aG];exact q
 |_=>cases aG
theorem Vg(T:vN K c.s)(F:c5 K "fits" "Span.fits" Bj f fd)(m7:bD P w K mg base 1 "is_number" ["value"] zQ):cq P w K mg base dv 2 f fd ["self","value"] (i8 has bL c n .s):=by
 refine F.hV XX (fun bh A _ s H vs Q E az h=>?_)
 obtain⟨o,ec,v,d,rfl,hs,bx,aP,cu,hd,aG,q⟩:=h
 obtain⟨a,b,rfl⟩:=GC hs
 obtain⟨_,al,aK⟩:=bx
 rw[c4]at aG
 cases d with
 |int i =>
  obtain rfl:v=.int i:=hd
  have aG:=lQ (show decide (a<=i/\i<=b)=ah from aG)
  refine⟨_,(aS (bG (jl (cj m7 az (av (ai 1) aA)) (jl (gi zA (et (ai 0) I) (ai 1)) (kq (gi zA (ai 1) (et (ai 0) I))))))),_,I,_,.int i,I,I,ah,I,gQ ⟨_,I,o,c.s,al,_,_,I,aK,T.cl,T.pW,hU ..,_,I,_,_,I,I,_,I,jw aG.1 ⟨_,I,_,I,o,c.s,al,_,_,I,aK,T.cl,T.Dg,pV _ _ _ _ IC,_,_,I,I,H,.refl (eb _),?_⟩⟩⟩
  dsimp only
  rw[d6 aG.2];exact q
 |_=>cases aG
theorem Zu(nb:dW mg)(pO:ej mg "LONGEST_TEXT" (.int 200))(T:tn K c.l)(F:c5 K "fits" "Letters.fits" AA f fd)(n3:bD P w K mg base 1 "made_of" ["text","signs"] zR):cq P w K mg base dv 2 f fd ["self","value"] (i8 has bL c n .l):=by
 refine F.hV WY (fun bh A _ s H vs Q E az h=>?_)
 obtain⟨o,ec,v,d,rfl,hs,bx,aP,cu,hd,aG,q⟩:=h
 obtain⟨aY,rfl⟩:=GD hs
 obtain⟨_,al,aK⟩:=bx
 rw[c4]at aG
 refine⟨_,(aS (bG (jl (cy ot I nb.hC hz (av (ai 1) (av (m9 (v :=.ty "str") I nb.ajr V6 I) aA))) (jl (gi zA (cy d7 I nb.d1 d2 (av (ai 1) aA)) (hv pO)) (kq (cj n3 az (av (ai 1) (av (et (ai 0) I) aA)))))))),_,I,.inl ⟨_,_,_,_,I,hd.ty,q5 K d (by decide),_,I,?_⟩⟩
 cases d with
 |str t =>
  obtain⟨rfl,C1⟩:=hd
  have aG:(decide (t.length<=200)&&nF t aY)=ah:=aG
  rw[hK,jJ]at aG
  refine gQ ⟨_,I,_,_,I,⟨fg C1,I⟩,_,_,I,I,_,I,jw (by omega) ⟨_,I,_,I,o,c.l,al,_,_,I,aK,T.cl,T.nJ,hU ..,t,aY,I,by omega,H,.refl (eb _),?_⟩⟩
  rw[aG.2];exact q
 |_=>cases aG
theorem Ud(nb:dW mg)(T:kI K (c.o 0))(F:c5 K "fits" "Maybe.fits" Bg f fd)(iX:ij P w K mg base (2*n+4) "fits" ["self","value"] (eO c) (i8 has bL c n)):cq P w K mg base dv (2*n+4+1) f fd ["self","value"] (i8 has bL c (n+1) (.o 0)):=by
 refine F.hV Xx (fun bh A _ s H vs Q E az h=>?_)
 obtain⟨o,ec,v,d,rfl,hs,bx,aP,cu,hd,aG,q⟩:=h
 obtain⟨g,rfl⟩:=qq hs
 obtain⟨_,al,i,aK,ez⟩:=bx
 have iB:aT g<=n:=by rw[aT]at cu;omega
 rw[c4]at aG
 have aG:xc (c4 bL g) d=ah:=aG
 obtain⟨fK,fM,e3,li⟩:=b0.fits g ez
 refine⟨_,(aM (cW (g9.pt (jb (kp (iu (cy ot I nb.hC hz (av (ai 1) (av (m9 (v :=.ty "tuple") I nb.uY tL I) aA))))) (k6 (cd kV (cy d7 I nb.d1 d2 (av (ai 1) aA)) aD)))) (aS (bG hy)) cV)
  (aS (bG (LD (gi da (cy d7 rfl nb.d1 d2 (av (ai 1) aA)) aD) (kq (jh iX az (et (ai 0) rfl) (av (cP cU (ai 1) aD) aA) (hk:=by omega))))))),_,rfl,.inl ⟨_,_,_,_,rfl,hd.ty,q5 K d (by decide),_,rfl,?_⟩⟩
 unfold xc at aG
 split at aG
 ·obtain⟨a,vs,rfl,dd,rfl,kz⟩:=hd
  exact fb ⟨_,I,_,_,I,.inr ⟨_,dk dd,I⟩,_,_,I,I,_,I,gg (by decide) ⟨_,I,_,_,I,.inr ⟨_,dk dd,I⟩,I,_,I,jw I ⟨H,.refl (eb _),q⟩⟩⟩
 ·rename_i x _
  obtain⟨a,vs,rfl,dd,⟨y,r,rfl,ay,rfl⟩,kz⟩:=hd
  refine fb ⟨_,I,_,_,I,.inr ⟨_,dk dd,I⟩,_,_,I,I,_,I,gg (by show ¬((1:Int)<1);decide) ⟨_,I,_,_,I,.inr ⟨_,dk dd,I⟩,I,_,I,gg (fun z=>nomatch z) ?_⟩⟩
  exact⟨_,I,o,c.o 0,al,_,_,I,aK,T.cl,T.nI,hU ..,i,slot g,fK,fM,I,e3,li,_,I,.inl (.inr ⟨_,_,_,_,I,I,dk dd,dA (j:=0) I,i,g,y,x,I,I,ez,aP.one,iB,ay,aG,H,.refl (eb _),q⟩)⟩
 .cases aG
theorem Z2(T:kI K (c.o 2))(F:c5 K "fits" "Turned.fits" AG f fd)(iX:ij P w K mg base (2*n+4) "fits" ["self","value"] (eO c) (i8 has bL c n)):cq P w K mg base dv (2*n+4+1) f fd ["self","value"] (i8 has bL c (n+1) (.o 2)):=by
 refine F.hV W9 (fun bh A _ s H vs Q E az h=>?_)
 obtain⟨o,ec,v,d,rfl,hs,bx,aP,cu,hd,aG,q⟩:=h
 obtain⟨g,rfl⟩:=qq hs
 obtain⟨_,al,i,aK,ez⟩:=bx
 have iB:aT g<=n:=by rw[aT]at cu;omega
 rw[c4]at aG
 obtain⟨fK,fM,e3,li⟩:=b0.fits g ez
 exact⟨_,(aS (bG (jh iX az (et (ai 0) I) (av (ai 1) aA) (hk:=by omega)))),_,rfl,o,c.o 2,al,_,_,rfl,aK,T.cl,T.nI,hU ..,i,slot g,fK,fM,rfl,e3,li,_,rfl,i,g,v,d,rfl,rfl,ez,aP.one,iB,hd,aG,H,.refl (eb _),q⟩
theorem Vh(nb:dW mg)(pP:ej mg "MOST_VALUES" (.int 60))(T:kI K (c.o 1))(F:c5 K "fits" "Many.fits" Bl f fd)(iX:ij P w K mg base (2*n+4) "fits" ["self","value"] (eO c) (i8 has bL c n)):cq P w K mg base dv (2*n+4+1) f fd ["self","value"] (i8 has bL c (n+1) (.o 1)):=by
 refine F.hV X0 (fun bh A _ s H vs Q E az h=>?_)
 obtain⟨o,ec,v,d,rfl,hs,bx,aP,cu,hd,aG,q⟩:=h
 obtain⟨g,rfl⟩:=qq hs
 obtain⟨_,al,i,aK,ez⟩:=bx
 have iB:aT g<=n:=by rw[aT]at cu;omega
 rw[c4]at aG
 have aG:zo (c4 bL g) d=ah:=aG
 obtain⟨fK,fM,e3,li⟩:=b0.fits g ez
 refine⟨_,(aM (cW (g9.pt (jb (kp (iu (cy ot I nb.hC hz (av (ai 1) (av (m9 (v :=.ty "list") I nb.afF Vt I) aA))))) (k6 (cd kV (cy d7 I nb.d1 d2 (av (ai 1) aA)) (hv pP))))) (aS (bG hy)) cV)
  (aS (bG (cy (v7 rfl) rfl nb.wi wh (av (jj ["part"] [(0,"self")] rfl (by decide+kernel) ⟨rfl,.inl rfl,trivial⟩ (kb (ai 1)) (fun _ _ _ _ _=>(eF (i:=0) (show(["part","self"]:List af).Nodup by decide+kernel))) (fun _ _ _ _ _=>iN) (fun _ _ _ _ _=>(jh iX az (et (ai 1) rfl) (av (ai 0) aA) (hk:=by omega)))) aA))))),_,rfl,.inl ⟨_,_,_,_,rfl,hd.ty,q5 K d (by decide),_,rfl,?_⟩⟩
 cases d with
 | lst ds =>
  obtain⟨a,vs,rfl,dd,gH,kz⟩:=hd
  have cL:=gK.len ds gH
  have aG:(decide (ds.length<=60)&&ds.all (c4 bL g))=ah:=aG
  rw[hK,jJ,jf]at aG
  refine fb ⟨_,I,_,_,I,.inl ⟨_,b1 dd,I⟩,_,_,I,I,_,I,gg (by omega) (.inl ⟨_,I,a,I,⟨_,b1 dd⟩,fun eh gF=>?_⟩)⟩
  refine BA (K:=K) (a:=a) (xs:=vs) (fun _=>V.aN ah) (fun ab=>∃z,ab=[z,J (.ref o)]) (fg (by omega)) ⟨_,I⟩ gF (b1 dd) ?_ ?_
  ·rintro x ay cz H1 ⟨z,rfl⟩ gw R cJ
   obtain⟨k,hk,rfl⟩:=List.mem_iff_getElem.mp ay
   obtain⟨lj,r9,IY⟩:=gK.get ds gH (dR hk)
   exact⟨_,I,o,c.o 1,al,_,_,I,gw _ _ aK,T.cl,T.nI,hU ..,i,slot g,fK,fM,I,gw _ _ e3,li,_,I,i,g,_,lj,I,I,b0.keep (fun b u _ e=>gw b u e) g ez,aP.one,iB,h3.same gw lj IY,aG.2 lj (kl r9),cJ _ ⟨_,I⟩⟩
  ·refine⟨eh,List.replicate vs.length ah,I,b1 (by rw[aQ,List.map_replicate,List.map_const']),H,.refl (dq gF),?_⟩
   rw[show(List.replicate vs.length ah).all id=ah by simp];exact q
 |_=>cases aG
theorem Z3(nb:dW mg)(T:og K (c.t 0))(F:c5 K "fits" "Record.fits" AL f fd)(iX:ij P w K mg base (2*n+4) "fits" ["self","value"] (eO c) (i8 has bL c n)):cq P w K mg base dv (2*n+4+1) f fd ["self","value"] (i8 has bL c (n+1) (.t 0)):=by
 refine F.hV Xe (fun bh A _ s H vs Q E az h=>?_)
 obtain⟨o,ec,v,d,rfl,hs,bx,aP,cu,hd,aG,q⟩:=h
 obtain⟨ns,fs,rfl⟩:=vY hs
 obtain⟨_,al,a1,a2,os,aK,_,_,aj,aq,ez⟩:=bx
 obtain⟨e9,mK,iC⟩:=aP.two
 have iB:hA fs<=n:=by rw[aT]at cu;omega
 have sh:=eL.len fs ez
 have y3:=(oo e9).1
 rw[c4]at aG
 have aG:JY (fL bL fs) d=ah:=aG
 refine⟨_,(aM (cW (g9.pt (jb (kp (iu (cy ot I nb.hC hz (av (ai 1) (av (m9 (v :=.ty "tuple") I nb.uY tL I) aA))))) (k6 (cd sz (cy d7 I nb.d1 d2 (av (ai 1) aA)) (cy d7 I nb.d1 d2 (av (et (ai 0) I) aA)))))) (aS (bG hy)) cV)
  (aS (bG (cy (v7 rfl) rfl nb.wi wh (av (jj ["form","part"] [] rfl (by decide+kernel) trivial (NA rfl nb.Se (av (et (ai 0) rfl) (av (ai 1) aA))) (fun _ _ _ _ _=>(pE rfl (ji (eF (i:=0) (show(["form","part"]:List af).Nodup by decide+kernel)) (ji (eF (i:=1) (show(["form","part"]:List af).Nodup by decide+kernel)) pk)))) (fun _ _ _ _ _=>iN) (fun _ _ _ _ _=>(jh iX az (ai 0) (av (ai 1) aA) (hk:=by omega)))) aA))))),_,rfl,.inl ⟨_,_,_,_,rfl,hd.ty,q5 K d (by decide),_,rfl,?_⟩⟩
 cases d with
 | tup ds =>
  obtain⟨a,vs,rfl,dd,gH,kz⟩:=hd
  have sm:=gK.len ds gH
  have aG:fL bL fs ds=ah:=aG
  have fl:ds.length=fs.length:=by
   by_cases z:ds.length=fs.length
   .exact z
   .rw[Gu bL fs ds z]at aG;cases aG
  rw[Gv bL fs ds fl,jf]at aG
  refine fb ⟨_,I,_,_,I,.inr ⟨_,dk dd,I⟩,_,I,o,c.t 0,al,_,_,I,aK,T.cl,T.q6,pV _ _ _ _ ue,_,_,I,.inl ⟨_,b1 aq,I⟩,I,_,I,I2 (by rw[cC,sm,sh,fl]) ?_⟩
  refine⟨_,I,o,c.t 0,al,_,_,I,aK,T.cl,T.q6,pV _ _ _ _ ue,_,I,a2,a,_,_,I,b1 aq,dk dd,fun eh gF=>?_⟩
  refine MW (fun k=>V.aN ah) (fun ab=>∃dh de,ab=[dh,de]) (by rw[cC];omega) ⟨_,_,I⟩ gF (b1 aq) (dk dd) ?_ ?_
  ·rintro k x y ay bP cz H1 tA ⟨dh,de,rfl⟩ gw r6 R cJ
   rw[gf]at ay
   obtain⟨uM,IP,rfl⟩:=Uf.mp ay
   obtain⟨ec,ur,yL⟩:=eL.get fs ez IP
   obtain⟨lj,r9,I0⟩:=gK.get ds gH bP
   obtain⟨oM,yX⟩:=iC.get ur
   have hk:k<fs.length:=(km.mp ur).1
   have yT:=aG k (List.mem_range.mpr hk)
   rw[fu,ur,fu,r9]at yT
   have uU:=gw.trans (dq (o:=c2.tup [V.ref uM,y]) r6)
   obtain⟨fK,fM,e3,li⟩:=b0.fits ec (b0.keep (fun b u _ e=>uU b u e) ec yL)
   exact⟨tA,_,I,dk aQ,I,_,_,I,_,_,I,I,_,I,uM,slot ec,fK,fM,I,e3,li,_,I,uM,ec,y,lj,I,I,b0.keep (fun b u _ e=>uU b u e) ec yL,oM,by omega,h3.same uU lj I0,yT,cJ _ _ ⟨_,_,rfl⟩ (eb _)⟩
  ·intro H' uB oE
   have e:(List.range (min (os.map V.ref).length vs.length)).map (fun k=>V.aN ah)=(List.replicate fs.length ah).map V.aN:=by
    rw[cC,sm,sh,fl,Nat.min_self,List.map_const',mu,List.map_replicate]
   rw[e]at oE
   refine⟨eh,_,I,b1 oE,H,.refl uB,?_⟩
   rw[show(List.replicate fs.length ah).all id=ah by simp];exact q
 |_=>cases aG
noncomputable def Cf(fw:D->List Bool):Fin 4->D->List Bool
 |1,.aN b=>[b]
 |2,.int i=>iW i
 |3,d=>fw d
 |_,_=>[]
noncomputable def I6(g:D->List Bool):D->List Bool
 |.tup [x]=>ah::g x
 |_=>[ag]
noncomputable def afT(g:D->List Bool):D->List Bool
 |.lst ds=>(ds.map fun d=>ah::g d).flatten++[ag]
 |_=>[]
noncomputable def Dn(k:Fin 3)(g:D->List Bool)(d:D):List Bool:=if k=0 then I6 g d else if k=1 then afT g d else(g d).map (!·)
noncomputable def ajq(a b:Int):D->List Bool
 |.int i=>el (i-a).toNat (ba (b-a).toNat)
 |_=>[]
noncomputable def PM(s:af):D->List Bool
 |.str t=>(t.cps.toList.map fun c=>ah::el (s.cps.toList.idxOf c) (ba (s.length-1))).flatten++[ag]
 |_=>[]
noncomputable def akp(g:List D->List Bool):D->List Bool
 |.tup ds=>g ds
 |_=>[]
noncomputable def abb(g:af->D->List Bool):D->List Bool
 |.tup [.str n,x]=>g n x
 |_=>[]
mutual
noncomputable def cb(fw:D->List Bool):bF->D->List Bool
 |.bare k,d=>Cf fw k d
 |.sp a b,d=>ajq a b d
 |.le s,d=>PM s d
 |.one k f,d=>Dn k (cb fw f) d
 |.two k ns fs,d=>if k=0 then akp (gh fw fs) d else abb (ra fw fs ns 0 (fs.length-1)) d
noncomputable def gh(fw:D->List Bool):List bF->List D->List Bool
 |[],_=>[]
 |f::fs,ds=>match ds with|[]=>[]|d::ds=>cb fw f d++gh fw fs ds
noncomputable def ra(fw:D->List Bool):List bF->List af->Nat->Nat->af->D->List Bool
 |[],_,_,_,_,_=>[]
 |f::fs,ns,k,m,n,x=>if ns.head?=J n then el k (ba m)++cb fw f x else ra fw fs ns.tail (k+1) m n x
end
inductive RD(has:eW->Bool)(bL:D->Bool)(fw:D->List Bool)(c:dP)(n:Nat)(i:eW)(vs:List V)(H:au)(Q:bB)(E:bR):Prop where
 |mk (o:ae) (f:bF) (v:V) (d:D) (bu:vs=[.ref o,v]) (aj:slot f=i) (aq:b0 c [] H f o) (bl:ka has f) (bW:aT f<=n) (d0:h3 H d v) (jQ:c4 bL f d=ah) (qL:(cb fw f d).length<=15000000) (yI:Q (.str (aV (cb fw f d))) H):RD has bL fw c n i vs H Q E
def jy(has:eW->Bool)(bL:D->Bool)(fw:D->List Bool)(c:dP)(n:Nat)(i:eW):b3:=fun vs H Q E=>RD has bL fw c n i vs H Q E
theorem b0.written{c:dP}(f:bF)(h:b0 c X H f o):∃al fs,H o=J (.ins (eO c (slot f)) al fs)/\fs.lookup (af.ofString "written")=aw :=
 b0.ins (m:=af.ofString "written") (by decide+kernel) (by decide+kernel) (by decide+kernel) (by decide+kernel) (by decide+kernel) (by decide+kernel) f h
theorem v8:af.ofString "1"=aV [ah]:=by decide+kernel
theorem BK:af.ofString "0"=aV [ag]:=by decide+kernel
theorem Wn(F:c5 K "written" "Nothing.written" A2 f fd):cq P w K mg base dv 1 f fd ["self","value"] (jy has bL fw c n (.b 0)):=by
 refine F.hV Wm (fun bh A _ s H vs Q E az h=>?_)
 obtain⟨o,ec,v,d,rfl,hs,bx,aP,cu,hd,aG,aB,q⟩:=h
 have:=nk hs
 subst this
 rw[cb]at q
 refine⟨_,(aS (bG cw)),H,.refl (eb _),?_⟩
 cases d<;>exact q
theorem WJ(F:c5 K "written" "Truth.written" Al f fd):cq P w K mg base dv 1 f fd ["self","value"] (jy has bL fw c n (.b 1)):=by
 refine F.hV WC (fun bh A _ s H vs Q E az h=>?_)
 obtain⟨o,ec,v,d,rfl,hs,bx,aP,cu,hd,aG,aB,q⟩:=h
 have:=nk hs
 subst this
 rw[cb]at q
 rw[c4]at aG
 cases d with
 |aN b =>
  obtain rfl:v=.aN b:=hd
  refine⟨_,(aS (bG (om (iu (ai 1)) cw cw))),_,I,?_⟩
  refine⟨b,I,?_⟩
  cases b with
  |true=>exact gQ ⟨H,.refl (eb _),q⟩
  |false=>exact fb ⟨H,.refl (eb _),q⟩
 |_=>cases aG
theorem Wv(F:c5 K "written" "Whole.written" Ak f fd)(rq:bD P w K mg base 3 "whole_row" ["n"] Bo):cq P w K mg base dv 4 f fd ["self","value"] (jy has bL fw c n (.b 2)):=by
 refine F.hV WB (fun bh A _ s H vs Q E az h=>?_)
 obtain⟨o,ec,v,d,rfl,hs,bx,aP,cu,hd,aG,aB,q⟩:=h
 have:=nk hs
 subst this
 rw[cb]at q
 rw[c4]at aG
 cases d with
 |int i =>
  obtain rfl:v=.int i:=hd
  exact⟨_,(aS (bG (cj rq az (av (ai 1) aA)))),_,I,i,I,lQ aG,H,.refl (eb _),q⟩
 |_=>cases aG
theorem WK(T:vN K c.s)(F:c5 K "written" "Span.written" Aq f fd)(n1:bD P w K mg base 2 "fixed_row" ["n","most"] zO):cq P w K mg base dv 3 f fd ["self","value"] (jy has bL fw c n .s):=by
 refine F.hV WS (fun bh A _ s H vs Q E az h=>?_)
 obtain⟨o,ec,v,d,rfl,hs,bx,aP,cu,hd,aG,aB,q⟩:=h
 obtain⟨a,b,rfl⟩:=GC hs
 obtain⟨_,al,aK⟩:=bx
 rw[cb]at q aB
 rw[c4]at aG
 cases d with
 |int i =>
  obtain rfl:v=.int i:=hd
  have aG:a<=i/\i<=b:=lQ aG
  have aB:(el (i-a).toNat (ba (b-a).toNat)).length<=15000000:=aB
  rw[la]at aB
  have aI:((i-a).toNat:Int)=i-a:=Int.toNat_of_nonneg (by omega)
  have aL:((b-a).toNat:Int)=b-a:=Int.toNat_of_nonneg (by omega)
  refine⟨_,(aS (bG (cj n1 az (av (aO gp (ai 1) (et (ai 0) I)) (av (aO gp (et (ai 0) I) (et (ai 0) I)) aA))))),?_⟩
  try dsimp only[cQ,cR,cS,cT]
  refine⟨_,I,_,I,o,c.s,al,_,_,I,aK,T.cl,T.pW,hU ..,_,_,I,I,_,I,o,c.s,al,_,_,I,aK,T.cl,T.Dg,pV _ _ _ _ IC,_,I,o,c.s,al,_,_,I,aK,T.cl,T.pW,hU ..,_,_,I,I,(i-a).toNat,(b-a).toNat,by rw[aI,aL];rfl,by omega,by omega,H,.refl (eb _),q⟩
 |_=>cases aG
theorem WL(nb:dW mg)(T:kI K (c.o 0))(F:c5 K "written" "Maybe.written" An f fd)(k4:ij P w K mg base (2*n+4) "written" ["self","value"] (eO c) (jy has bL fw c n)):cq P w K mg base dv (2*n+4+1) f fd ["self","value"] (jy has bL fw c (n+1) (.o 0)):=by
 refine F.hV WE (fun bh A _ s H vs Q E az h=>?_)
 obtain⟨o,ec,v,d,rfl,hs,bx,aP,cu,hd,aG,aB,q⟩:=h
 obtain⟨g,rfl⟩:=qq hs
 obtain⟨_,al,i,aK,ez⟩:=bx
 have iC:=aP.one
 have iB:aT g<=n:=by rw[aT]at cu;omega
 rw[c4]at aG
 rw[cb]at q aB
 have aG:xc (c4 bL g) d=ah:=aG
 have q:Q (.str (aV (I6 (cb fw g) d))) H:=q
 have aB:(I6 (cb fw g) d).length<=15000000:=aB
 obtain⟨fK,fM,e3,li⟩:=b0.written g ez
 cases d with
 | tup ds =>
  obtain⟨a,vs,rfl,dd,gH,kz⟩:=hd
  have cL:=gK.len ds gH
  refine⟨_,(aS (bG (om (cd da (cy d7 I nb.d1 d2 (av (ai 1) aA)) aD) cw (aO dr cw (jh k4 az (et (ai 0) I) (av (cP cU (ai 1) aD) aA) (hk:=by omega)))))),?_⟩
  try dsimp only[cQ,cR,cS,cT]
  refine⟨_,I,_,_,I,.inr ⟨_,dk dd,I⟩,I,_,I,?_⟩
  cases ds with
  |nil =>
   obtain rfl:vs=[]:=gH
   exact gQ ⟨H,.refl (eb _),q⟩
  | cons x r =>
   cases r with
   |cons y r=>cases aG
   |nil =>
    obtain⟨y,r,rfl,ay,w0⟩:=gH
    obtain rfl:r=[]:=w0
    have aB:(ah::cb fw g x).length<=15000000:=aB
    rw[dZ]at aB
    refine fb ⟨_,I,o,c.o 0,al,_,_,I,aK,T.cl,T.nI,hU ..,i,slot g,fK,fM,I,e3,li,?_⟩
    refine⟨_,I,.inl (.inr ⟨_,_,_,_,I,I,dk dd,dA (j:=0) I,i,g,y,x,I,I,ez,iC,iB,ay,aG,by omega,.inr ⟨_,_,rfl,rfl,gT ?_,H,.refl (eb _),?_⟩⟩)⟩
    .rw[v8,cF,cF];simp only[dZ,List.length_nil];omega
    .rw[v8,hN];exact q
 |_=>cases aG
theorem Ww(T:kI K (c.o 2))(F:c5 K "written" "Turned.written" A4 f fd)(n4:bD P w K mg base 1 "turned_row" ["row"] x3)(k4:ij P w K mg base (2*n+4) "written" ["self","value"] (eO c) (jy has bL fw c n)):cq P w K mg base dv (2*n+4+1) f fd ["self","value"] (jy has bL fw c (n+1) (.o 2)):=by
 refine F.hV Wq (fun bh A _ s H vs Q E az h=>?_)
 obtain⟨o,ec,v,d,rfl,hs,bx,aP,cu,hd,aG,aB,q⟩:=h
 obtain⟨g,rfl⟩:=qq hs
 obtain⟨_,al,i,aK,ez⟩:=bx
 have iC:=aP.one
 have iB:aT g<=n:=by rw[aT]at cu;omega
 rw[c4]at aG
 rw[cb]at q aB
 have aG:c4 bL g d=ah:=aG
 have q:Q (.str (aV ((cb fw g d).map (!·)))) H:=q
 have aB:((cb fw g d).map (!·)).length<=15000000:=aB
 rw[cC]at aB
 obtain⟨fK,fM,e3,li⟩:=b0.written g ez
 refine⟨_,(aS (bG (cj n4 az (av (jh k4 az (et (ai 0) I) (av (ai 1) aA) (hk:=by omega)) aA) (hk:=by omega)))),?_⟩
 try dsimp only[cQ,cR,cS,cT]
 refine⟨_,I,o,c.o 2,al,_,_,I,aK,T.cl,T.nI,hU ..,i,slot g,fK,fM,I,e3,li,?_⟩
 exact⟨_,I,i,g,v,d,I,I,ez,iC,iB,hd,aG,aB,_,I,by omega,H,.refl (eb _),q⟩
theorem Gm{ls:List (List Bool)}(h:l∈ls):l.length<=ls.flatten.length:=by
 induction ls with
 |nil=>cases h
 |cons a r cM =>
  rw[nh,cD]
  rcases dz.mp h with rfl|h
  .omega
  .have:=cM h;omega
theorem Gk(ls:List (List Bool)):((ls.map aV).map (·.length)).sum+(ls.map aV).length*(af.ofString "").length=ls.flatten.length:=by
 have e:(af.ofString "").length=0:=by decide+kernel
 rw[e,Nat.mul_zero,Nat.add_zero,iL,List.length_flatten]
 congr 1
 exact qt fun l _=>cF l
theorem MC(fw:D->List Bool):∀(fs:List bF)(ds:List D),ds.length=fs.length->gh fw fs ds=((List.range fs.length).map fun i=>cb fw (fs.getD i (.bare 0)) (ds.getD i .bK)).flatten
 |[],ds,h=>by rw[gh];rfl
 |f::fs,[],h=>by cases h
 |f::fs,d::ds,h=>by
  rw[gh]
  show cb fw f d++gh fw fs ds=_
  rw[MC fw fs ds (by simpa using h),dZ,List.range_succ_eq_map,je,nh,iL]
  rfl
theorem W3(nb:dW mg)(T:kI K (c.o 1))(F:c5 K "written" "Many.written" Az f fd)(k4:ij P w K mg base (2*n+4) "written" ["self","value"] (eO c) (jy has bL fw c n)):cq P w K mg base dv (2*n+4+1) f fd ["self","value"] (jy has bL fw c (n+1) (.o 1)):=by
 refine F.hV WW (fun bh A _ s H vs Q E az h=>?_)
 obtain⟨o,ec,v,d,rfl,hs,bx,aP,cu,hd,aG,aB,q⟩:=h
 obtain⟨g,rfl⟩:=qq hs
 obtain⟨_,al,i,aK,ez⟩:=bx
 have iC:=aP.one
 have iB:aT g<=n:=by rw[aT]at cu;omega
 rw[c4]at aG
 rw[cb]at q aB
 have aG:zo (c4 bL g) d=ah:=aG
 obtain⟨fK,fM,e3,li⟩:=b0.written g ez
 cases d with
 | lst ds =>
  obtain⟨a,vs,rfl,dd,gH,kz⟩:=hd
  have cL:=gK.len ds gH
  have aG:(decide (ds.length<=60)&&ds.all (c4 bL g))=ah:=aG
  obtain⟨qK,ib⟩:=pw.mp aG
  have ib:=jf.mp ib
  have q:Q (.str (aV ((ds.map fun d=>ah::cb fw g d).flatten++[ag]))) H:=q
  have aB:((ds.map fun d=>ah::cb fw g d).flatten++[ag]).length<=15000000:=aB
  rw[cD]at aB
  refine⟨_,(aS (bG (aO dr (jG PySem.F.plainAttrs_str PySem.F.slot_str_join PySem.F.type_str_join tN cw (av (jj ["part"] [(0,"self")] I (by decide+kernel) ⟨I,.inl I,trivial⟩ (kb (ai 1)) (fun _ _ _ _ _=>(eF (i:=0) (show(["part","self"]:List af).Nodup by decide+kernel))) (fun _ _ _ _ _=>iN) (fun _ _ _ _ _=>(aO dr cw (jh k4 az (et (ai 1) rfl) (av (ai 0) aA) (hk:=by omega))))) aA)) cw))),?_⟩
  try dsimp only[cQ,cR,cS,cT]
  refine⟨I,.inl ⟨_,I,a,I,⟨_,b1 dd⟩,fun eh gF=>?_⟩⟩
  refine x6 (K:=K) (a:=a) (xs:=vs) (fun k=>V.str (aV (ah::cb fw g (ds.getD k .bK)))) (fun ab=>∃z,ab=[z,J (.ref o)]) (fg (by omega)) ⟨_,I⟩ gF (b1 dd) ?_ ?_
  ·rintro k x ay cz H1 ⟨z,rfl⟩ gw R cJ
   obtain⟨lj,r9,IY⟩:=gK.get ds gH ay
   have e:ds.getD k .bK=lj:=by rw[fu,r9];rfl
   rw[e]at cJ
   have hm:lj∈ds:=kl r9
   have bj:=Gm (List.mem_map_of_mem (f:=fun d=>ah::cb fw g d) hm)
   rw[dZ]at bj
   refine⟨_,I,o,c.o 1,al,_,_,I,gw _ _ aK,T.cl,T.nI,hU ..,i,slot g,fK,fM,I,gw _ _ e3,li,?_⟩
   refine⟨_,I,i,g,x,lj,I,I,b0.keep (fun b u _ e=>gw b u e) g ez,iC,iB,h3.same gw lj IY,ib _ hm,by omega,.inr ⟨_,_,rfl,rfl,gT ?_,?_⟩⟩
   .rw[v8,cF,cF];simp only[dZ,List.length_nil];omega
   .rw[v8,hN];exact cJ _ ⟨_,I⟩
  ·have e:(List.range vs.length).map (fun k=>V.str (aV (ah::cb fw g (ds.getD k .bK))))=((ds.map fun d=>ah::cb fw g d).map aV).map V.str:=by
    rw[cL]
    apply List.ext_getElem
    .simp
    ·intro k aj aq
     have bl:k<ds.length:=by simpa using aq
     rw[ko,ko,ko,ko,List.getElem_range,fu,dR bl];rfl
   rw[e]
   refine⟨_,eh,_,I,I,b1 aQ,by rw[Gk];omega,.inr ⟨_,_,rfl,rfl,gT ?_,H,.refl (dq gF),?_⟩⟩
   .rw[tv,BK,cF,cF];omega
   .rw[tv,BK,hN];exact q
 |_=>cases aG
theorem Wx(nb:dW mg)(T:og K (c.t 0))(F:c5 K "written" "Record.written" A5 f fd)(k4:ij P w K mg base (2*n+4) "written" ["self","value"] (eO c) (jy has bL fw c n)):cq P w K mg base dv (2*n+4+1) f fd ["self","value"] (jy has bL fw c (n+1) (.t 0)):=by
 refine F.hV Wr (fun bh A _ s H vs Q E az h=>?_)
 obtain⟨o,ec,v,d,rfl,hs,bx,aP,cu,hd,aG,aB,q⟩:=h
 obtain⟨ns,fs,rfl⟩:=vY hs
 obtain⟨_,al,a1,a2,os,aK,_,_,aj,aq,ez⟩:=bx
 obtain⟨e9,mK,iC⟩:=aP.two
 have iB:hA fs<=n:=by rw[aT]at cu;omega
 have sh:=eL.len fs ez
 have y3:=(oo e9).1
 rw[c4]at aG
 rw[cb]at q aB
 have aG:JY (fL bL fs) d=ah:=aG
 cases d with
 | tup ds =>
  obtain⟨a,vs,rfl,dd,gH,kz⟩:=hd
  have sm:=gK.len ds gH
  have aG:fL bL fs ds=ah:=aG
  have fl:ds.length=fs.length:=Classical.byContradiction fun bo=>by rw[Gu bL fs ds bo]at aG;cases aG
  rw[Gv bL fs ds fl]at aG
  have ib:=jf.mp aG
  have q:Q (.str (aV (gh fw fs ds))) H:=q
  have aB:(gh fw fs ds).length<=15000000:=aB
  rw[MC fw fs ds fl]at q aB
  refine⟨_,(aS (bG (jG PySem.F.plainAttrs_str PySem.F.slot_str_join PySem.F.type_str_join tN cw (av (jj ["form","part"] [] I (by decide+kernel) trivial (NA I nb.Se (av (et (ai 0) I) (av (ai 1) aA))) (fun _ _ _ _ _=>(pE I (ji (eF (i:=0) (show(["form","part"]:List af).Nodup by decide+kernel)) (ji (eF (i:=1) (show(["form","part"]:List af).Nodup by decide+kernel)) pk)))) (fun _ _ _ _ _=>iN) (fun _ _ _ _ _=>(jh k4 az (ai 0) (av (ai 1) aA) (hk:=by omega)))) aA)))),?_⟩
  try dsimp only[cQ,cR,cS,cT]
  refine⟨I,_,I,o,c.t 0,al,_,_,I,aK,T.cl,T.q6,pV _ _ _ _ ue,_,I,a2,a,_,_,I,b1 aq,dk dd,fun eh gF=>?_⟩
  refine MW (fun k=>V.str (aV (cb fw (fs.getD k (.bare 0)) (ds.getD k .bK)))) (fun ab=>∃dh de,ab=[dh,de]) (by rw[cC];omega) ⟨_,_,I⟩ gF (b1 aq) (dk dd) ?_ ?_
  ·rintro k x y ay bP cz H1 tA ⟨dh,de,rfl⟩ gw r6 R cJ
   rw[gf]at ay
   obtain⟨uM,IP,rfl⟩:=Uf.mp ay
   obtain⟨ec,ur,yL⟩:=eL.get fs ez IP
   obtain⟨lj,r9,I0⟩:=gK.get ds gH bP
   obtain⟨oM,yX⟩:=iC.get ur
   have aI:fs.getD k (.bare 0)=ec:=by rw[fu,ur];rfl
   have aL:ds.getD k .bK=lj:=by rw[fu,r9];rfl
   have hk:k∈List.range fs.length:=List.mem_range.mpr (km.mp ur).1
   have yT:=ib k hk
   have bj:=Gm (List.mem_map_of_mem (f:=fun i=>cb fw (fs.getD i (.bare 0)) (ds.getD i .bK)) hk)
   rw[aI,aL]at cJ yT bj
   have uU:=gw.trans (dq (o:=c2.tup [V.ref uM,y]) r6)
   obtain⟨fK,fM,e3,li⟩:=b0.written ec (b0.keep (fun b u _ e=>uU b u e) ec yL)
   refine⟨tA,_,I,dk aQ,I,_,_,I,_,_,I,I,?_⟩
   refine⟨_,I,uM,slot ec,fK,fM,I,e3,li,?_⟩
   exact⟨_,I,uM,ec,y,lj,I,I,b0.keep (fun b u _ e=>uU b u e) ec yL,oM,by omega,h3.same uU lj I0,yT,by omega,cJ _ _ ⟨_,_,rfl⟩ (eb _)⟩
  ·intro H' uB oE
   have e:(List.range (min (os.map V.ref).length vs.length)).map (fun k=>V.str (aV (cb fw (fs.getD k (.bare 0)) (ds.getD k .bK))))=(((List.range fs.length).map fun k=>cb fw (fs.getD k (.bare 0)) (ds.getD k .bK)).map aV).map V.str:=by
    rw[cC,sm,sh,fl,Nat.min_self,iL,iL];rfl
   rw[e]at oE
   refine⟨_,eh,_,I,I,b1 oE,by rw[Gk];omega,H,.refl uB,?_⟩
   rw[tv];exact q
 |_=>cases aG
noncomputable def idxs(s t:af):List Nat:=t.cps.toList.map fun c=>s.cps.toList.idxOf c
inductive Ri(C:ae)(vs:List V)(H:au)(Q:bB)(E:bR):Prop where
 |mk (o al:ae) (s t:af) (bu:vs=[.ref o,.str t]) (aj:H o=J (.ins C al [("signs",.str s)])) (aq:nF t s=ah) (bl:t.length<=200) (bW:∀r,H r=aw->Q (.ref r) (upd H r (.lst ((idxs s t).map fun k=>V.int ((k:Nat):Int))))):Ri C vs H Q E
def JK(C:ae):b3:=fun vs H Q E=>Ri C vs H Q E
theorem Wy(T:tn K C)(F:c5 K "places" "Letters.places" A6 f fd):cq P w K mg base dv 1 f fd ["self","text"] (JK C):=by
 refine F.hV Ws (fun bh A _ s H vs Q E az h=>?_)
 obtain⟨o,al,aY,t,rfl,aK,hm,aB,q⟩:=h
 refine⟨_,(aS (bG (jj ["sign"] [(0,"self")] I (by decide+kernel) ⟨I,.inl I,trivial⟩ (kb (ai 1)) (fun _ _ _ _ _=>(eF (i:=0) (show(["sign","self"]:List af).Nodup by decide+kernel))) (fun _ _ _ _ _=>iN) (fun _ _ _ _ _=>(jG PySem.F.plainAttrs_str PySem.F.slot_str_index PySem.F.type_str_index Zi (et (ai 1) rfl) (av (ai 0) aA)))))),?_⟩
 try dsimp only[cQ,cR,cS,cT]
 refine .inr ⟨_,I,_,I,fun D dH=>?_⟩
 refine Nt (fun c=>V.int ((aY.cps.toList.idxOf c:Nat):Int)) (fun ab=>∃z,ab=[z,J (.ref o)]) (fg (by show t.length<=_;omega)) ⟨_,I⟩ dH ?_ ?_
 ·rintro ch hc cz H1 ⟨z,rfl⟩ gw R cJ
  refine⟨_,I,o,C,al,_,_,I,gw _ _ aK,T.cl,T.nJ,hU ..,?_⟩
  exact⟨I,_,I,aY,ch,I,I,lQ (jf.mp hm ch hc),cJ _ ⟨_,I⟩⟩
 ·refine⟨_,.new dH (dq dH) aQ trivial,?_⟩
  have q:=q D dH
  unfold idxs at q
  rw[iL]at q
  exact q
theorem Wo(nb:dW mg)(T:tn K c.l)(F:c5 K "written" "Letters.written" A3 f fd)(fm:fz K c.l)(xT:mm P w K mg base 1 c.l "places" ["self","text"] (JK c.l))(n1:bD P w K mg base 2 "fixed_row" ["n","most"] zO):cq P w K mg base dv 3 f fd ["self","value"] (jy has bL fw c n .l):=by
 refine F.hV LP (fun bh A _ s H vs Q E az h=>?_)
 obtain⟨o,ec,v,d,rfl,hs,bx,aP,cu,hd,aG,aB,q⟩:=h
 obtain⟨aY,rfl⟩:=GD hs
 obtain⟨_,al,aK⟩:=bx
 rw[c4]at aG
 rw[cb]at q aB
 cases d with
 | str t =>
  obtain⟨rfl,_⟩:=hd
  have aG:(decide (t.length<=200)&&nF t aY)=ah:=aG
  obtain⟨wK,hm⟩:=pw.mp aG
  have wK:=lQ wK
  have qY:kR aY=ah/\aY.length<=60:=by have:=aP.1;rw[fq]at this;exact this
  refine⟨_,(aM (bS 2 LP.bp (aO gp (cy d7 I nb.d1 d2 (av (et (ai 0) I) aA)) aD))
  (aS (bG (aO dr (jG PySem.F.plainAttrs_str PySem.F.slot_str_join PySem.F.type_str_join tN cw (av (jj ["place"] [(2,"most")] rfl (by decide+kernel) ⟨rfl,.inl rfl,trivial⟩ (kb (Gl xT fm az (ai 0) (av (ai 1) aA))) (fun _ _ _ _ _=>(eF (i:=0) (show(["place","most"]:List af).Nodup by decide+kernel))) (fun _ _ _ _ _=>iN) (fun _ _ _ _ _=>(aO dr cw (cj n1 az (av (ai 0) (av (ai 1) aA)))))) aA)) cw)))),?_⟩
  try dsimp only[cQ,cR,cS,cT]
  have q:Q (.str (aV ((t.cps.toList.map fun c=>ah::el (aY.cps.toList.idxOf c) (ba (aY.length-1))).flatten++[ag]))) H:=q
  have aB:((t.cps.toList.map fun c=>ah::el (aY.cps.toList.idxOf c) (ba (aY.length-1))).flatten++[ag]).length<=15000000:=aB
  rw[cD]at aB
  refine⟨_,I,o,c.l,al,_,_,I,aK,T.cl,T.nJ,hU ..,_,_,I,⟨fg (by omega),I⟩,_,_,I,I,?_⟩
  have agm:List.lookup (af.ofString "places") [(af.ofString "signs",V.str aY)]=aw:=by
   unfold List.lookup
   rw[show(af.ofString "places" == af.ofString "signs")=ag by decide+kernel]
   rfl
  refine⟨I,.inl ⟨_,I,o,al,_,I,aK,agm,_,I,o,al,aY,t,I,aK,hm,wK,fun r e4=>?_⟩⟩
  have amv:(idxs aY t).length=t.length:=by unfold idxs;rw[cC];exact h5
  refine⟨r,I,⟨_,b1 aQ⟩,fun eh gF=>?_⟩
  refine x6 (K:=K) (a:=r) (xs:=(idxs aY t).map fun k=>V.int ((k:Nat):Int)) (fun k=>V.str (aV (ah::el ((idxs aY t).getD k 0) (ba (aY.length-1))))) (fun ab=>∃z,ab=[z,J (V.int ((aY.length:Int)-1))]) (fg (by rw[cC];omega)) ⟨_,I⟩ gF (b1 aQ) ?_ ?_
  ·rintro k x ay cz H1 ⟨z,rfl⟩ gw R cJ
   rw[gf]at ay
   obtain⟨sq,pS,rfl⟩:=Uf.mp ay
   have e:(idxs aY t).getD k 0=sq:=by rw[fu,pS];rfl
   rw[e]at cJ
   have IE:=pS
   unfold idxs at IE
   rw[gf]at IE
   obtain⟨ch,nz,rfl⟩:=Uf.mp IE
   have hg:ch∈t.cps.toList:=kl nz
   have ac5:ch∈aY.cps.toList:=lQ (jf.mp hm ch hg)
   have jv:aY.cps.toList.idxOf ch<aY.length:=by
    have:=List.idxOf_lt_length_iff.mpr ac5
    rwa [h5]at this
   have bj:=Gm (List.mem_map_of_mem (f:=fun c=>ah::el (aY.cps.toList.idxOf c) (ba (aY.length-1))) hg)
   rw[dZ,la]at bj
   have aL:(aY.length:Int)-1=((aY.length-1:Nat):Int):=by omega
   refine⟨_,I,_,I,aY.cps.toList.idxOf ch,aY.length-1,by rw[<-aL];rfl,by omega,by omega,.inr ⟨_,_,rfl,rfl,gT ?_,?_⟩⟩
   .rw[v8,cF,cF,la];simp only[dZ,List.length_nil];omega
   .rw[v8,hN];exact cJ _ ⟨_,I⟩
  ·have e:(List.range ((idxs aY t).map fun k=>V.int ((k:Nat):Int)).length).map (fun k=>V.str (aV (ah::el ((idxs aY t).getD k 0) (ba (aY.length-1)))))=((t.cps.toList.map fun c=>ah::el (aY.cps.toList.idxOf c) (ba (aY.length-1))).map aV).map V.str:=by
    rw[cC]
    apply List.ext_getElem
    .unfold idxs;simp
    ·intro k aj aq
     have bl:k<t.cps.toList.length:=by simpa using aq
     have dS:(idxs aY t)[k]?=J (aY.cps.toList.idxOf t.cps.toList[k]):=by unfold idxs;rw[gf,dR bl];rfl
     rw[ko,ko,ko,ko,List.getElem_range,fu,dS];rfl
   rw[e]
   have ajn:=(dq (o:=c2.lst ((idxs aY t).map fun k=>V.int ((k:Nat):Int))) e4).trans (dq (o:=c2.lst (((t.cps.toList.map fun c=>ah::el (aY.cps.toList.idxOf c) (ba (aY.length-1))).map aV).map V.str)) gF)
   refine⟨_,eh,_,I,I,b1 aQ,by rw[Gk];omega,.inr ⟨_,_,rfl,rfl,gT ?_,H,.refl ajn,?_⟩⟩
   .rw[tv,BK,cF,cF];omega
   .rw[tv,BK,hN];exact q
 |_=>cases aG
noncomputable def Cs(m:Nat):D->Bool
 |.tup [.int p,.int q]=>decide (0<q/\c9 p q=1/\(eu p q).length<=m/\lP (eu p q))
 |_=>ag
noncomputable def jK:D->Bool:=Cs 310
noncomputable def pM:D->Bool:=Cs 290
theorem BF{bL:D->Bool}:∀(fs:List bF)(ns:List af)(n:af)(x:D),ns.length=fs.length->oB bL fs ns n x=ah->n∈ns
 |[],ns,n,x,_,h=>by rw[oB]at h;cases h
 |f::fs,[],n,x,aB,h=>by cases aB
 | f::fs,m::ns,n,x,aB,h=>by
  rw[oB]at h
  by_cases z:m=n
  .subst z;exact hM ..
  ·have h:(if J m=J n then _ else oB bL fs ns n x)=ah:=h
   rw[if_neg (fun e=>z (gX e))]at h
   exact fD _ (BF fs ns n x (by simpa using aB) h)
theorem v5{bL:D->Bool}{x:D}:∀(fs:List bF)(ns:List af)(n:af),n∈ns->ns.length=fs.length->oB bL fs ns n x=c4 bL (fs.getD (ns.idxOf n) (.bare 0)) x
 |[],[],n,h,_=>by cases h
 |f::fs,[],n,h,_=>by cases h
 |[],m::ns,n,_,h=>by cases h
 | f::fs,m::ns,n,h,aB=>by
  rw[oB]
  show(if J m=J n then _ else oB bL fs ns n x)=_
  by_cases z:m=n
  ·subst z
   rw[if_pos rfl,List.idxOf_cons_self];rfl
  .rw[if_neg (fun e=>z (gX e)),v5 fs ns n ((dz.mp h).resolve_left (ea z)) (by simpa using aB),List.idxOf_cons,beq_false_of_ne z];rfl
theorem eL.ge{c:dP}{X:List ae}{H:au}:∀(fs:List bF){os:List ae}{i:Nat}{f:bF},eL c X H fs os->fs[i]?=J f->∃o,os[i]?=J o/\b0 c X H f o
 |[],os,i,f,h,e=>by cases e
 |g::fs,os,0,f,h,e=>by
  obtain⟨ee,r,rfl,q,cN⟩:=h
  cases e
  exact⟨_,I,q⟩
 |g::fs,os,i+1,f,h,e=>by
  obtain⟨ee,r,rfl,q,cN⟩:=h
  obtain⟨v,aj,aq⟩:=eL.ge (os:=r) fs cN (show fs[i]?=J f from e)
  exact⟨v,aj,aq⟩
theorem Df(val:Nat->af):∀n i,i<n->val i∈gn val n
 |0,i,h=>by omega
 | n+1,i,h=>by
  unfold gn
  by_cases z:i=n
  ·subst z
   split
   .assumption
   .exact nf _ (fU.mpr I)
  ·have:=Df val n i (by omega)
   split
   .exact this
   .exact List.mem_append_left _ this
theorem x9(val:Nat->af):∀n,(gn val n).length=n->∀i j,i<j->j<n->val i≠val j
 |0,_,i,j,_,h=>by omega
 | n+1,h,i,j,ID,cv=>by
  unfold gn at h
  have hle:=yh val n
  by_cases z:val n∈gn val n
  .rw[if_pos z]at h;omega
  ·rw[if_neg z,cD,hL]at h
   by_cases alh:j=n
   ·subst alh
    exact fun e=>z (by rw[<-e];exact Df val j i ID)
   .exact x9 val n (by omega) i j ID (by omega)
theorem iQ:2<=bY:=by decide
theorem x1{n:af}(h:jP ns=ah)(e:ns[i]?=J n):ns.idxOf n=i:=by
 unfold jP at h
 simp only[hK,jJ]at h
 have hd:=h.1.2.2
 have aC:i<ns.length:=by
  rcases j4 i ns.length with z|z
  .exact z
  .rw[AZ z]at e;cases e
 have bo:ns[i]=n:=by rw[dR aC]at e;exact gX e
 have hm:n∈ns:=by rw[<-bo];exact List.getElem_mem aC
 have hk:=tD hm
 have uv:ns[ns.idxOf n]=n:=List.getElem_idxOf hk
 have g:∀k(hk:k<ns.length),ns.getD k af.empty=ns[k]:=fun k hk=>by rw[fu,dR hk];rfl
 rcases Nat.lt_trichotomy (ns.idxOf n) i with z|z|z
 .exact absurd (by rw[g _ hk,g _ aC,uv,bo]) (x9 _ _ hd _ _ z aC)
 .exact z
 .exact absurd (by rw[g _ hk,g _ aC,uv,bo]) (x9 _ _ hd _ _ z hk)
theorem C7{K:bN}{l:List V}{x:V}(h:H p=J (.lst l)\/H p=J (.tup l))(e:l[j]?=J x)(q:Q x H):(Jp K (.ref p) (.int ((j:Nat):Int)) H Q\/Jr K (.ref p) (.int ((j:Nat):Int)) H Q)\/Jq (.ref p) (.int ((j:Nat):Int)) H Q :=
 h.elim (fun rU =>.inl (.inl ⟨_,_,_,_,rfl,rfl,b1 rU,dA e,q⟩)) (fun gY =>.inl (.inr ⟨_,_,_,_,rfl,rfl,dk gY,dA e,q⟩))
theorem yb{fw:D->List Bool}{x:D}{M:Nat}:∀(fs:List bF)(ns:List af)(k:Nat)(n:af),n∈ns->ns.length=fs.length->ra fw fs ns k M n x=el (k+ns.idxOf n) (ba M)++cb fw (fs.getD (ns.idxOf n) (.bare 0)) x
 |[],[],k,n,h,_=>by cases h
 |f::fs,[],k,n,h,_=>by cases h
 |[],m::ns,k,n,_,h=>by cases h
 | f::fs,m::ns,k,n,h,aB=>by
  rw[ra]
  show(if J m=J n then _ else ra fw fs ns (k+1) M n x)=_
  by_cases z:m=n
  ·subst z
   rw[if_pos rfl,List.idxOf_cons_self];rfl
  .rw[if_neg (fun e=>z (gX e)),yb fs ns (k+1) n ((dz.mp h).resolve_left (ea z)) (by simpa using aB),List.idxOf_cons,beq_false_of_ne z,show k+1+ns.idxOf n=k+(ns.idxOf n+1) by omega];rfl
theorem Wz(nb:dW mg)(T:og K (c.t 1))(F:c5 K "written" "Choice.written" A7 f fd)(n1:bD P w K mg base 2 "fixed_row" ["n","most"] zO)(k4:ij P w K mg base (2*n+4) "written" ["self","value"] (eO c) (jy has bL fw c n)):cq P w K mg base dv (2*n+4+1) f fd ["self","value"] (jy has bL fw c (n+1) (.t 1)):=by
 refine F.hV LQ (fun bh A _ s H vs Q E az h=>?_)
 obtain⟨o,ec,v,d,rfl,hs,bx,aP,cu,hd,jt,cL,q⟩:=h
 obtain⟨ns,fs,rfl⟩:=vY hs
 obtain⟨_,al,jW,iU,os,aK,_,_,g1,g2,ez⟩:=bx
 obtain⟨e9,mK,iC⟩:=aP.two
 have iB:hA fs<=n:=by rw[aT]at cu;omega
 rw[c4,if_neg (by decide)]at jt
 unfold Ch at jt
 split at jt
 ·rename_i m x
  have hm:=BF fs ns _ _ mK jt
  rw[v5 fs ns _ hm mK]at jt
  obtain⟨t,_,rfl,e,⟨_,_,rfl,⟨rfl,_⟩,J3,_,rfl,ay,rfl⟩,_⟩:=hd
  have i0:cb fw (.two 1 ns fs) (.tup [.str m,x])=el (ns.idxOf m) (ba (fs.length-1))++cb fw (fs.getD (ns.idxOf m) (.bare 0)) x:=by
   rw[cb,if_neg (by decide)]
   show ra fw fs ns 0 _ m x=_
   rw[yb fs ns 0 m hm mK,Nat.zero_add]
  rw[i0]at cL q
  have hk:=tD hm
  have uw:ns[ns.idxOf m]?=J m:=by rw[dR hk,List.getElem_idxOf hk]
  have wX:ns.idxOf m<fs.length:=by omega
  have aG:=dR wX
  rw[fu,aG]at jt cL q
  obtain⟨oW,mL,ui⟩:=eL.ge fs ez aG
  obtain⟨oM,yX⟩:=iC.get aG
  obtain⟨fK,fM,e3,li⟩:=b0.written _ ui
  have a0:∀(x:V)(r:List V),eG (x::r) 0=J x:=fun x r=>dA (j:=0) rfl
  have a1:∀(x y:V)(r:List V),eG (x::y::r) 1=J y:=fun x y r=>dA (j:=1) rfl
  have y3:=(oo e9).1
  refine⟨_,(aM (bS 2 LQ.bp (jG PySem.F.plainAttrs_list PySem.F.slot_list_index PySem.F.type_list_index MI (et (ai 0) I) (av (cP cU (ai 1) aD) aA)))
  (aS (bG (aO dr (cj n1 az (av (ai 2) (av (aO gp (cy d7 rfl nb.d1 d2 (av (et (ai 0) rfl) aA)) aD) aA)) (hk:=by omega)) (jh k4 az (cP cU (et (ai 0) rfl) (ai 2)) (av (cP cU (ai 1) aD) aA) (hk:=by omega)))))),?_⟩
  try dsimp only[cQ,cR,cS,cT]
  refine⟨_,I,o,c.t 1,al,_,_,I,aK,T.cl,T.sv,hU ..,.inl ⟨I,_,b1 g1⟩,_,I,.inl (.inr ⟨_,_,_,_,I,I,dk e,a0 _ _,jW,ns,m,ns.idxOf m,I,I,g1,uw,(fun j cv hw=>by have:=x1 e9 hw;omega),by omega,?_⟩)⟩
  have oJ:(((ns.map V.str).length:Nat):Int)-1=((fs.length-1:Nat):Int):=by rw[cC];omega
  have ar:ba (fs.length-1)<=16000000:=by
   have:=eE (cD ▸ Nat.le_add_right _ _) cL
   rw[la]at this
   omega
  refine⟨_,I,_,I,o,c.t 1,al,_,_,I,aK,T.cl,T.sv,hU ..,_,_,I,.inl ⟨_,b1 g1,I⟩,_,_,I,I,ns.idxOf m,fs.length-1,by rw[<-oJ];rfl,by omega,ar,?_⟩
  refine⟨_,I,o,c.t 1,al,_,_,I,aK,T.cl,T.q6,pV _ _ _ _ ue,_,I,C7 (.inl g2) (show(os.map V.ref)[ns.idxOf m]?=J (V.ref oW) by rw[gf,mL];rfl) ⟨oW,slot _,fK,fM,rfl,e3,li,_,rfl,.inl (.inr ⟨_,_,_,_,rfl,rfl,dk e,a1 _ _ _,oW,_,J3,x,rfl,rfl,ui,oM,by omega,ay,jt,?_,?_⟩)⟩⟩
  ·rw[cD]at cL
   exact eE (Nat.le_add_left _ _) cL
  ·refine .inr ⟨_,_,I,I,?_,H,.refl (eb _),?_⟩
   ·rw[cF,cF,<-cD]
    exact gT (eE cL (by decide))
   ·rw[<-hN]at q
    exact q
 .cases jt
theorem V5:∀(n:Nat){p q:Int},q.toNat<=n->0<=q->(0<q\/0<=p)->c9 p q∣p/\c9 p q∣q/\0<=c9 p q:=by
 intro n
 induction n with
 |zero =>
  intro p q bu aj aq
  obtain rfl:q=0:=by omega
  rw[wa]
  exact⟨Int.dvd_refl _,Int.dvd_zero _,aq.elim (fun z=>by omega) id⟩
 | succ n cM =>
  intro p q bu aj aq
  by_cases aW:q=0
  ·subst aW
   rw[wa]
   exact⟨Int.dvd_refl _,Int.dvd_zero _,aq.elim (fun z=>by omega) id⟩
  ·have aW:0<q:=by omega
   rw[wg aW]
   have kX:=hu p (Int.ne_of_gt aW)
   have cK:=hJ p aW
   obtain⟨eY,iY,Ht⟩:=cM (p:=q) (q:=p%q) (by omega) kX (.inr aj)
   refine⟨?_,eY,Ht⟩
   have e:=Int.mul_ediv_add_emod p q
   have:c9 q (p%q)∣q*(p/q)+p%q:=Int.dvd_add (Int.dvd_mul_of_dvd_left eY) iY
   rwa [e]at this
theorem Lv{p q:Int}(aW:0<q)(h:Int.gcd p q=1):c9 p q=1:=by
 obtain⟨eY,iY,Ht⟩:=V5 q.toNat (cE _) (Int.le_of_lt aW) (.inl aW) (p:=p)
 have:=Int.dvd_coe_gcd eY iY
 rw[h]at this
 exact Int.eq_one_of_dvd_one Ht this
theorem Uk:∀(n:Nat){p q:Int},q.toNat<=n->0<=q->q<p->c9 p q=1->Tail (eu p q)/\cO (eu p q)=(p,q):=by
 have base:∀{p:Int},c9 p 0=1->Tail (eu p 0)/\cO (eu p 0)=(p,0):=fun{p}h=>by
  rw[wa]at h
  subst h
  rw[qs]
  exact⟨⟨(fun x ay=>nomatch ay),(fun z=>absurd I z)⟩,I⟩
 intro n
 induction n with
 |zero =>
  intro p q bu aj _ hc
  obtain rfl:q=0:=by omega
  exact base hc
 | succ n cM =>
  intro p q bu aj amm hc
  by_cases aW:q=0
  .subst aW;exact base hc
  have aW:0<q:=by omega
  rw[wg aW]at hc
  have kX:=hu p (Int.ne_of_gt aW)
  have cK:=hJ p aW
  have e:=Int.mul_ediv_add_emod p q
  have t3:1<=p/q:=Int.le_ediv_of_mul_le aW (by omega)
  obtain⟨t,f⟩:=cM (p:=q) (q:=p%q) (by omega) kX cK hc
  rw[lS aW]
  refine⟨⟨fun x ay=>?_,fun z=>?_⟩,?_⟩
  ·rcases dz.mp ay with y|y
   .rw[y];exact t3
   .exact t.1 x y
  ·by_cases az:eu q (p%q)=[]
   ·have Pq:p%q=0:=by
     by_cases y:p%q=0
     .exact y
     .rw[lS (by omega)]at az;cases az
    rw[Pq,wa]at hc
    subst hc
    have:(p/1::eu 1 (p%1)).getLast z=p/1:=by simp only[az,List.getLast_singleton]
    rw[this,Int.ediv_one];omega
   .rw[List.getLast_cons az];exact t.2 az
  ·rw[cO,f]
   show(p/q*q+p%q,q)=(p,q)
   rw[Int.mul_comm,e]
theorem Nh{p q:Int}(aW:0<q)(hc:c9 p q=1):Good (eu p q)/\cO (eu p q)=(p,q):=by
 rw[wg aW]at hc
 have kX:=hu p (Int.ne_of_gt aW)
 have cK:=hJ p aW
 obtain⟨t,f⟩:=Uk _ (cE _) kX cK hc
 rw[lS aW]
 refine⟨t,?_⟩
 rw[cO,f]
 show(p/q*q+p%q,q)=(p,q)
 rw[Int.mul_comm,Int.mul_ediv_add_emod]
theorem Vl:∀(k:Nat){p q:Int},0<=q->q<2^k->(eu p q).length<=2*k+1:=by
 intro k
 induction k with
 |zero =>
  intro p q bu aj
  have:q=0:=by omega
  subst this
  rw[qs];exact UF _
 | succ k cM =>
  intro p q bu aj
  by_cases aW:q=0
  .subst aW;rw[qs];exact UF _
  ·have aW:0<q:=by omega
   rw[lS aW,dZ]
   have kX:=hu p (Int.ne_of_gt aW)
   have cK:=hJ p aW
   generalize p%q=r at kX cK
   by_cases az:r=0
   .subst az;rw[qs];simp
   ·have az:0<r:=by omega
    rw[lS az,dZ]
    have t0:=hu q (Int.ne_of_gt az)
    have t1:=hJ q az
    have md:=Int.mul_ediv_add_emod q r
    have t3:1<=q/r:=Int.le_ediv_of_mul_le az (by omega)
    have amH:r*1<=r*(q/r):=Int.mul_le_mul_of_nonneg_left t3 (by omega)
    have e:(2:Int)^(k+1)=2^k*2:=Int.pow_succ ..
    have:=cM (p:=r) (q:=q%r) t0 (by omega)
    omega
theorem Ul{B:Int}:∀(n:Nat){p q:Int},q.toNat<=n->0<=q->-B<=p->p<=B->q<=B->∀x∈eu p q,-B<=x/\x<=B:=by
 intro n
 induction n with
 |zero =>
  intro p q bu aj _ _ _ x ay
  have:q=0:=by omega
  subst this
  rw[qs]at ay;cases ay
 | succ n cM =>
  intro p q bu aj aq bl bW x ay
  by_cases aW:q=0
  .subst aW;rw[qs]at ay;cases ay
  ·have aW:0<q:=by omega
   rw[lS aW]at ay
   rcases dz.mp ay with z|z
   ·subst z
    constructor
    ·refine Int.le_ediv_of_mul_le aW ?_
     have : -B*q<=-B*1:=Int.mul_le_mul_of_nonpos_left (by omega) (by omega)
     omega
    ·refine Int.ediv_le_of_le_mul aW ?_
     have:B*1<=B*q:=Int.mul_le_mul_of_nonneg_left (by omega) (by omega)
     omega
   ·have kX:=hu p (Int.ne_of_gt aW)
    have cK:=hJ p aW
    exact cM (by omega) kX (by omega) bW (by omega) x z
theorem M4(h:lP s):∀x∈s,x.natAbs<2^1000:=by
 intro x ay
 obtain⟨i,aC,rfl⟩:=List.mem_iff_getElem.mp ay
 have z:=h.at (dR aC)
 refine fB (m:=2^256) ?_ (Nat.pow_le_pow_right (by decide) (by decide))
 split at z
 .obtain⟨dh,de⟩:=z;omega
 .obtain⟨dh,de⟩:=z;omega
theorem Ge(h:Cs m d=ah):∃p q:Int,d=.tup [.int p,.int q]/\0<q/\c9 p q=1/\(eu p q).length<=m/\lP (eu p q):=by
 unfold Cs at h
 split at h
 ·rename_i p q
  obtain⟨aj,aq,bl,bW⟩:=lQ h
  exact⟨p,q,I,aj,aq,bl,bW⟩
 .cases h
theorem Mu(h:jK d=ah):∃p q:Int,d=.tup [.int p,.int q]/\0<q/\c9 p q=1/\(eu p q).length<=310/\lP (eu p q):=Ge h
theorem Ue{p q:Int}(aj:0<q)(aq:Int.gcd p q=1)(bl:p.natAbs<=10^38)(bW:q<=10^38):pM (.tup [.int p,.int q])=ah:=by
 have f3:(10:Int)^38<2^127:=by decide
 have pG:(2:Int)^127<2^254:=by decide
 refine d6 ⟨aj,Lv aj aq,?_,?_⟩
 .exact eE (Vl 127 (Int.le_of_lt aj) (by omega)) (by decide)
 ·have hs:=Ul (B:=10^38) q.toNat (cE _) (Int.le_of_lt aj) (p:=p) (by omega) (by omega) bW
  obtain⟨t,_⟩:=Nh aj (Lv aj aq)
  refine⟨fun x ay=>?_,fun x ay=>?_⟩
  ·have:=hs x (List.mem_of_mem_take ay)
   unfold iM;omega
  ·have:=hs x (List.mem_of_mem_drop ay)
   rw[lS aj]at t ay
   have:=t.1 x ay
   unfold h2;omega
theorem YO(nb:dW mg)(F:c5 K "fits" "Fraction.fits" Ao f fd)(m7:bD P w K mg base 1 "is_number" ["value"] zQ)(xG:bD P w K mg base 3 "has_fraction_row" ["fraction"] JE):cq P w K mg base dv 4 f fd ["self","value"] (i8 has jK c n (.b 3)):=by
 refine F.hV WG (fun bh A _ s H vs Q E az h=>?_)
 obtain⟨o,ec,v,d,rfl,hs,bx,aP,cu,hd,aG,q⟩:=h
 have:=nk hs
 subst this
 rw[yd]at aG
 have aG:jK d=ah:=by cases d<;>exact aG
 obtain⟨p,iV,rfl,aj,aq,bW,d0⟩:=Mu aG
 refine⟨_,(aM (cW (g9.pt (jb (kp (iu (cy ot I nb.hC hz (av (ai 1) (av (m9 (v :=.ty "tuple") I nb.uY tL I) aA))))) (k6 (cd sz (cy d7 I nb.d1 d2 (av (ai 1) aA)) aD)))) (aS (bG hy)) cV)
  (aS (bG (jl (cj m7 az (av (cP cU (ai 1) aD) aA)) (jl (cj m7 az (av (cP cU (ai 1) aD) aA)) (kq (cj xG az (av (ai 1) aA)))))))),_,rfl,.inl ⟨_,_,_,_,rfl,hd.ty,q5 K _ (by decide),_,rfl,?_⟩⟩
 obtain⟨a,vs,rfl,dd,⟨_,_,rfl,rfl,_,_,rfl,rfl,rfl⟩,kz⟩:=hd
 have a0:∀(x:V)(r:List V),eG (x::r) 0=J x:=fun x r=>dA (j:=0) rfl
 have a1:∀(x y:V)(r:List V),eG (x::y::r) 1=J y:=fun x y r=>dA (j:=1) rfl
 refine fb ⟨_,I,_,_,I,.inr ⟨_,dk dd,I⟩,I,_,I,I2 I ?_⟩
 refine⟨_,I,.inl (.inr ⟨_,_,_,_,I,I,dk dd,a0 _ _,_,.int p,I,I,ah,I,gQ ?_⟩)⟩
 refine⟨_,I,.inl (.inr ⟨_,_,_,_,I,I,dk dd,a1 _ _ _,_,.int iV,I,I,ah,I,gQ ?_⟩)⟩
 refine⟨_,I,a,p,iV,I,dd,fun _=>⟨by omega,M4 d0⟩,H,.refl (eb _),?_⟩
 rw[d6 ⟨aj,aq,d0⟩];exact q
noncomputable def dw:D->List Bool
 |.tup [.int p,.int q]=>l0 (eu p q)
 |_=>[]
theorem Zv(h:Good s):dw (.tup [.int (cO s).1,.int (cO s).2])=l0 s:=by
 show l0 (eu _ _)=_
 rw[h.eu.2]
theorem Wl(F:c5 K "written" "Fraction.written" A9 f fd)(rp:bD P w K mg base 1 "steps_of" ["fraction"] DC)(xH:bD P w K mg base 4 "row_of_steps" ["steps"] JM):cq P w K mg base dv 5 f fd ["self","value"] (jy has jK dw c n (.b 3)):=by
 refine F.hV Wj (fun bh A _ s H vs Q E az h=>?_)
 obtain⟨o,ec,v,d,rfl,hs,bx,aP,cu,hd,aG,aB,q⟩:=h
 have:=nk hs
 subst this
 rw[yd]at aG
 have aG:jK d=ah:=by cases d<;>exact aG
 obtain⟨p,iV,rfl,aj,aq,bW,d0⟩:=Mu aG
 rw[cb]at q
 obtain⟨a,vs,rfl,dd,⟨_,_,rfl,rfl,_,_,rfl,rfl,rfl⟩,kz⟩:=hd
 refine⟨_,(aS (bG (cj xH az (av (cj rp az (av (ai 1) aA)) aA)))),?_⟩
 try dsimp only[cQ,cR,cS,cT]
 refine⟨_,I,a,p,iV,I,dd,Int.le_of_lt aj,by omega,M4 d0,fun r e4=>?_⟩
 exact⟨r,_,I,aQ,by rw[lS aj];exact ng _ _,by omega,d0,H,.refl (dq e4),q⟩
theorem Z4(nb:dW mg)(T:og K (c.t 1))(F:c5 K "fits" "Choice.fits" AN f fd)(iX:ij P w K mg base (2*n+4) "fits" ["self","value"] (eO c) (i8 has bL c n)):cq P w K mg base dv (2*n+4+1) f fd ["self","value"] (i8 has bL c (n+1) (.t 1)):=by
 refine F.hV Xh (fun bh A _ s H vs Q E az h=>?_)
 obtain⟨o,ec,v,d,rfl,hs,bx,aP,cu,hd,aG,q⟩:=h
 obtain⟨ns,fs,rfl⟩:=vY hs
 obtain⟨_,al,jW,iU,os,aK,_,_,g1,g2,ez⟩:=bx
 obtain⟨e9,mK,iC⟩:=aP.two
 have iB:hA fs<=n:=by rw[aT]at cu;omega
 have y3:=(oo e9).1
 rw[c4,if_neg (by decide)]at aG
 refine⟨_,(aM (cW (g9.pt (jb (kp (iu (cy ot I nb.hC hz (av (ai 1) (av (m9 (v :=.ty "tuple") I nb.uY tL I) aA))))) (jb (cd sz (cy d7 I nb.d1 d2 (av (ai 1) aA)) aD) (k6 (GI (ZO (Qg az)) (cP cU (ai 1) aD) (et (ai 0) I) (by with_unfolding_all rfl)))))) (aS (bG hy)) cV)
  (aS (bG (jh iX az (cP cU (et (ai 0) rfl) (jG PySem.F.plainAttrs_list PySem.F.slot_list_index PySem.F.type_list_index MI (et (ai 0) rfl) (av (cP cU (ai 1) aD) aA))) (av (cP cU (ai 1) aD) aA) (hk:=by omega))))),_,rfl,.inl ⟨_,_,_,_,rfl,hd.ty,q5 K d (by decide),_,rfl,?_⟩⟩
 unfold Ch at aG
 split at aG
 ·rename_i m x
  obtain⟨a,vs,rfl,dd,⟨v0,_,rfl,bu,J3,_,rfl,ay,rfl⟩,kz⟩:=hd
  have hm:=BF fs ns m x mK aG
  have a0:∀(x:V)(r:List V),eG (x::r) 0=J x:=fun x r=>dA (j:=0) rfl
  have a1:∀(x y:V)(r:List V),eG (x::y::r) 1=J y:=fun x y r=>dA (j:=1) rfl
  refine fb ⟨_,I,_,_,I,.inr ⟨_,dk dd,I⟩,I,_,I,I2 I ?_⟩
  refine⟨_,I,.inl (.inr ⟨_,_,_,_,I,I,dk dd,a0 _ _,_,I,o,c.t 1,al,_,_,I,aK,T.cl,T.sv,hU ..,jW,ns,.str m,I,b1 g1,bu,_,I,?_⟩)⟩
  obtain⟨rfl,_⟩:=bu
  have e3:inD ns (.str m)=ah:=List.any_eq_true.mpr ⟨m,hm,by simp⟩
  rw[e3]
  have hk:=tD hm
  have uw:ns[ns.idxOf m]?=J m:=by rw[dR hk,List.getElem_idxOf hk]
  have wX:ns.idxOf m<fs.length:=by omega
  have aH:=dR wX
  rw[v5 fs ns m hm mK,fu,aH]at aG
  obtain⟨oW,mL,ui⟩:=eL.ge fs ez aH
  obtain⟨oM,yX⟩:=iC.get aH
  obtain⟨fK,fM,abF,li⟩:=b0.fits _ ui
  refine fb ⟨_,I,o,c.t 1,al,_,_,I,aK,T.cl,T.q6,pV _ _ _ _ ue,_,I,o,c.t 1,al,_,_,I,aK,T.cl,T.sv,hU ..,.inl ⟨I,_,b1 g1⟩,_,I,.inl (.inr ⟨_,_,_,_,I,I,dk dd,a0 _ _,jW,ns,m,ns.idxOf m,I,I,g1,uw,(fun j cv hw=>by have:=x1 e9 hw;omega),by omega,?_⟩)⟩
  exact C7 (.inl g2) (show(os.map V.ref)[ns.idxOf m]?=J (V.ref oW) by rw[gf,mL];rfl) ⟨oW,slot _,fK,fM,rfl,abF,li,_,rfl,.inl (.inr ⟨_,_,_,_,rfl,rfl,dk dd,a1 _ _ _,oW,_,J3,x,rfl,rfl,ui,oM,by omega,ay,aG,H,.refl (eb _),q⟩)⟩
 .cases aG
theorem F1{K:bN}{a:ae}{g:gW}{D:ae}(Inv:Nat->List V->au->Prop)(S:St->Prop)(bC:xs.length<=100000)(bu:S gJ)
  (aB:∀i bb ax,Inv i bb ax->dE K ax a xs) (aj:Inv 0 [] (upd H D (.lst [])))
  (aT:∀i x,xs[i]?=J x->∀bb cz H1,S cz->Inv i bb H1->H1 D=J (.lst bb)->bb.length=i->∀R:St->V->au->Prop,(∀b7 y bA,S b7->bA D=J (.lst bb)->Inv (i+1) (bb++[y]) (upd bA D (.lst (bb++[y])))->R b7 y bA)->g x cz H1 fun b7 ax=>cG b7 ax fun y bA=>R b7 y bA)
  (aW:∀(bb:List V)(H':au),bb.length=xs.length->H' D=J (.lst bb)->Inv xs.length bb H'->Q (.ref D) H') :
  qk (rx K a) g sU cG Q gJ H D:=by
 refine⟨fun i m cz ax=>i<=xs.length/\m=xs.length-i/\S cz/\∃bb:List V,bb.length=i/\ax D=J (.lst bb)/\Inv i bb ax,⟨xs.length,UF _,I,bu,[],I,aQ,aj⟩,?_⟩
 rintro i m cz ax ⟨aC,rfl,aq,bb,bP,mD,ck⟩
 have ju:=aB i bb ax ck
 rcases j4 i xs.length with z|z
 ·refine .inr ⟨⟨xs,xs[i],ju,dR z⟩,?_⟩
  rintro x bA ⟨rfl,ay⟩
  have ay:=ay xs ju
  refine aT i x ay bb cz _ aq ck mD bP (fun b7 y fS=>∃zs b8,fS D=J (.lst zs)/\zs.length<bY/\b8<xs.length-i/\(i+1<=xs.length/\b8=xs.length-(i+1)/\S b7/\∃ws:List V,ws.length=i+1/\upd fS D (.lst (zs++[y])) D=J (.lst ws)/\Inv (i+1) ws (upd fS D (.lst (zs++[y]))))) fun b7 y fS gq HZ H3=>?_
  exact⟨bb,xs.length-(i+1),HZ,fB (show bb.length<100000 by omega) (by decide),by omega,by omega,rfl,gq,bb++[y],by rw[cD,bP];rfl,aQ,H3⟩
 ·have e:i=xs.length:=by omega
  subst e
  exact .inl ⟨⟨xs,ju,cE _⟩,aW bb ax bP mD ck⟩
noncomputable def jo(s:List Int):D :=.tup [.int (cO s).1,.int (cO s).2]
noncomputable def nq(N:Nat)(e:Bool)(k:Fin 4)(s:List Bool):R D :=
 if k=0 then .ok .bK s else if k=1 then(eY e ag s).bd fun b s =>.ok (.aN b) s else if k=2 then(ku e s).bd fun n s =>.ok (.int n) s else(kP N e s).bd fun st s =>.ok (jo st) s
noncomputable def iZ(e:Bool)(aY:af):Nat->List Nat->List Bool->R (List Nat)
 |0,_,_ =>.st
 |m+1,w,s=>(eY e ag s).bd fun b s=>if b=ah then(if w.length=200 then .no ah s.length else(fx e (aY.length-1) (ba (aY.length-1)) 0 s).bd fun i s=>iZ e aY m (w++[aY.cps.toList.getD i 0]) s)else .ok w s
noncomputable def hO(e:Bool)(g:List Bool->R D):Nat->List D->List Bool->R (List D)
 |0,_,_ =>.st
 |m+1,ds,s=>(eY e ag s).bd fun b s=>if b=ah then(if ds.length=60 then .no ah s.length else(g s).bd fun d s=>hO e g m (ds++[d]) s)else .ok ds s
noncomputable def nK(e:Bool)(k:Fin 3)(g:List Bool->R D)(s:List Bool):R D :=
 if k=0 then(eY e ag s).bd fun b s=>if b=ah then(g s).bd fun d s =>.ok (.tup [d]) s else .ok (.tup []) s
 else if k=1 then(hO e g 61 [] s).bd fun ds s =>.ok (.lst ds) s else(g (s.map (!·))).bV
mutual
noncomputable def bT(N:Nat)(e:Bool):bF->List Bool->R D
 |.bare k,s=>nq N e k s
 |.sp a b,s=>(fx e (b-a).toNat (ba (b-a).toNat) 0 s).bd fun n s =>.ok (.int (a+((n:Nat):Int))) s
 |.le aY,s=>(iZ e aY 201 [] s).bd fun w s =>.ok (.str ⟨w.toArray⟩) s
 |.one k f,s=>nK e k (bT N e f) s
 |.two k ns fs,s=>if k=0 then(ff N e fs s).bd fun ds s =>.ok (.tup ds) s else(fx e (fs.length-1) (ba (fs.length-1)) 0 s).bd fun i s=>(eR N e fs i s).bd fun d s =>.ok (.tup [.str (ns.getD i af.empty),d]) s
noncomputable def ff(N:Nat)(e:Bool):List bF->List Bool->R (List D)
 |[],s =>.ok [] s
 |f::fs,s=>(bT N e f s).bd fun d s=>(ff N e fs s).bd fun ds s =>.ok (d::ds) s
noncomputable def eR(N:Nat)(e:Bool):List bF->Nat->List Bool->R D
 |[],_,_ =>.st
 |f::fs,i,s=>match i with|0=>bT N e f s|i+1=>eR N e fs i s
end
theorem Nz{N:Nat}{e:Bool}:∀(fs:List bF)(i:Nat)(s:List Bool),i<fs.length->eR N e fs i s=bT N e (fs.getD i (.bare 0)) s
 |[],i,s,h=>absurd h (by simp)
 |f::fs,0,s,_=>by rw[eR];rfl
 |f::fs,i+1,s,h=>by
  rw[eR]
  exact Nz fs i s (by simpa using h)
theorem GV(aY:af):∀m w,cg (iZ ag aY m w)
 |0,w=>cg.stuck
 |m+1,w=>(mx ag).bd fun b=>cg.ite (cg.ite cg.kd ((tO _ _ _).bd fun i=>GV aY m _)) (cg.pure w)
theorem Gw{g:List Bool->R D}(aH:cg g):∀m ds,cg (hO ag g m ds)
 |0,w=>cg.stuck
 |m+1,w=>(mx ag).bd fun b=>cg.ite (cg.ite cg.kd (aH.bd fun i=>Gw aH m _)) (cg.pure w)
theorem aau(N:Nat)(k:Fin 4):cg (nq N ag k):=cg.ite (cg.pure _) (cg.ite ((mx ag).bd fun b=>cg.pure _) (cg.ite (Cj.bd fun b=>cg.pure _) ((Np N).bd fun b=>cg.pure _)))
theorem TY(k:Fin 3)(aH:cg g):cg (nK ag k g):=cg.ite ((mx ag).bd fun b=>cg.ite (aH.bd fun d=>cg.pure _) (cg.pure _)) (cg.ite ((Gw aH 61 []).bd fun b=>cg.pure _) aH.bV)
mutual
theorem rN(N:Nat):∀f:bF,cg (bT N ag f)
 |.bare k=>(aau N k).of fun s=>by rw[bT]
 |.sp a b=>((tO (b-a).toNat (ba (b-a).toNat) 0).bd fun n=>cg.pure (D.int (a+((n:Nat):Int)))).of fun s=>by rw[bT]
 |.le aY=>((GV aY 201 []).bd fun w=>cg.pure (D.str ⟨w.toArray⟩)).of fun s=>by rw[bT]
 |.one k f=>(TY k (rN N f)).of fun s=>by rw[bT]
 |.two k ns fs=>(cg.ite (c:=k=0) ((B2 N fs).bd fun ds=>cg.pure (D.tup ds)) ((tO (fs.length-1) (ba (fs.length-1)) 0).bd fun i=>(G7 N fs i).bd fun d=>cg.pure (D.tup [.str (ns.getD i af.empty),d]))).of fun s=>by rw[bT]
theorem B2(N:Nat):∀fs:List bF,cg (ff N ag fs)
 |[]=>(cg.pure ([]:List D)).of fun s=>by rw[ff]
 |f::fs=>((rN N f).bd fun d=>(B2 N fs).bd fun ds=>cg.pure (d::ds)).of fun s=>by rw[ff]
theorem G7(N:Nat):∀(fs:List bF)(i:Nat),cg (eR N ag fs i)
 |[],i=>cg.stuck.of fun s=>by rw[eR]
 |f::fs,0=>(rN N f).of fun s=>by rw[eR]
 |f::fs,i+1=>(G7 N fs i).of fun s=>by rw[eR]
end
theorem Yl(h:kR aY=ah)(aC:i<aY.length):aY.cps.toList.idxOf (aY.cps.toList.getD i 0)=i:=by
 unfold kR at h
 simp only[hK,jJ]at h
 have hd:=h.1.2.2
 have sd:i<aY.cps.toList.length:=by rw[h5];exact aC
 have g:∀k,signsOf aY k=⟨#[aY.cps.toList.getD k 0]⟩:=fun k=>by
  unfold signsOf
  rw[Array.getD_eq_getD_getElem?,fu,Array.getElem?_toList]
 obtain⟨c,hc⟩:∃c,c=aY.cps.toList.getD i 0:=⟨_,rfl⟩
 rw[<-hc]
 have hm:c∈aY.cps.toList:=by
  rw[hc,fu,dR sd];exact List.getElem_mem sd
 have hk:=tD hm
 have uv:aY.cps.toList.getD (aY.cps.toList.idxOf c) 0=c:=by
  rw[fu,dR hk];exact List.getElem_idxOf hk
 rw[h5]at hk
 rcases Nat.lt_trichotomy (aY.cps.toList.idxOf c) i with z|z|z
 .exact absurd (by rw[g,g,uv,<-hc]) (x9 _ _ hd _ _ z aC)
 .exact z
 .exact absurd (by rw[g,g,uv,<-hc]) (x9 _ _ hd _ _ z hk)
theorem Md(h:kR aY=ah):0<aY.length:=by
 unfold kR at h
 simp only[hK,jJ]at h
 omega
theorem VY{c:Nat}(h:c∈aY.cps.toList):aY.cps.toList.idxOf c<aY.length:=by
 have:=tD h
 rwa [h5]at this
theorem Lm{e:Bool}{aY:af}:∀(cs:List Nat)(m:Nat)(w:List Nat)(r:List Bool),cs.length<m->w.length+cs.length<=200->(∀c∈cs,c∈aY.cps.toList)->iZ e aY m w ((cs.map fun c=>ah::el (aY.cps.toList.idxOf c) (ba (aY.length-1))).flatten++([ag]++r))=.ok (w++cs) r
 |cs,0,w,r,h,_,_=>absurd h (by omega)
 |[],m+1,w,r,_,_,_=>by
  show R.ok w r=_
  rw[List.append_nil]
 | c::cs,m+1,w,r,h,hw,hc=>by
  rw[dZ]at h hw
  have hm:=hc c (hM ..)
  have aC:=VY hm
  rw[je,nh,List.cons_append,List.cons_append]
  show(if w.length=200 then _ else(fx e (aY.length-1) (ba (aY.length-1)) 0 _).bd _)=_
  rw[if_neg (by omega),e2,GW (by omega)]
  show iZ e aY m (w++[aY.cps.toList.getD (aY.cps.toList.idxOf c) 0]) _=_
  have uv:aY.cps.toList.getD (aY.cps.toList.idxOf c) 0=c:=by
   rw[fu,dR (tD hm)];exact List.getElem_idxOf _
  rw[uv,Lm cs m _ r (by omega) (by rw[cD,hL];omega) (fun x ay=>hc x (fD _ ay)),e2];rfl
theorem NK{e:Bool}{g:List Bool->R D}{row:D->List Bool}:∀(ds:List D)(m:Nat)(w:List D)(r:List Bool),ds.length<m->w.length+ds.length<=60->(∀d∈ds,∀r,g (row d++r)=.ok d r)->hO e g m w ((ds.map fun d=>ah::row d).flatten++([ag]++r))=.ok (w++ds) r
 |ds,0,w,r,h,_,_=>absurd h (by omega)
 |[],m+1,w,r,_,_,_=>by
  show R.ok w r=_
  rw[List.append_nil]
 |d::ds,m+1,w,r,h,hw,aH=>by
  rw[dZ]at h hw
  rw[je,nh,List.cons_append,List.cons_append]
  show(if w.length=60 then _ else(g _).bd _)=_
  rw[if_neg (by omega),e2,aH d (hM ..)]
  show hO e g m (w++[d]) _=_
  rw[NK ds m _ r (by omega) (by rw[cD,hL];omega) (fun x ay=>aH x (fD _ ay)),e2];rfl
def xY(N:Nat)(bL:D->Bool):Prop:=∀d,bL d=ah->∃s,Good s/\s.length<=N/\lP s/\d=jo s/\dw d=l0 s
theorem V8(h:lP s):vp (s.drop 1):=fun y bP=>by
 obtain⟨aj,aq⟩:=h.2 y bP
 exact⟨by omega,by omega⟩
theorem Uy{bL:D->Bool}(aX:xY N bL)(k:Fin 4)(d:D)(r:List Bool)(h:Ce bL k d=ah):nq N e k (Cf dw k d++r)=.ok d r:=by
 rcases ub k with rfl|rfl|rfl|rfl
 ·cases d with
  |bK=>rfl
  |_=>cases h
 ·cases d with
  |aN b=>rfl
  |_=>cases h
 ·cases d with
  |int i =>
   have h:iM i:=lQ h
   show(ku e (iW i++r)).bd _=_
   rw[LH h];rfl
  |_=>cases h
 ·have h:bL d=ah:=by cases d<;>exact h
  have i0:Cf dw 3 d=dw d:=by cases d<;>rfl
  obtain⟨s,aj,aq,bl,bW,d0⟩:=aX d h
  rw[i0,d0]
  show(kP N e (l0 s++r)).bd _=_
  rw[Vq aj aq bl.1 (V8 bl),bW];rfl
theorem U4{row:D->List Bool}(aH:∀d r,fit d=ah->g (row d++r)=.ok d r)(k:Fin 3)(d:D)(r:List Bool)(h:Jj k fit d=ah):nK e k g (Dn k row d++r)=.ok d r:=by
 rcases rZ k with rfl|rfl|rfl
 ·change xc fit d=ah at h
  unfold xc at h
  split at h
  .rfl
  ·rename_i x
   show(g (row x++r)).bd _=_
   rw[aH x r h];rfl
  .cases h
 ·change zo fit d=ah at h
  unfold zo at h
  split at h
  ·rename_i ds
   obtain⟨aj,aq⟩:=pw.mp h
   have aj:=lQ aj
   have aq:=jf.mp aq
   show(hO e g 61 [] (((ds.map fun d=>ah::row d).flatten++[ag])++r)).bd _=_
   rw[e2,NK ds 61 [] r (by omega) (by simpa using aj) (fun d hd r=>aH d r (aq d hd))];rfl
  .cases h
 ·have h:fit d=ah:=h
  show(g (((row d).map (!·)++r).map (!·))).bV=_
  rw[fk,nn,aH d _ h]
  show R.ok d _=_
  rw[nn]
mutual
theorem yu{N:Nat}{e:Bool}{bL:D->Bool}(aX:xY N bL):∀(f:bF)(d:D)(r:List Bool),fq f->c4 bL f d=ah->bT N e f (cb dw f d++r)=.ok d r
 |.bare k,d,r,_,h=>by
  rw[c4]at h
  rw[bT,cb]
  exact Uy aX k d r h
 | .sp a b,d,r,hk,h=>by
  rw[fq]at hk
  rw[c4]at h
  rw[bT,cb]
  cases d with
  |int i =>
   have h:a<=i/\i<=b:=lQ h
   show(fx e _ _ 0 (el (i-a).toNat (ba (b-a).toNat)++r)).bd _=_
   rw[GW (by omega)]
   show R.ok (D.int (a+(((i-a).toNat:Nat):Int))) r=_
   rw[show a+(((i-a).toNat:Nat):Int)=i by omega]
  |_=>cases h
 | .le aY,d,r,hk,h=>by
  rw[c4]at h
  rw[bT,cb]
  cases d with
  |str w =>
   have h:(decide (w.length<=200)&&nF w aY)=ah:=h
   obtain⟨wK,hm⟩:=pw.mp h
   have wK:=lQ wK
   have aB:w.cps.toList.length=w.length:=h5
   show(iZ e aY 201 [] (((w.cps.toList.map fun c=>ah::el (aY.cps.toList.idxOf c) (ba (aY.length-1))).flatten++[ag])++r)).bd _=_
   rw[e2,Lm w.cps.toList 201 [] r (by omega) (by simpa using (show w.cps.toList.length<=200 by omega)) (fun c hc=>lQ (jf.mp hm c hc))]
   rfl
  |_=>cases h
 |.one k f,d,r,hk,h=>by
  rw[fq]at hk
  rw[c4]at h
  rw[bT,cb]
  exact U4 (fun d r h=>yu aX f d r hk h) k d r h
 | .two k ns fs,d,r,hk,h=>by
  rw[fq]at hk
  obtain⟨e9,cL,qW⟩:=hk
  rw[c4]at h
  rw[bT,cb]
  by_cases z:k=0
  ·rw[if_pos z]at h ⊢
   rw[if_pos z]
   cases d with
   |tup ds =>
    show(ff N e fs (gh dw fs ds++r)).bd _=_
    rw[LA aX fs ds r qW h];rfl
   |_=>cases h
  ·rw[if_neg z]at h ⊢
   rw[if_neg z]
   unfold Ch at h
   split at h
   ·rename_i n x
    have sg:=BF fs ns n x cL h
    rw[v5 fs ns n sg cL]at h
    show(fx e _ _ 0 (ra dw fs ns 0 (fs.length-1) n x++r)).bd _=_
    have aC:=tD sg
    rw[yb fs ns 0 n sg cL,Nat.zero_add,e2,GW (by omega)]
    show(eR N e fs (ns.idxOf n) _).bd _=_
    rw[LC aX fs (ns.idxOf n) x r qW (by omega) h]
    show R.ok (D.tup [.str (ns.getD (ns.idxOf n) af.empty),x]) r=_
    rw[fu,dR aC,List.getElem_idxOf aC];rfl
   .cases h
theorem LA{N:Nat}{e:Bool}{bL:D->Bool}(aX:xY N bL):∀(fs:List bF)(ds:List D)(r:List Bool),fF fs->fL bL fs ds=ah->ff N e fs (gh dw fs ds++r)=.ok ds r
 |[],[],r,_,h=>by
  rw[ff,gh];rfl
 |[],d::ds,r,_,h=>by
  rw[fL]at h;cases h
 |f::fs,[],r,hk,h=>by rw[fL]at h;cases h
 |f::fs,d::ds,r,hk,h=>by
  rw[fF]at hk
  rw[fL]at h
  rw[ff,gh]
  have h:(c4 bL f d&&fL bL fs ds)=ah:=h
  obtain⟨aj,aq⟩:=pw.mp h
  show(bT N e f ((cb dw f d++gh dw fs ds)++r)).bd _=_
  rw[e2,yu aX f d _ hk.1 aj]
  show(ff N e fs _).bd _=_
  rw[LA aX fs ds r hk.2 aq];rfl
theorem LC{N:Nat}{e:Bool}{bL:D->Bool}(aX:xY N bL):∀(fs:List bF)(i:Nat)(d:D)(r:List Bool),fF fs->i<fs.length->c4 bL (fs.getD i (.bare 0)) d=ah->eR N e fs i (cb dw (fs.getD i (.bare 0)) d++r)=.ok d r
 |[],i,d,r,_,h,_=>absurd h (by simp)
 |f::fs,0,d,r,hk,_,h=>by
  rw[fF]at hk
  rw[eR]
  exact yu aX f d r hk.1 h
 |f::fs,i+1,d,r,hk,aC,h=>by
  rw[fF]at hk
  rw[eR]
  exact LC aX fs i d r hk.2 (by simpa using aC) h
end
theorem Ll{aY:af}(aH:kR aY=ah):∀{m:Nat}{w v:List Nat}{s r:List Bool},w.length<=200->iZ ag aY m w s=.ok v r->∃cs,v=w++cs/\v.length<=200/\(∀c∈cs,c∈aY.cps.toList)/\s=(cs.map fun c=>ah::el (aY.cps.toList.idxOf c) (ba (aY.length-1))).flatten++([ag]++r)
 |0,w,v,s,r,_,h=>(nomatch h)
 | m+1,w,v,s,r,hw,h=>by
  obtain⟨b,s1,aj,h⟩:=eM h
  rw[oy aj]
  cases b with
  |false =>
   injection h with aI aL
   subst aI aL
   exact⟨[],by rw[List.append_nil],hw,(fun c hc=>nomatch hc),rfl⟩
  | true =>
   have h:(if w.length=200 then R.no ah s1.length else(fx ag (aY.length-1) (ba (aY.length-1)) 0 s1).bd fun i s=>iZ ag aY m (w++[aY.cps.toList.getD i 0]) s)=_:=h
   by_cases z:w.length=200
   .rw[if_pos z]at h;cases h
   ·rw[if_neg z]at h
    obtain⟨i,s2,aq,h⟩:=eM h
    obtain⟨ew,eA,oR⟩:=B8 (UF _) aq
    obtain⟨cs,fl,gv,fX,mz⟩:=Ll aH (by rw[cD,hL];omega) h
    have bj:=Md aH
    have ay:=Yl aH (i:=i) (by omega)
    refine⟨aY.cps.toList.getD i 0::cs,by rw[fl,e2];rfl,gv,fun c hc=>?_,?_⟩
    ·rcases dz.mp hc with rfl|q
     ·have sd:i<aY.cps.toList.length:=by rw[h5];show i<aY.length;omega
      rw[fu,dR sd];exact List.getElem_mem sd
     .exact fX c q
    ·rw[je,nh,ay,oR,mz]
     simp only[e2,List.cons_append]
theorem NJ{g:List Bool->R D}{fit:D->Bool}{row:D->List Bool}(aH:∀s d r,g s=.ok d r->fit d=ah/\s=row d++r):∀{m:Nat}{w v:List D}{s r:List Bool},w.length<=60->hO ag g m w s=.ok v r->∃ds,v=w++ds/\v.length<=60/\(∀d∈ds,fit d=ah)/\s=(ds.map fun d=>ah::row d).flatten++([ag]++r)
 |0,w,v,s,r,_,h=>(nomatch h)
 | m+1,w,v,s,r,hw,h=>by
  obtain⟨b,s1,aj,h⟩:=eM h
  rw[oy aj]
  cases b with
  |false =>
   injection h with aI aL
   subst aI aL
   exact⟨[],by rw[List.append_nil],hw,(fun c hc=>nomatch hc),rfl⟩
  | true =>
   have h:(if w.length=60 then R.no ah s1.length else(g s1).bd fun d s=>hO ag g m (w++[d]) s)=_:=h
   by_cases z:w.length=60
   .rw[if_pos z]at h;cases h
   ·rw[if_neg z]at h
    obtain⟨d,s2,aq,h⟩:=eM h
    obtain⟨ew,oR⟩:=aH _ _ _ aq
    obtain⟨cs,fl,gv,fX,mz⟩:=NJ aH (by rw[cD,hL];omega) h
    refine⟨d::cs,by rw[fl,e2];rfl,gv,fun c hc=>?_,?_⟩
    ·rcases dz.mp hc with rfl|q
     .exact ew
     .exact fX c q
    ·rw[je,nh,oR,mz]
     simp only[e2,List.cons_append]
def xX(N:Nat)(bL:D->Bool):Prop:=∀s,Good s->s.length<=N->lP s->bL (jo s)=ah
theorem UB(aj:∀y∈s.take 1,-(2^255)<y/\y<2^255-1)(aq:vp (s.drop 1)):lP s:=⟨aj,fun y bP=>by
 obtain⟨a,b⟩:=aq y bP
 exact⟨by omega,by omega⟩⟩
theorem Ux{bL:D->Bool}(aX:xX N bL)(k:Fin 4){s r:List Bool}(h:nq N ag k s=.ok d r):Ce bL k d=ah/\s=Cf dw k d++r:=by
 rcases ub k with rfl|rfl|rfl|rfl
 ·injection h with aI aL
  subst aI aL
  exact⟨I,I⟩
 ·obtain⟨b,s1,aj,h⟩:=eM (show(eY ag ag s).bd _=_ from h)
  injection h with aI aL
  subst aI aL
  exact⟨I,oy aj⟩
 ·obtain⟨b,s1,aj,h⟩:=eM (show(ku ag s).bd _=_ from h)
  injection h with aI aL
  subst aI aL
  obtain⟨a1,a2⟩:=LG aj
  exact⟨d6 a1,a2⟩
 ·obtain⟨b,s1,aj,h⟩:=eM (show(kP N ag s).bd _=_ from h)
  injection h with aI aL
  subst aI aL
  obtain⟨a1,a2,a3,a4,a5⟩:=Vp aj
  exact⟨aX b a1 a2 (UB a4 a5),by show s=dw (jo b)++s1;unfold jo;rw[Zv a1];exact a3⟩
theorem U3{row:D->List Bool}(aH:∀s d r,g s=.ok d r->fit d=ah/\s=row d++r)(k:Fin 3){s r:List Bool}(h:nK ag k g s=.ok d r):Jj k fit d=ah/\s=Dn k row d++r:=by
 rcases rZ k with rfl|rfl|rfl
 ·obtain⟨b,s1,aj,h⟩:=eM (show(eY ag ag s).bd _=_ from h)
  rw[oy aj]
  cases b with
  |true =>
   obtain⟨x,s2,aq,h⟩:=eM (show(g s1).bd _=_ from h)
   injection h with aI aL
   subst aI aL
   obtain⟨a1,a2⟩:=aH _ _ _ aq
   exact⟨a1,by rw[a2];rfl⟩
  |false =>
   injection h with aI aL
   subst aI aL
   exact⟨I,I⟩
 ·obtain⟨ds,s1,aj,h⟩:=eM (show(hO ag g 61 [] s).bd _=_ from h)
  injection h with aI aL
  subst aI aL
  obtain⟨cs,fl,gv,fX,mz⟩:=NJ aH (UF _) aj
  rw[List.nil_append]at fl
  subst fl
  refine⟨pw.mpr ⟨d6 gv,jf.mpr fX⟩,?_⟩
  show s=(_++[ag])++_
  rw[e2];exact mz
 ·obtain⟨a1,a2⟩:=aH _ _ _ (rP (show R.bV (g (s.map (!·)))=_ from h))
  refine⟨a1,?_⟩
  have:=congrArg (List.map (!·)) a2
  rw[nn,fk,nn]at this
  exact this
mutual
theorem tT{N:Nat}{bL:D->Bool}(aX:xX N bL):∀(f:bF){d:D}{s r:List Bool},fq f->bT N ag f s=.ok d r->c4 bL f d=ah/\s=cb dw f d++r
 |.bare k,d,s,r,_,h=>by
  rw[bT]at h
  rw[c4,cb]
  exact Ux aX k h
 |.sp a b,d,s,r,hk,h=>by
  rw[fq]at hk
  rw[bT]at h
  rw[c4,cb]
  obtain⟨n,s1,aj,h⟩:=eM h
  injection h with aI aL
  subst aI aL
  obtain⟨ew,eA,oR⟩:=B8 (UF _) aj
  refine⟨d6 (by omega),?_⟩
  show s=el (a+((n:Nat):Int)-a).toNat _++_
  rw[show(a+((n:Nat):Int)-a).toNat=n by omega];exact oR
 |.le aY,d,s,r,hk,h=>by
  rw[fq]at hk
  rw[bT]at h
  rw[c4,cb]
  obtain⟨v,s1,aj,h⟩:=eM h
  injection h with aI aL
  subst aI aL
  obtain⟨cs,fl,gv,fX,mz⟩:=Ll hk.1 (UF _) aj
  rw[List.nil_append]at fl
  subst fl
  refine⟨pw.mpr ⟨d6 (by show v.toArray.size<=200;rw[fW];exact gv),jf.mpr fun c hc=>d6 (fX c hc)⟩,?_⟩
  show s=(_++[ag])++_
  rw[e2];exact mz
 |.one k f,d,s,r,hk,h=>by
  rw[fq]at hk
  rw[bT]at h
  rw[c4,cb]
  exact U3 (fun s d r h=>tT aX f hk h) k h
 | .two k ns fs,d,s,r,hk,h=>by
  rw[fq]at hk
  obtain⟨e9,cL,qW⟩:=hk
  rw[bT]at h
  rw[c4,cb]
  by_cases z:k=0
  ·rw[if_pos z]at h ⊢
   rw[if_pos z]
   obtain⟨ds,s1,aj,h⟩:=eM h
   injection h with aI aL
   subst aI aL
   exact Lz aX fs qW aj
  ·rw[if_neg z]at h ⊢
   rw[if_neg z]
   obtain⟨i,s1,aj,h⟩:=eM h
   obtain⟨x,s2,aq,h⟩:=eM h
   injection h with aI aL
   subst aI aL
   obtain⟨ew,eA,oR⟩:=B8 (UF _) aj
   have adf:0<fs.length:=by
    cases fs with
    |nil=>rw[eR]at aq;cases aq
    |cons f fs=>simp
   have aC:i<ns.length:=by omega
   obtain⟨a1,a2⟩:=LB aX fs i qW (by omega) aq
   have g0:ns[i]?=J (ns.getD i af.empty):=by rw[fu,dR aC];rfl
   have sg:ns.getD i af.empty∈ns:=kl g0
   have pS:=x1 e9 g0
   constructor
   ·show oB bL fs ns (ns.getD i af.empty) x=ah
    rw[v5 fs ns _ sg cL,pS];exact a1
   ·show s=ra dw fs ns 0 (fs.length-1) (ns.getD i af.empty) x++s2
    rw[yb fs ns 0 _ sg cL,pS,Nat.zero_add,e2,<-a2];exact oR
theorem Lz{N:Nat}{bL:D->Bool}(aX:xX N bL):∀(fs:List bF){ds:List D}{s r:List Bool},fF fs->ff N ag fs s=.ok ds r->fL bL fs ds=ah/\s=gh dw fs ds++r
 |[],ds,s,r,_,h=>by
  rw[ff]at h
  injection h with aI aL
  subst aI aL
  rw[fL,gh];exact⟨I,I⟩
 |f::fs,ds,s,r,hk,h=>by
  rw[fF]at hk
  rw[ff]at h
  obtain⟨d,s1,aj,h⟩:=eM h
  obtain⟨aZ,s2,aq,h⟩:=eM h
  injection h with aI aL
  subst aI aL
  obtain⟨a1,a2⟩:=tT aX f hk.1 aj
  obtain⟨gD,f3⟩:=Lz aX fs hk.2 aq
  rw[fL,gh]
  refine⟨pw.mpr ⟨a1,gD⟩,?_⟩
  show s=(cb dw f d++gh dw fs aZ)++s2
  rw[e2,<-f3];exact a2
theorem LB{N:Nat}{bL:D->Bool}(aX:xX N bL):∀(fs:List bF)(i:Nat){d:D}{s r:List Bool},fF fs->i<fs.length->eR N ag fs i s=.ok d r->c4 bL (fs.getD i (.bare 0)) d=ah/\s=cb dw (fs.getD i (.bare 0)) d++r
 |[],i,d,s,r,_,h,_=>absurd h (by simp)
 |f::fs,0,d,s,r,hk,_,h=>by
  rw[fF]at hk
  rw[eR]at h
  exact tT aX f hk.1 h
 |f::fs,i+1,d,s,r,hk,aC,h=>by
  rw[fF]at hk
  rw[eR]at h
  exact LB aX fs i hk.2 (by simpa using aC) h
end
mutual
noncomputable def c0:bF->Nat
 |.bare _=>1
 |.sp _ _=>1
 |.le _=>1
 |.one _ f=>c0 f+1
 |.two _ _ fs=>hX fs+1
noncomputable def hX:List bF->Nat
 |[]=>0
 |f::fs=>c0 f+hX fs
end
theorem c7.loop{B:Nat}{fQ:List Bool->R α}{ep:Bool->List Bool->R α}{a:α}{G0:List Bool->R α}{G1:Bool->List Bool->R α}(h:c7 B G0 G1)(nw:1<=B)
  (eP:∀s,fQ s=(eY ag ag s).bd fun b s=>if b=ah then G0 s else .ok a s) (aI:∀e s,ep e s=(eY e ag s).bd fun b s=>if b=ah then G1 e s else .ok a s):c7 B fQ ep:=by
 refine⟨fun s b r q e=>?_,fun s k q e=>?_,fun s k q=>?_⟩
 ·rw[eP]at q
  rw[aI]
  cases s with
  |nil=>cases q
  |cons c s =>
   cases c with
   |true=>exact h.ok s _ _ q e
   |false=>exact q
 ·rw[eP]at q
  rw[aI]
  cases s with
  |nil=>cases q
  |cons c s =>
   cases c with
   |true=>exact h.wr s _ q e
   |false=>cases q
 ·rw[eP]at q
  cases s with
  |nil=>exact⟨a,[ag],by rw[aI];rfl,by rw[aI];rfl,nw⟩
  | cons c s =>
   cases c with
   |true =>
    obtain⟨x,y,aj,aq,bl⟩:=h.kZ s _ q
    exact⟨x,y,by rw[aI];exact aj,by rw[aI];exact aq,bl⟩
   |false=>cases q
theorem c7.stuck{B:Nat}{ep:Bool->List Bool->R α}:c7 B (fun _=>(R.st:R α)) ep:=⟨fun s b r h e=>(nomatch h),fun s k h=>(nomatch h),fun s k h=>(nomatch h)⟩
theorem GF(h:aY.length<=60):ba (aY.length-1)<=6:=hn (w:=6) (by omega)
theorem NO{aY:af}(hs:aY.length<=60):∀m w,w.length+m=201->c7 10 (iZ ag aY m w) (fun e=>iZ e aY m w)
 |0,w,_=>c7.stuck
 | m+1,w,h=>c7.loop (a:=w) (G0:=fun s=>if w.length=200 then .no ah s.length else(fx ag (aY.length-1) (ba (aY.length-1)) 0 s).bd fun i s=>iZ ag aY m (w++[aY.cps.toList.getD i 0]) s) (G1:=fun e s=>if w.length=200 then .no ah s.length else(fx e (aY.length-1) (ba (aY.length-1)) 0 s).bd fun i s=>iZ e aY m (w++[aY.cps.toList.getD i 0]) s) (c7.ite (fun _=>c7.kd.le (by omega)) fun c=>by
   obtain⟨k,rfl⟩:∃k,m=k+1:=⟨m-1,by omega⟩
   exact(ym _ _ 0 (UF _)).Hm (Pa:=fun _=>True) (G0:=fun i s=>iZ ag aY (k+1) (w++[aY.cps.toList.getD i 0]) s) (G1:=fun i e s=>iZ e aY (k+1) (w++[aY.cps.toList.getD i 0]) s) (tO _ _ _) (fun _ _ _ _ _=>trivial) (fun i _=>NO hs (k+1) _ (by rw[cD,hL];omega)) (fun i _ =>.inl I) (fun i _ _ _=>⟨_,[ag],I,I,by have:=GF hs;show _+1<=10;omega⟩) (cE _) (by have:=GF hs;omega)) (by omega) (fun s=>rfl) (fun e s=>rfl)
theorem Nn{B:Nat}{qH:List Bool->R D}{g1:Bool->List Bool->R D}(aH:c7 B qH g1)(hm:cg (g1 ag)):∀m w,w.length+m=61->c7 (B+1) (hO ag qH m w) (fun e=>hO e (g1 e) m w)
 |0,w,_=>c7.stuck
 | m+1,w,h=>c7.loop (a:=w) (G0:=fun s=>if w.length=60 then .no ah s.length else(qH s).bd fun d s=>hO ag qH m (w++[d]) s) (G1:=fun e s=>if w.length=60 then .no ah s.length else(g1 e s).bd fun d s=>hO e (g1 e) m (w++[d]) s) (c7.ite (fun _=>c7.kd.le (by omega)) fun c=>by
   obtain⟨k,rfl⟩:∃k,m=k+1:=⟨m-1,by omega⟩
   exact aH.Hm (Pa:=fun _=>True) (G0:=fun d s=>hO ag qH (k+1) (w++[d]) s) (G1:=fun d e s=>hO e (g1 e) (k+1) (w++[d]) s) hm (fun _ _ _ _ _=>trivial) (fun i _=>Nn aH hm (k+1) _ (by rw[cD,hL];omega)) (fun i _ =>.inl I) (fun i _ _ _=>⟨_,[ag],I,I,cE _⟩) (cE _) (by omega)) (by omega) (fun s=>rfl) (fun e s=>rfl)
theorem aas(N:Nat)(k:Fin 4):gA (nq N ag k):=by
 rcases ub k with rfl|rfl|rfl|rfl<;>first|exact .inl I|exact .inr ⟨_,I⟩
theorem aaw(aX:1<=N)(k:Fin 4):c7 560 (nq N ag k) (fun e=>nq (N+2) e k):=by
 rcases ub k with rfl|rfl|rfl|rfl
 .exact(c7.pure (D.bK)).le (by omega)
 .exact((Cd ag).map D.aN (mx ag)).le (by omega)
 .exact(Of.map D.int Cj).le (by omega)
 .exact((Uq aX).map jo (Np _)).le (by omega)
theorem TV(k:Fin 3)(aH:gA g):gA (nK ag k g):=by
 rcases rZ k with rfl|rfl|rfl
 .exact .inl I
 .exact .inl I
 ·rcases aH with h|⟨a,h⟩
  .exact .inl (by show(g []).bV=_;rw[h];rfl)
  .exact .inr ⟨a,by show(g []).bV=_;rw[h];rfl⟩
theorem T1{B:Nat}{qH:List Bool->R D}{g1:Bool->List Bool->R D}(k:Fin 3)(aH:c7 B qH g1)(hm:cg (g1 ag)):c7 (B+2) (nK ag k qH) (fun e=>nK e k (g1 e)):=by
 rcases rZ k with rfl|rfl|rfl
 .exact c7.loop (a:=D.tup []) (G0:=fun s=>(qH s).bd fun d s =>.ok (.tup [d]) s) (G1:=fun e s=>(g1 e s).bd fun d s =>.ok (.tup [d]) s) ((aH.map (fun d=>D.tup [d]) hm).le (by omega)) (by omega) (fun s=>I) (fun e s=>I)
 .exact((Nn aH hm 61 [] I).map D.lst (Gw hm 61 [])).le (by omega)
 .exact aH.bV.le (by omega)
theorem gA.of{F G:List Bool->R α}(h:gA G)(e:F []=G []):gA F:=by unfold gA at h ⊢;rw[e];exact h
mutual
theorem G6(N:Nat):∀f:bF,fq f->gA (bT N ag f)
 |.bare k,_=>gA.of (aas N k) (by rw[bT])
 |.sp a b,_=>gA.of ((BU (b-a).toNat (ba (b-a).toNat) 0).bd fun n _ =>.inr ⟨D.int (a+((n:Nat):Int)),rfl⟩) (by rw[bT])
 |.le aY,_ =>.inl (by rw[bT];rfl)
 |.one k f,h=>by
  rw[fq]at h
  exact gA.of (TV k (G6 N f h)) (by rw[bT])
 | .two k ns fs,h=>by
  rw[fq]at h
  rcases wB k with rfl|rfl
  .exact gA.of ((B1 N fs h.2.2).bd fun ds _ =>.inr ⟨D.tup ds,I⟩) (by rw[bT,if_pos rfl])
  ·have bu:0<fs.length:=by
    have e9:=h.1
    unfold jP at e9
    simp only[hK,jJ]at e9
    omega
   exact gA.of ((BU (fs.length-1) (ba (fs.length-1)) 0).bd fun i aC=>(B3 N fs i h.2.2 (by have:=tP (UF _) aC;omega)).bd fun d _ =>.inr ⟨D.tup [.str (ns.getD i af.empty),d],I⟩) (by rw[bT,if_neg (by decide)])
theorem B1(N:Nat):∀fs:List bF,fF fs->gA (ff N ag fs)
 |[],_ =>.inr ⟨[],by rw[ff]⟩
 |f::fs,h=>by
  rw[fF]at h
  exact gA.of ((G6 N f h.1).bd fun d _=>(B1 N fs h.2).bd fun ds _ =>.inr ⟨d::ds,I⟩) (by rw[ff])
theorem B3(N:Nat):∀(fs:List bF)(i:Nat),fF fs->i<fs.length->gA (eR N ag fs i)
 |[],i,_,h=>absurd h (by simp)
 |f::fs,0,h,_=>by
  rw[fF]at h
  exact gA.of (G6 N f h.1) (by rw[eR])
 |f::fs,i+1,h,aC=>by
  rw[fF]at h
  exact gA.of (B3 N fs i h.2 (by simpa using aC)) (by rw[eR])
end
mutual
theorem wd{N:Nat}(aX:1<=N):∀f:bF,fq f->c7 (560*c0 f) (bT N ag f) (fun e=>bT (N+2) e f)
 |.bare k,_=>((aaw aX k).of (fun s=>by rw[bT]) fun b s=>by rw[bT]).le (by rw[c0];omega)
 |.sp a b,h=>by
  rw[fq]at h
  have ar:ba (b-a).toNat<=200:=hn (w:=200) (by omega)
  exact(((ym (b-a).toNat (ba (b-a).toNat) 0 (UF _)).map (fun n=>D.int (a+((n:Nat):Int))) (tO _ _ _)).of (fun s=>by rw[bT]) fun b s=>by rw[bT]).le (by rw[c0];omega)
 |.le aY,h=>by
  rw[fq]at h
  exact(((NO h.2 201 [] I).map (fun w=>D.str ⟨w.toArray⟩) (GV aY _ _)).of (fun s=>by rw[bT]) fun b s=>by rw[bT]).le (by rw[c0];omega)
 |.one k f,h=>by
  rw[fq]at h
  exact((T1 k (wd aX f h) (rN _ f)).of (fun s=>by rw[bT]) fun b s=>by rw[bT]).le (by rw[c0];omega)
 | .two k ns fs,h=>by
  rw[fq]at h
  obtain⟨e9,cL,qW⟩:=h
  have wJ:=(oo e9).1
  have ar:ba (fs.length-1)<=5:=hn (w:=5) (by omega)
  have bu:0<fs.length:=by
   unfold jP at e9
   simp only[hK,jJ]at e9
   omega
  rcases wB k with rfl|rfl
  .exact(((K8 aX fs qW).map D.tup (B2 _ fs)).of (fun s=>by rw[bT,if_pos rfl]) fun b s=>by rw[bT,if_pos rfl]).le (by rw[c0];omega)
  .exact(((ym (fs.length-1) (ba (fs.length-1)) 0 (UF _)).bd (Pa:=fun i=>i<fs.length) (B':=560*hX fs) (G0:=fun i s=>(eR N ag fs i s).bd fun d s =>.ok (D.tup [.str (ns.getD i af.empty),d]) s) (G1:=fun i e s=>(eR (N+2) e fs i s).bd fun d s =>.ok (D.tup [.str (ns.getD i af.empty),d]) s) (tO _ _ _) (fun e i s r aC=>by have:=tP (UF _) aC;omega) (fun i aC=>(Lc aX fs i qW aC).map (fun d=>D.tup [.str (ns.getD i af.empty),d]) (G7 _ fs i)) fun i aC=>(B3 N fs i qW aC).bd fun d _ =>.inr ⟨_,rfl⟩).of (fun s=>by rw[bT,if_neg (by decide)]) fun b s=>by rw[bT,if_neg (by decide)]).le (by rw[c0];omega)
theorem K8{N:Nat}(aX:1<=N):∀fs:List bF,fF fs->c7 (560*hX fs) (ff N ag fs) (fun e=>ff (N+2) e fs)
 |[],_=>((c7.pure ([]:List D)).of (fun s=>by rw[ff]) fun b s=>by rw[ff]).le (by omega)
 |f::fs,h=>by
  rw[fF]at h
  exact(((wd aX f h.1).bd (Pa:=fun _=>True) (B':=560*hX fs) (G0:=fun d s=>(ff N ag fs s).bd fun ds s =>.ok (d::ds) s) (G1:=fun d e s=>(ff (N+2) e fs s).bd fun ds s =>.ok (d::ds) s) (rN _ f) (fun _ _ _ _ _=>trivial) (fun d _=>(K8 aX fs h.2).map (fun ds=>d::ds) (B2 _ fs)) fun d _=>(B1 N fs h.2).bd fun ds _ =>.inr ⟨_,I⟩).of (fun s=>by rw[ff]) fun b s=>by rw[ff]).le (by rw[hX];omega)
theorem Lc{N:Nat}(aX:1<=N):∀(fs:List bF)(i:Nat),fF fs->i<fs.length->c7 (560*hX fs) (eR N ag fs i) (fun e=>eR (N+2) e fs i)
 |[],i,_,h=>absurd h (by simp)
 |f::fs,0,h,_=>by
  rw[fF]at h
  exact((wd aX f h.1).of (fun s=>by rw[eR]) fun b s=>by rw[eR]).le (by rw[hX];omega)
 |f::fs,i+1,h,aC=>by
  rw[fF]at h
  exact((Lc aX fs i h.2 (by simpa using aC)).of (fun s=>by rw[eR]) fun b s=>by rw[eR]).le (by rw[hX];omega)
end
theorem BR(aY:af):∀m w,cc (iZ ag aY m w)
 |0,w=>cc.stuck
 |m+1,w=>(jH ag).bd fun b=>cc.ite (cc.ite cc.kd ((pA _ _ _).bd fun i=>BR aY m _)) (cc.pure w)
theorem BH{g:List Bool->R D}(aH:cc g):∀m ds,cc (hO ag g m ds)
 |0,w=>cc.stuck
 |m+1,w=>(jH ag).bd fun b=>cc.ite (cc.ite cc.kd (aH.bd fun i=>BH aH m _)) (cc.pure w)
theorem aav(N:Nat)(k:Fin 4):cc (nq N ag k):=cc.ite (cc.pure _) (cc.ite ((jH ag).bd fun b=>cc.pure _) (cc.ite (wq.bd fun b=>cc.pure _) ((Gx N).bd fun b=>cc.pure _)))
theorem TZ(k:Fin 3)(aH:cc g):cc (nK ag k g):=cc.ite ((jH ag).bd fun b=>cc.ite (aH.bd fun d=>cc.pure _) (cc.pure _)) (cc.ite ((BH aH 61 []).bd fun b=>cc.pure _) aH.bV)
mutual
theorem qz(N:Nat):∀f:bF,cc (bT N ag f)
 |.bare k=>(aav N k).of fun s=>by rw[bT]
 |.sp a b=>((pA (b-a).toNat (ba (b-a).toNat) 0).bd fun n=>cc.pure (D.int (a+((n:Nat):Int)))).of fun s=>by rw[bT]
 |.le aY=>((BR aY 201 []).bd fun w=>cc.pure (D.str ⟨w.toArray⟩)).of fun s=>by rw[bT]
 |.one k f=>(TZ k (qz N f)).of fun s=>by rw[bT]
 |.two k ns fs=>(cc.ite (c:=k=0) ((we N fs).bd fun ds=>cc.pure (D.tup ds)) ((pA (fs.length-1) (ba (fs.length-1)) 0).bd fun i=>(B4 N fs i).bd fun d=>cc.pure (D.tup [.str (ns.getD i af.empty),d]))).of fun s=>by rw[bT]
theorem we(N:Nat):∀fs:List bF,cc (ff N ag fs)
 |[]=>(cc.pure ([]:List D)).of fun s=>by rw[ff]
 |f::fs=>((qz N f).bd fun d=>(we N fs).bd fun ds=>cc.pure (d::ds)).of fun s=>by rw[ff]
theorem B4(N:Nat):∀(fs:List bF)(i:Nat),cc (eR N ag fs i)
 |[],i=>cc.stuck.of fun s=>by rw[eR]
 |f::fs,0=>(qz N f).of fun s=>by rw[eR]
 |f::fs,i+1=>(B4 N fs i).of fun s=>by rw[eR]
end
theorem Nl{g g':List Bool->R D}(aH:dp g g'):∀m ds,dp (hO ag g m ds) (hO ag g' m ds)
 |0,w=>dp.stuck
 |m+1,w=>(dp.refl (eY ag ag)).bd fun b=>dp.ite (dp.ite (dp.refl _) (aH.bd fun i=>Nl aH m _)) (dp.refl _)
theorem aar(N j:Nat)(k:Fin 4):dp (nq N ag k) (nq (N+j) ag k):=dp.ite (dp.refl _) (dp.ite (dp.refl _) (dp.ite (dp.refl _) ((Uo N j).bd fun b=>dp.refl _)))
theorem TU(k:Fin 3){g':List Bool->R D}(aH:dp g g'):dp (nK ag k g) (nK ag k g'):=dp.ite ((dp.refl (eY ag ag)).bd fun b=>dp.ite (aH.bd fun d=>dp.refl _) (dp.refl _)) (dp.ite ((Nl aH 61 []).bd fun b=>dp.refl _) aH.bV)
mutual
theorem BZ(N j:Nat):∀f:bF,dp (bT N ag f) (bT (N+j) ag f)
 |.bare k=>(aar N j k).of (fun s=>by rw[bT]) fun s=>by rw[bT]
 |.sp a b=>(dp.refl _).of (fun s=>rfl) fun s=>by rw[bT,bT]
 |.le aY=>(dp.refl _).of (fun s=>rfl) fun s=>by rw[bT,bT]
 |.one k f=>(TU k (BZ N j f)).of (fun s=>by rw[bT]) fun s=>by rw[bT]
 |.two k ns fs=>(dp.ite (c:=k=0) ((K6 N j fs).bd fun ds=>dp.refl (fun s=>R.ok (D.tup ds) s)) ((dp.refl (fx ag (fs.length-1) (ba (fs.length-1)) 0)).bd fun i=>(La N j fs i).bd fun d=>dp.refl (fun s=>R.ok (D.tup [.str (ns.getD i af.empty),d]) s))).of (fun s=>by rw[bT]) fun s=>by rw[bT]
theorem K6(N j:Nat):∀fs:List bF,dp (ff N ag fs) (ff (N+j) ag fs)
 |[]=>(dp.refl _).of (fun s=>rfl) fun s=>by rw[ff,ff]
 |f::fs=>((BZ N j f).bd fun d=>(K6 N j fs).bd fun ds=>dp.refl (fun s=>R.ok (d::ds) s)).of (fun s=>by rw[ff]) fun s=>by rw[ff]
theorem La(N j:Nat):∀(fs:List bF)(i:Nat),dp (eR N ag fs i) (eR (N+j) ag fs i)
 |[],i=>dp.stuck.of (fun s=>by rw[eR]) fun s=>rfl
 |f::fs,0=>(BZ N j f).of (fun s=>by rw[eR]) fun s=>by rw[eR]
 |f::fs,i+1=>(La N j fs i).of (fun s=>by rw[eR]) fun s=>by rw[eR]
end
theorem NN(B:Nat)(aY:af):∀m w,w.length+m=200->Ns B (iZ ag aY (m+1) w)
 | m,w,h=>(rQ B ag).bd (jH _) fun b _=>Ns.ite (fun _=>Ns.ite (fun _=>Ns.kd) fun c=>by
   cases m with
   |zero=>exact absurd h c
   |succ m=>exact(BV B _ _ _).bd (pA _ _ _) fun i _=>NN B aY m _ (by rw[cD,hL];omega)) fun _=>Ns.pure w
theorem Nm{B:Nat}{g:List Bool->R D}(aH:Ns B g)(ay:cc g):∀m w,w.length+m=60->Ns B (hO ag g (m+1) w)
 | m,w,h=>(rQ B ag).bd (jH _) fun b _=>Ns.ite (fun _=>Ns.ite (fun _=>Ns.kd) fun c=>by
   cases m with
   |zero=>exact absurd h c
   |succ m=>exact aH.bd ay fun i _=>Nm aH ay m _ (by rw[cD,hL];omega)) fun _=>Ns.pure w
theorem aat(aX:1<=N)(k:Fin 4):Ns (2*N-1) (nq N ag k):=Ns.ite (fun _=>Ns.pure _) fun _=>Ns.ite (fun _=>(rQ _ ag).bd (jH _) fun b _=>Ns.pure _) fun _=>Ns.ite (fun _=>(Lj _).bd wq fun b _=>Ns.pure _) fun _=>(Up aX).bd (Gx N) fun b _=>Ns.pure _
theorem TX{B:Nat}(k:Fin 3)(aH:Ns B g)(ay:cc g):Ns B (nK ag k g):=Ns.ite (fun _=>(rQ _ ag).bd (jH _) fun b _=>Ns.ite (fun _=>aH.bd ay fun d _=>Ns.pure _) fun _=>Ns.pure _) fun _=>Ns.ite (fun _=>(Nm aH ay 60 [] rfl).bd (BH ay 61 []) fun b _=>Ns.pure _) fun _=>aH.bV
mutual
theorem B0{N:Nat}(aX:1<=N):∀f:bF,fq f->Ns (2*N-1) (bT N ag f)
 |.bare k,_=>(aat aX k).of fun s=>by rw[bT]
 |.sp a b,_=>((BV _ (b-a).toNat (ba (b-a).toNat) 0).bd (pA _ _ _) fun n _=>Ns.pure (D.int (a+((n:Nat):Int)))).of fun s=>by rw[bT]
 |.le aY,_=>((NN _ aY 200 [] rfl).bd (BR aY _ _) fun w _=>Ns.pure (D.str ⟨w.toArray⟩)).of fun s=>by rw[bT]
 |.one k f,h=>(TX k (B0 aX f (by rw[fq]at h;exact h)) (qz N f)).of fun s=>by rw[bT]
 | .two k ns fs,h=>by
  rw[fq]at h
  have bu:0<fs.length:=by
   have e9:=h.1
   unfold jP at e9
   simp only[hK,jJ]at e9
   omega
  exact(Ns.ite (c:=k=0) (fun _=>(K7 aX fs h.2.2).bd (we N fs) fun ds _=>Ns.pure (D.tup ds)) fun _=>(BV _ (fs.length-1) (ba (fs.length-1)) 0).bd (pA _ _ _) fun i aC=>(Lb aX fs i h.2.2 (by obtain⟨_,_,aC⟩:=aC;have:=tP (UF _) aC;omega)).bd (B4 N fs i) fun d _=>Ns.pure (D.tup [.str (ns.getD i af.empty),d])).of fun s=>by rw[bT]
theorem K7{N:Nat}(aX:1<=N):∀fs:List bF,fF fs->Ns (2*N-1) (ff N ag fs)
 |[],_=>(Ns.pure ([]:List D)).of fun s=>by rw[ff]
 |f::fs,h=>by
  rw[fF]at h
  exact((B0 aX f h.1).bd (qz N f) fun d _=>(K7 aX fs h.2).bd (we N fs) fun ds _=>Ns.pure (d::ds)).of fun s=>by rw[ff]
theorem Lb{N:Nat}(aX:1<=N):∀(fs:List bF)(i:Nat),fF fs->i<fs.length->Ns (2*N-1) (eR N ag fs i)
 |[],i,_,h=>absurd h (by simp)
 |f::fs,0,h,_=>(B0 aX f (by rw[fF]at h;exact h.1)).of fun s=>by rw[eR]
 |f::fs,i+1,h,aC=>(Lb aX fs i (by rw[fF]at h;exact h.2) (by simpa using aC)).of fun s=>by rw[eR]
end
theorem NM(aY:af):∀m w,w.length+m=200->dM (iZ ag aY (m+1) w)
 | m,w,h=>dM.sign (G:=fun b s=>if b=ah then(if w.length=200 then .no ah s.length else(fx ag (aY.length-1) (ba (aY.length-1)) 0 s).bd fun i s=>iZ ag aY m (w++[aY.cps.toList.getD i 0]) s)else .ok w s) rfl (fun b s=>rfl) fun b=>by
  cases b with
  |false=>exact .inl (eV.pure w).p8
  | true =>
   by_cases c:w.length=200
   .exact .inr ⟨fun s=>(if_pos I).trans (if_pos c),.inr ⟨w,I⟩⟩
   ·refine .inl ?_
    simp only[if_neg c,if_true]
    cases m with
    |zero=>exact absurd h c
    |succ m=>exact(BS _ _ _ (UF _)).bd (pA _ _ _) fun i _=>⟨NM aY m _ (by rw[cD,hL];omega),.inl I⟩
theorem Nk{g:List Bool->R D}(aH:dM g)(ay:cc g):∀m w,w.length+m=60->dM (hO ag g (m+1) w)
 | m,w,h=>dM.sign (G:=fun b s=>if b=ah then(if w.length=60 then .no ah s.length else(g s).bd fun d s=>hO ag g m (w++[d]) s)else .ok w s) rfl (fun b s=>rfl) fun b=>by
  cases b with
  |false=>exact .inl (eV.pure w).p8
  | true =>
   by_cases c:w.length=60
   .exact .inr ⟨fun s=>(if_pos I).trans (if_pos c),.inr ⟨w,I⟩⟩
   ·refine .inl ?_
    simp only[if_neg c,if_true]
    cases m with
    |zero=>exact absurd h c
    |succ m=>exact aH.bd ay fun i _=>⟨Nk aH ay m _ (by rw[cD,hL];omega),.inl I⟩
theorem aaq(N:Nat)(k:Fin 4):dM (nq N ag k):=dM.ite (fun _=>(eV.pure _).p8) fun _=>dM.ite (fun _=>(yw ag).p8.map _ (jH _)) fun _=>dM.ite (fun _=>Og.p8.map _ wq) fun _=>(Un N).map _ (Gx N)
theorem TT(k:Fin 3)(aH:dM g)(ay:cc g):dM (nK ag k g):=dM.ite (fun _=>dM.Hn (yw ag) (jH _) fun b=>dM.ite (fun _=>aH.map _ ay) fun _=>(eV.pure _).p8) fun _=>dM.ite (fun _=>(Nk aH ay 60 [] rfl).map _ (BH ay 61 [])) fun _=>aH.bV
mutual
theorem yn(N:Nat):∀f:bF,fq f->dM (bT N ag f)
 |.bare k,_=>(aaq N k).of fun s=>by rw[bT]
 |.sp a b,_=>((BS (b-a).toNat (ba (b-a).toNat) 0 (UF _)).map (fun n=>D.int (a+((n:Nat):Int))) (pA _ _ _)).of fun s=>by rw[bT]
 |.le aY,_=>((NM aY 200 [] rfl).map (fun w=>D.str ⟨w.toArray⟩) (BR aY _ _)).of fun s=>by rw[bT]
 |.one k f,h=>(TT k (yn N f (by rw[fq]at h;exact h)) (qz N f)).of fun s=>by rw[bT]
 | .two k ns fs,h=>by
  rw[fq]at h
  have bu:0<fs.length:=by
   have e9:=h.1
   unfold jP at e9
   simp only[hK,jJ]at e9
   omega
  exact(dM.ite (c:=k=0) (fun _=>(K5 N fs h.2.2).map D.tup (we N fs)) fun _=>(BS (fs.length-1) (ba (fs.length-1)) 0 (UF _)).bd (pA _ _ _) fun i aC=>by
   obtain⟨_,_,aC⟩:=aC
   have aB:i<fs.length:=by have:=tP (UF _) aC;omega
   exact⟨(K9 N fs i h.2.2 aB).map (fun d=>D.tup [.str (ns.getD i af.empty),d]) (B4 N fs i),(B3 N fs i h.2.2 aB).bd fun d _ =>.inr ⟨_,I⟩⟩).of fun s=>by rw[bT]
theorem K5(N:Nat):∀fs:List bF,fF fs->dM (ff N ag fs)
 |[],_=>(eV.pure ([]:List D)).p8.of fun s=>by rw[ff]
 |f::fs,h=>by
  rw[fF]at h
  exact((yn N f h.1).bd (qz N f) fun d _=>⟨(K5 N fs h.2).map (fun ds=>d::ds) (we N fs),(B1 N fs h.2).bd fun ds _ =>.inr ⟨_,I⟩⟩).of fun s=>by rw[ff]
theorem K9(N:Nat):∀(fs:List bF)(i:Nat),fF fs->i<fs.length->dM (eR N ag fs i)
 |[],i,_,h=>absurd h (by simp)
 |f::fs,0,h,_=>(yn N f (by rw[fF]at h;exact h.1)).of fun s=>by rw[eR]
 |f::fs,i+1,h,aC=>(K9 N fs i (by rw[fF]at h;exact h.2) (by simpa using aC)).of fun s=>by rw[eR]
end
theorem b0.draw{c:dP}(f:bF)(h:b0 c X H f o):∃al fs,H o=J (.ins (eO c (slot f)) al fs)/\fs.lookup (af.ofString "draw")=aw :=
 b0.ins (m:=af.ofString "draw") (by decide+kernel) (by decide+kernel) (by decide+kernel) (by decide+kernel) (by decide+kernel) (by decide+kernel) f h
theorem b6.alloc{o:c2}{X:e7}(m:b6 p H H')(e:H' p=J o)(h:∀x,x∈X->∃o,H x=J o):∀x,x∈X->∃o,H' x=J o:=fun x ay=>by
 by_cases z:x=p
 .exact⟨o,by rw[z];exact e⟩
 ·obtain⟨u,dY⟩:=h x ay
  exact⟨u,m.k x u z dY⟩
theorem b0.kU{c:dP}(m:b6 p H H')(f:bF)(h:b0 c [p] H f o):b0 c [p] H' f o:=b0.keep (fun b u n e=>m.k b u (fun z=>n (fU.mpr z)) e) f h
theorem b6.step{C al:ae}{j':Nat}{t' e':Bool}(h:H p=J (g7 C al l j t e)):b6 p H (upd H p (g7 C al l j' t' e')):=b6.move h
theorem b6.Jv{lv:ae}{ws:List V}(bu:H lv=aw)(m:b6 p H H1)(aj:H1 lv=J (.lst vs)):b6 p H (upd H1 lv (.lst ws)) :=
 ⟨fun b u n e=>by rw[bO (fun z=>by rw[z,bu]at e;cases e)];exact m.k b u n e,fun cl=>x7 aj (m.c cl)⟩
abbrev h9(X:e7)(d:D)(H:au)(v:V):Prop:=dj X H d v
inductive QI(aE:Bool->ae)(N:Nat)(C:ae)(vs:List V)(H:au)(Q:bB)(E:bR):Prop where
 |mk (p al:ae) (l:List Bool) (i:Nat) (t e:Bool) (X:e7) (bu:vs=[.ref p]) (aj:H p=J (g7 C al l i t e)) (aq:l.length<=16000000) (bl:i<=l.length) (bW:N<=1000) (d0:(∀x,x∈X->∃o,H x=J o)) (jQ:cY (h9 X) aE C p al l t e H Q E ((kP N e (sees l t i)).bd fun st s =>.ok (jo st) s)):QI aE N C vs H Q E
def JD(aE:Bool->ae)(N:Nat)(C:ae):b3:=fun vs H Q E=>QI aE N C vs H Q E
noncomputable def pq{α:Type}(b:Bool)(r:R α):R α:=if b=ah then r.bV else r
theorem V9(b:Bool)(r:R α):pq b r.bV=pq (!b) r:=by
 cases b
 .rfl
 ·show r.bV.bV=r
  cases r with
  |ok a s=>show R.ok a _=_;rw[nn]
  |no w k=>rfl
  |st=>rfl
theorem cY.N4{g:D1->au->V->Prop}{g':α->au->V->Prop}{C al:ae}{F:R α}{G:α->List Bool->R β}{W:β->List Bool->R D1}(b:Bool)(h:cY g aE C p al l t e H Q E ((pq b (F.bd G)).bd W))(M:b6 p H ax)
  (k:∀a s v bA j,F=.ok a s->b6 p ax bA->g' a bA v->j<=l.length->sees l (xor t b) j=s->bA p=J (g7 C al l j (xor t b) e)->cY g aE C p al l t e H Q E ((pq b (G a s)).bd W)->fT v bA):cY g' aE C p al l (xor t b) e ax fT (lZ H E) F:=by
 cases F with
 |ok a s=>exact fun v bA j cI aH cv hs b2=>k a s v bA j I cI aH cv hs b2 h
 |no w n=>cases b<;>exact jg.up h M
 |st=>cases b<;>exact h
theorem BX(t b:Bool):(!(xor t b))=xor t (!b):=by cases t<;>cases b<;>rfl
theorem ZC{x:Int}:eG ((s++[x]).map V.int) (-1)=J (.int x):=by
 rw[Gh (by simp)];simp
set_option maxHeartbeats 2000000 in
theorem WM{f C:ae}{fd:fG}(nb:dW mg)(fm:fz K C)(F:dx K mg "draw_fraction" E3 ["source"] f fd)(gV:jF P w K mg base 3 C "draw" ["self"] (oZ aE C))(lK:mm P w K mg base 1 C "turn" ["self"] (zW C))(Aw:mm P w K mg base 1 C "wish" ["self","sign"] (RB C))(lJ:jF P w K mg base 3 C "refuse" ["self"] (xl aE C))(ro:gU P w K mg base 6 "draw_whole" ["source"] (DE aE C))(ta:gU P w K mg base 5 "draw_count" ["source"] (Jz aE C))
  (vf:bD P w K mg base 1 "are_steps" ["steps"] Jx) (Ea:bD P w K mg base 2 "fraction_of" ["steps"] QJ):gU P w K mg base 7 "draw_fraction" ["source"] (JD aE N C):=by
 refine F.iF LS (fun bh A _ s H vs Q E az h=>?_)
 obtain⟨p,al,l,i,t,e,X,rfl,bj,aB,aC,aX,dC,q⟩:=h
 refine⟨_,(aM (bS 1 LS.bp (gC (av (lb ro az gx.x (av (ai 0) aA)) aA)))
  (aM (rG jC.leaving (cd da (mw gV fm az gx.x (ai 0)) aD)
   (aM (iO (ts lK fm az (ai 0)))
   (aM (iO (Gl Aw fm az (ai 0) (av aD aA)))
   (aM (iO (jG PySem.F.plainAttrs_list PySem.F.slot_list_append PySem.F.type_list_append tu (ai 1) (av (aO dr (lb ta az gx.x (av (ai 0) aA)) aD) aA)))
   (aS (cW (cd da (cP cU (ai 1) (lh k5 aD)) aD) (aS (iO (Gl Aw fm az (ai 0) (av aD aA)))) cV))))))
  (aM (cW (kp (iu (cj vf az (av (ai 1) aA)))) (aS (iO (mw lJ fm az gx.x (ai 0)))) cV)
  (aM (cW (cd da (aO dG (cy d7 rfl nb.d1 d2 (av (ai 1) aA)) aD) aD) (aS (iO (ts lK fm az (ai 0)))) cV)
  (aS (bG (cj Ea az (av (ai 1) aA)))))))),?_⟩
 try dsimp only[cQ,cR,cS,cT]
 unfold kP at q
 rw[qy]at q
 refine⟨_,I,p,al,l,i,t,e,I,bj,aB,aC,cY.call q (b6.refl _ _) fun a s v H1 w2 bf hj bg IF gw l3 q=>⟨(by show 1<=bY;decide),fun r e4=>?_⟩⟩
 subst bg gw
 have ad5:H r=aw:=hj.free l3 e4
 have uz:p≠r:=fun z=>by rw[<-z,l3]at e4;cases e4
 obtain⟨W,l6⟩:∃W:List Int->List Bool->R D,W=fun st s=>(if gE st=ah then R.ok st s else .no ah s.length).bd fun st s =>.ok (jo st) s:=⟨_,rfl⟩
 rw[qy,<-l6]at q
 refine⟨fun m ab ax=>∃(st:List Int)(aa:Nat)(b u:Bool),m+st.length=N+1/\st≠[]/\ab=[J (.ref p),J (.ref r)]/\b6 p H ax/\ax r=J (.lst (st.map V.int))/\ax p=J (p3 C al l aa (xor t b) e (bi u))/\aa<=l.length/\b=decide (st.length%2=0)/\(∀x∈st,x.natAbs<2^1000)/\cY (h9 X) aE C p al l t e H Q E ((pq b (dU e m u st (sees l (xor t b) aa))).bd W),⟨N,[a],w2,ag,ag,I,ng _ _,I,hj.ext (Ext.lst e4),aQ,?_,IF,I,?_,?_⟩,?_⟩
 .rw[bO uz,l3];cases t<;>rfl
 ·intro x ay
  rw[fU.mp ay]
  exact Nat.lt_of_le_of_lt (V2 bf) (Nat.pow_lt_pow_right (by decide) (by decide))
 .rw[show(xor t ag)=t by cases t<;>rfl];exact q
 rintro m ab ax ⟨st,aa,b,u,hm,oL,rfl,M,uA,b2,ez,ar,f5,q⟩
 cases m with
 |zero=>exact absurd q (by cases b<;>exact id)
 |succ m =>
 refine⟨_,I,p,al,_,I,b2,qx,p,al,l,aa,_,e,u,I,b2,aB,ez,cY.N4 b q M fun aa1 s v bA dV _ cI bg gj hT dX q=>?_⟩
 have cL:=vt gj hT
 subst bg hT
 refine⟨I,_,I,?_⟩
 have uA:=cI.k _ _ (ea uz) uA
 have cI:=M.trans cI
 cases aa1 with
 | true =>
  refine jw I ⟨fun bU H'=>∃b8,b8<m+1/\∃(st:List Int)(aa:Nat)(b u:Bool),b8+st.length=N+1/\st≠[]/\bU=[J (.ref p),J (.ref r)]/\b6 p H H'/\H' r=J (.lst (st.map V.int))/\H' p=J (p3 C al l aa (xor t b) e (bi u))/\aa<=l.length/\b=decide (st.length%2=0)/\(∀x∈st,x.natAbs<2^1000)/\cY (h9 X) aE C p al l t e H Q E ((pq b (dU e b8 u st (sees l (xor t b) aa))).bd W),fun _ _ h=>h,?_⟩
  have q:cY (h9 X) aE C p al l t e H Q E ((pq b ((d3 e ah ((sees l (xor t b) dV).map (!·))).bd fun n s=>dU e m (n == 0) (st++[((n:Nat):Int)+1]) s).bV).bd W):=q
  rw[V9,<-vZ,BX]at q
  refine⟨_,I,p,al,_,I,dX,v9,p,al,l,_,_,_,_,I,dX,?_⟩
  rw[BX]
  have fI:b6 p H (upd bA p (g7 C al l dV (xor t (!b)) e)):=cI.trans (b6.move dX)
  refine⟨_,I,p,al,_,I,aQ,ND,p,al,aV l,_,xor t (!b),e,0,1,I,aQ,?_⟩
  rw[iv]
  have lI:b6 p H (upd bA p (p3 C al l dV (xor t (!b)) e 1)):=cI.trans (b6.move dX)
  have Ps:upd bA p (p3 C al l dV (xor t (!b)) e 1) r=J (.lst (st.map V.int)):=by rw[bO (ea uz)];exact uA
  refine⟨_,I,.inl ⟨I,_,b1 Ps⟩,_,I,p,al,l,dV,xor t (!b),e,ah,I,aQ,aB,gj,cY.N4 (!b) q lI fun n s v fS I4 bo rA bg adw CY acT q=>?_⟩
  subst bg CY
  have Pt:=rA.k _ _ (ea uz) Ps
  have rA:=lI.trans rA
  refine .inl ⟨_,_,I,I,r,_,_,I,I,Pt,(by rw[nE];exact fB (show st.length<100001 by omega) (xk (by decide))),?_⟩
  have oA:st.map V.int++[V.int (((n:Nat):Int)+1)]=(st++[((n:Nat):Int)+1]).map V.int:=by rw[fk];rfl
  dsimp only
  rw[oA]
  have KG:=b6.Jv (ws:=(st++[((n:Nat):Int)+1]).map V.int) ad5 rA Pt
  have CC:upd fS r (.lst ((st++[((n:Nat):Int)+1]).map V.int)) p=J (g7 C al l I4 (xor t (!b)) e):=by rw[bO uz];exact acT
  have js:(!b)=decide ((st++[((n:Nat):Int)+1]).length%2=0):=by
   rw[ar,cD,hL]
   by_cases z:st.length%2=0
   .rw[d6 z,gu (by omega)];rfl
   .rw[gu z,d6 (by omega)];rfl
  have aed:∀x∈st++[((n:Nat):Int)+1],x.natAbs<2^1000:=fun x ay=>by
   rcases List.mem_append.mp ay with z|z
   .exact f5 x z
   ·rw[fU.mp z]
    have:=GZ bo
    exact Nat.lt_of_le_of_lt (m:=2^255) (by omega) (Nat.pow_lt_pow_right (by decide) (by decide))
  have OA:∀(u:Bool)(m8:au),u=(n == 0)->b6 p H m8->m8 r=J (.lst ((st++[((n:Nat):Int)+1]).map V.int))->m8 p=J (p3 C al l I4 (xor t (!b)) e (bi u))->∃b8,b8<m+1/\∃(st:List Int)(aa:Nat)(b u:Bool),b8+st.length=N+1/\st≠[]/\[J (V.ref p),J (V.ref r)]=[J (.ref p),J (.ref r)]/\b6 p H m8/\m8 r=J (.lst (st.map V.int))/\m8 p=J (p3 C al l aa (xor t b) e (bi u))/\aa<=l.length/\b=decide (st.length%2=0)/\(∀x∈st,x.natAbs<2^1000)/\cY (h9 X) aE C p al l t e H Q E ((pq b (dU e b8 u st (sees l (xor t b) aa))).bd W):=fun u m8 dY Ti ad4 acU =>
   ⟨m,by omega,st++[((n:Nat):Int)+1],I4,!b,u,by rw[cD,hL];omega,by simp,rfl,Ti,ad4,acU,adw,js,aed,by rw[dY];exact q⟩
  refine⟨_,I,_,I,.inl (.inl ⟨_,_,_,_,I,I,b1 aQ,ZC,I,_,I,?_⟩)⟩
  refine e5 (fun c=>?_) (fun c=>?_)
  ·have mJ:n=0:=by have:=V.int.inj c;omega
   refine⟨_,I,p,al,_,I,CC,ND,p,al,aV l,_,xor t (!b),e,0,1,I,CC,?_⟩
   exact OA ah _ (by rw[mJ];rfl) (KG.trans (b6.move CC)) (by rw[bO (ea uz)];exact aQ) aQ
  ·have mJ:n≠0:=fun z=>c (by rw[z];rfl)
   exact OA ag _ (by rw[beq_false_of_ne mJ]) KG aQ CC
 | false =>
  refine gg (by decide) ?_
  have q:cY (h9 X) aE C p al l t e H Q E ((pq b (.ok st (sees l (xor t b) dV))).bd W):=q
  have abo:pq b (R.ok st (sees l (xor t b) dV))=.ok st (sees l t dV):=by
   cases b with
   |false=>rw[show(xor t ag)=t by cases t<;>rfl];rfl
   |true =>
    show R.ok st ((sees l (xor t ah) dV).map (!·))=_
    rw[<-vZ,BX,show(xor t (!ah))=t by cases t<;>rfl]
  rw[abo,l6]at q
  have q:cY (h9 X) aE C p al l t e H Q E ((if gE st=ah then R.ok st (sees l t dV)else .no ah (sees l t dV).length).bd fun st s =>.ok (jo st) s):=q
  have jv:(sees l t dV).length=(sees l (xor t b) dV).length:=by unfold sees;rw[kn,kn,cC,cC]
  refine⟨_,I,r,st,I,uA,by omega,_,rfl,?_⟩
  cases aH:gE st with
  |false =>
   rw[if_neg (by rw[aH];decide)]at q
   have q:jg E p H (aE ah) (jn l ah (sees l t dV).length):=q
   unfold jn at q
   rw[if_pos rfl,jv,cL.1]at q
   exact gQ ⟨_,I,p,al,_,I,dX,Bz,p,al,l,dV,_,e,I,dX,by omega,q.up cI⟩
  | true =>
   rw[if_pos aH]at q
   refine fb ⟨_,I,_,_,I,.inl ⟨_,b1 uA,I⟩,_,_,I,I,(by show(0:Int)<2;decide),I,_,I,?_⟩
   rw[nE]
   have Pe:=(vW st).mp aH
   have cZ:∀{hF:au},b6 p H hF->hF p=J (g7 C al l dV t e)->∀ef,hF ef=aw->gB H (upd hF ef (.tup [.int (cO st).1,.int (cO st).2])) (Q (.ref ef)):=fun{hF}fI jq ef Pr=>by
    have f9:=Ext.tup (xs:=[.int (cO st).1,.int (cO st).2]) Pr
    have fresh:ef∉X:=fun z=>by
     obtain⟨P1,eZ⟩:=b6.alloc fI jq dC _ z
     rw[Pr]at eZ;cases eZ
    exact⟨_,(fI.ext f9).sub (f9.s _ _ jq),q _ _ dV (fI.ext f9) ⟨ef,[.int (cO st).1,.int (cO st).2],I,fresh,aQ,⟨.int (cO st).1,[.int (cO st).2],I,I,⟨.int (cO st).2,[],I,I,I⟩⟩,by simp⟩ gj rfl (f9.s _ _ jq)⟩
   refine e5 (fun c=>?_) (fun c=>?_)
   ·have yR:st.length%2=0:=by have:=V.int.inj c;omega
    have ac2:b=ah:=by rw[ar];exact d6 yR
    subst ac2
    refine⟨_,I,p,al,_,I,dX,v9,p,al,l,_,_,_,_,I,dX,?_⟩
    rw[BX,show(xor t (!ah))=t by cases t<;>rfl]
    exact⟨_,I,r,st,I,by rw[bO (ea uz)];exact uA,by omega,f5,Pe,cZ (cI.trans (b6.move dX)) aQ⟩
   ·have adW:¬st.length%2=0:=fun z=>c (congrArg V.int (by omega))
    have qQ:b=ag:=by rw[ar];exact gu adW
    subst qQ
    have dX:bA p=J (g7 C al l dV t e):=by rw[dX];cases t<;>rfl
    exact⟨_,I,r,st,I,uA,by omega,f5,Pe,cZ cI dX⟩
inductive QA(aE:Bool->ae)(N:Nat)(has:eW->Bool)(c:dP)(C:ae)(n:Nat)(i:eW)(vs:List V)(H:au)(Q:bB)(E:bR):Prop where
 |mk (o p al:ae) (f:bF) (l:List Bool) (j:Nat) (t e:Bool) (X:e7) (bu:vs=[.ref o,.ref p]) (aj:slot f=i) (aq:b0 c [p] H f o) (bl:ka has f) (bW:aT f<=n) (d0:H p=J (g7 C al l j t e)) (jQ:l.length<=16000000) (qL:j<=l.length) (yI:p∈X) (r2:(∀x,x∈X->∃o,H x=J o)) (acH:cY (h9 X) aE C p al l t e H Q E (bT N e f (sees l t j))):QA aE N has c C n i vs H Q E
def jx(aE:Bool->ae)(N:Nat)(has:eW->Bool)(c:dP)(C:ae)(n:Nat)(i:eW):b3:=fun vs H Q E=>QA aE N has c C n i vs H Q E
theorem cY.ret{g:α->au->V->Prop}{C al:ae}{F:R α}(h:cY g aE C p al l t e H Q E F):cY g aE C p al l t e H (fun v H'=>gB H H' (Q v)) (lZ H E) F:=by
 cases F with
 |ok a s=>exact fun v H' j M aH cv hs b2=>⟨_,M.sub b2,h v H' j M aH cv hs b2⟩
 |no w n=>exact jg.up h (b6.refl _ _)
 |st=>exact h
theorem cY.akg{g g':α->au->V->Prop}{C al:ae}{F:R α}(h:cY g aE C p al l t e H Q E F.bV)(M:b6 p H ax)
  (k:∀a v bA j,b6 p ax bA->g' a bA v->j<=l.length->bA p=J (g7 C al l j (!t) e)->(∀v H',b6 p H H'->g a H' v->H' p=J (g7 C al l j t e)->Q v H')->fT v bA):cY g' aE C p al l (!t) e ax fT (lZ H E) F:=by
 cases F with
 |ok a s=>exact fun v bA j cI aH cv hs b2=>k a v bA j cI aH cv b2 fun v H' vw ado kS=>h v H' j vw ado cv (by rw[<-hs,vZ,nn]) kS
 |no w n=>exact jg.up h M
 |st=>exact h
theorem Zx(F:c5 K "draw" "Nothing.draw" Au f fd):cq P w K mg base (fH P w) 1 f fd ["self","source"] (jx aE N has c C n (.b 0)):=by
 refine F.iF WV (fun bh A _ s H vs Q E az h=>?_)
 obtain⟨o,p,al,ec,l,j,t,e,X,rfl,hs,bx,aP,cu,b2,aB,cv,eQ,dC,q⟩:=h
 have:=nk hs
 subst this
 rw[bT]at q
 exact⟨_,(aS (bG lN)),H,.refl (eb _),q _ _ j (b6.refl _ _) I cv I b2⟩
theorem Us(fm:fz K C)(F:c5 K "draw" "Truth.draw" Bf f fd)(gV:jF P w K mg base 3 C "draw" ["self"] (oZ aE C)):cq P w K mg base (fH P w) 4 f fd ["self","source"] (jx aE N has c C n (.b 1)):=by
 refine F.iF Xu (fun bh A _ s H vs Q E az h=>?_)
 obtain⟨o,p,al,ec,l,j,t,e,X,rfl,hs,bx,aP,cu,b2,aB,cv,eQ,dC,q⟩:=h
 have:=nk hs
 subst this
 rw[bT]at q
 have q:cY (h9 X) aE C p al l t e H Q E ((eY e ag (sees l t j)).bd fun b s =>.ok (.aN b) s):=q
 refine⟨_,(aS (bG (gi da (mw gV fm az gx.x (ai 1)) aD))),?_⟩
 try dsimp only[cQ,cR,cS,cT]
 refine⟨_,I,p,al,_,I,b2,qx,p,al,l,j,t,e,ag,I,b2,aB,cv,cY.call q (b6.refl _ _) fun b s v bA dV _ cI bg gj hT dX q=>?_⟩
 subst bg
 refine⟨I,_,cI.sub dX,?_⟩
 have dS:decide (V.int ((b.toNat:Nat):Int)=V.int 1)=b:=by cases b<;>rfl
 rw[dS]
 exact q _ _ dV cI I gj hT dX
theorem Ur(F:c5 K "draw" "Whole.draw" Bd f fd)(ro:gU P w K mg base 6 "draw_whole" ["source"] (DE aE C)):cq P w K mg base (fH P w) 7 f fd ["self","source"] (jx aE N has c C n (.b 2)):=by
 refine F.iF Xs (fun bh A _ s H vs Q E az h=>?_)
 obtain⟨o,p,al,ec,l,j,t,e,X,rfl,hs,bx,aP,cu,b2,aB,cv,eQ,dC,q⟩:=h
 have:=nk hs
 subst this
 rw[bT]at q
 have q:cY (h9 X) aE C p al l t e H Q E ((ku e (sees l t j)).bd fun n s =>.ok (.int n) s):=q
 refine⟨_,(aS (bG (lb ro az gx.x (av (ai 1) aA)))),?_⟩
 try dsimp only[cQ,cR,cS,cT]
 refine⟨_,I,p,al,l,j,t,e,I,b2,aB,cv,cY.call q (b6.refl _ _) fun b s v bA dV _ cI bg gj hT dX q=>?_⟩
 exact⟨_,cI.sub dX,q _ _ dV cI bg gj hT dX⟩
theorem YT(aX:N<=1000)(F:c5 K "draw" "Fraction.draw" Ap f fd)(xF:gU P w K mg base 7 "draw_fraction" ["source"] (JD aE N C)):cq P w K mg base (fH P w) 8 f fd ["self","source"] (jx aE N has c C n (.b 3)):=by
 refine F.iF WH (fun bh A _ s H vs Q E az h=>?_)
 obtain⟨o,p,al,ec,l,j,t,e,X,rfl,hs,bx,aP,cu,b2,aB,cv,eQ,dC,q⟩:=h
 have:=nk hs
 subst this
 rw[bT]at q
 refine⟨_,(aS (bG (lb xF az gx.x (av (ai 1) aA)))),?_⟩
 try dsimp only[cQ,cR,cS,cT]
 exact⟨_,I,p,al,l,j,t,e,X,I,b2,aB,cv,aX,dC,cY.ret q⟩
theorem Vr(T:vN K c.s)(F:c5 K "draw" "Span.draw" Bk f fd)(n0:gU P w K mg base 4 "draw_fixed" ["source","most"] (zN aE C)):cq P w K mg base (fH P w) 5 f fd ["self","source"] (jx aE N has c C n .s):=by
 refine F.iF XY (fun bh A _ s H vs Q E az h=>?_)
 obtain⟨o,p,al,ec,l,j,t,e,X,rfl,hs,bx,aP,cu,b2,aB,cv,eQ,dC,q⟩:=h
 obtain⟨a,b,rfl⟩:=GC hs
 obtain⟨_,j6,aK⟩:=bx
 have O0:=aP.1
 rw[fq]at O0
 rw[bT]at q
 have aL:((b-a).toNat:Int)=b-a:=Int.toNat_of_nonneg (by omega)
 have ar:ba (b-a).toNat<=200:=hn (w:=200) (by omega)
 refine⟨_,(aS (bG (aO dr (et (ai 0) I) (lb n0 az gx.x (av (ai 1) (av (aO gp (et (ai 0) I) (et (ai 0) I)) aA)))))),?_⟩
 try dsimp only[cQ,cR,cS,cT]
 refine⟨_,I,o,c.s,j6,_,_,I,aK,T.cl,T.pW,hU ..,_,I,_,I,o,c.s,j6,_,_,I,aK,T.cl,T.Dg,pV _ _ _ _ IC,_,I,o,c.s,j6,_,_,I,aK,T.cl,T.pW,hU ..,_,_,I,I,p,al,l,j,(b-a).toNat,t,e,by rw[aL],b2,aB,cv,by omega,cY.call q (b6.refl _ _) fun k s v bA dV _ cI bg gj hT dX q=>?_⟩
 subst bg
 exact .inl ⟨_,_,I,I,_,cI.sub dX,q _ _ dV cI I gj hT dX⟩
theorem aai(fm:fz K C)(T:kI K (c.o 2))(F:c5 K "draw" "Turned.draw" AH f fd)(lK:mm P w K mg base 1 C "turn" ["self"] (zW C))(j0:m2 P w K mg base (2*n+7) "draw" ["self","source"] (eO c) (jx aE N has c C n)):cq P w K mg base (fH P w) (2*n+7+1) f fd ["self","source"] (jx aE N has c C (n+1) (.o 2)):=by
 refine F.iF LX (fun bh A _ s H vs Q E az h=>?_)
 obtain⟨o,p,al,ec,l,j,t,e,X,rfl,hs,bx,aP,cu,b2,aB,cv,eQ,dC,q⟩:=h
 obtain⟨g,rfl⟩:=qq hs
 obtain⟨oV,j6,i,aK,ez⟩:=bx
 have iC:=aP.one
 have iB:aT g<=n:=by rw[aT]at cu;omega
 rw[bT]at q
 have q:cY (h9 X) aE C p al l t e H Q E (bT N e g ((sees l t j).map (!·))).bV:=q
 rw[<-vZ]at q
 have op:o≠p:=fun z=>oV (fU.mpr z)
 have hj:=b6.step (j':=j) (t':=!t) (e':=e) b2
 have r5:=b0.kU hj g ez
 obtain⟨fK,fM,e3,li⟩:=b0.draw g r5
 refine⟨_,(aM (iO (ts lK fm az (ai 1) (hk:=by omega)))
  (aM (bS 2 LX.bp (rE j0 az gx.x (et (ai 0) rfl) (av (ai 1) aA) (hk':=by omega)))
  (aM (iO (ts lK fm az (ai 1) (hk:=by omega)))
  (aS (bG (ai 2)))))),?_⟩
 try dsimp only[cQ,cR,cS,cT]
 refine⟨_,I,p,al,_,I,b2,v9,p,al,l,j,t,e,0,I,b2,?_⟩
 refine⟨_,I,o,c.o 2,j6,_,_,I,hj.k _ _ op aK,T.cl,T.nI,hU ..,i,slot g,fK,fM,I,e3,li,?_⟩
 refine⟨_,I,i,p,al,g,l,j,!t,e,X,I,I,r5,iC,iB,aQ,aB,cv,eQ,b6.alloc hj aQ dC,cY.akg q hj fun d v ax w3 M2 uo CP i2 q=>?_⟩
 have cI:=b6.step (j':=w3) (t':=t) (e':=e) i2
 refine⟨_,I,p,al,_,I,i2,v9,p,al,l,_,!t,e,0,I,i2,?_⟩
 rw[Bool.not_not]
 have M:=(hj.trans M2).trans cI
 exact⟨_,I,_,M.sub aQ,q _ _ M (dj.keep (fun b u n e=>cI.k b u (fun z=>n (by rw[z];exact eQ)) e) d uo) aQ⟩
theorem Ut(fm:fz K C)(T:kI K (c.o 0))(F:c5 K "draw" "Maybe.draw" Bh f fd)(gV:jF P w K mg base 3 C "draw" ["self"] (oZ aE C))(j0:m2 P w K mg base (2*n+7) "draw" ["self","source"] (eO c) (jx aE N has c C n)):cq P w K mg base (fH P w) (2*n+7+1) f fd ["self","source"] (jx aE N has c C (n+1) (.o 0)):=by
 refine F.iF Xy (fun bh A _ s H vs Q E az h=>?_)
 obtain⟨o,p,al,ec,l,j,t,e,X,rfl,hs,bx,aP,cu,b2,aB,cv,eQ,dC,q⟩:=h
 obtain⟨g,rfl⟩:=qq hs
 obtain⟨oV,j6,i,aK,ez⟩:=bx
 have iC:=aP.one
 have iB:aT g<=n:=by rw[aT]at cu;omega
 have op:o≠p:=fun z=>oV (fU.mpr z)
 have fresh:∀{ax:au}{zx:c2}{tt:ae},b6 p H ax->ax p=J zx->ax tt=aw->tt∉X:=fun M aL dS z=>by
  obtain⟨P1,eZ⟩:=b6.alloc M aL dC _ z
  rw[dS]at eZ;cases eZ
 rw[bT]at q
 have q:cY (h9 X) aE C p al l t e H Q E ((eY e ag (sees l t j)).bd fun b s=>if b=ah then(bT N e g s).bd fun d s =>.ok (.tup [d]) s else .ok (.tup []) s):=q
 refine⟨_,(aM (cW (cd da (mw gV fm az gx.x (ai 1) (hk':=by omega)) aD) (aS (bG (jM aA))) cV)
  (aS (bG (jM (av (rE j0 az gx.x (et (ai 0) rfl) (av (ai 1) aA) (hk':=by omega)) aA))))),?_⟩
 try dsimp only[cQ,cR,cS,cT]
 refine⟨_,I,p,al,_,I,b2,qx,p,al,l,j,t,e,ag,I,b2,aB,cv,cY.call q (b6.refl _ _) fun b s v bA dV _ cI bg gj hT dX q=>?_⟩
 subst bg hT
 refine⟨I,_,I,?_⟩
 cases b with
 |false =>
  refine jw I ⟨UF _,fun tt sl=>?_⟩
  have f9:=Ext.tup (xs:=[]) sl
  have M:=cI.ext f9
  exact⟨_,M.sub (f9.s _ _ dX),q _ _ dV M ⟨tt,[],I,fresh cI dX sl,aQ,I,by simp⟩ gj rfl (f9.s _ _ dX)⟩
 |true =>
  have r5:=b0.kU cI g ez
  obtain⟨fK,fM,e3,li⟩:=b0.draw g r5
  refine gg (by decide) ⟨_,I,o,c.o 0,j6,_,_,I,cI.k _ _ op aK,T.cl,T.nI,hU ..,i,slot g,fK,fM,I,e3,li,_,I,i,p,al,g,l,dV,t,e,X,I,I,r5,iC,iB,dX,aB,gj,eQ,b6.alloc cI dX dC,cY.call q cI fun d s v hF mO _ fI r7 mH mM jq q=>⟨B7,fun tt sl=>?_⟩⟩
  have f9:=Ext.tup (xs:=[v]) sl
  have fI:=cI.trans fI
  have M:=fI.ext f9
  exact⟨_,M.sub (f9.s _ _ jq),q _ _ mO M ⟨tt,[v],I,fresh fI jq sl,aQ,⟨v,[],I,dj.same f9.s r7,I⟩,by simp⟩ mH mM (f9.s _ _ jq)⟩
theorem Vs(nb:dW mg)(pP:ej mg "MOST_VALUES" (.int 60))(fm:fz K C)(T:kI K (c.o 1))(F:c5 K "draw" "Many.draw" Bm f fd)(gV:jF P w K mg base 3 C "draw" ["self"] (oZ aE C))(lJ:jF P w K mg base 3 C "refuse" ["self"] (xl aE C))(j0:m2 P w K mg base (2*n+7) "draw" ["self","source"] (eO c) (jx aE N has c C n)):cq P w K mg base (fH P w) (2*n+7+1) f fd ["self","source"] (jx aE N has c C (n+1) (.o 1)):=by
 refine F.iF L9 (fun bh A _ s H vs Q E az h=>?_)
 obtain⟨o,p,al,ec,l,j,t,e,X,rfl,hs,bx,aP,cu,b2,aB,cv,eQ,dC,q⟩:=h
 obtain⟨g,rfl⟩:=qq hs
 obtain⟨oV,j6,i,aK,ez⟩:=bx
 have iC:=aP.one
 have iB:aT g<=n:=by rw[aT]at cu;omega
 have op:o≠p:=fun z=>oV (fU.mpr z)
 rw[bT]at q
 obtain⟨W,l6⟩:∃W:List D->List Bool->R D,W=fun ds s =>.ok (.lst ds) s:=⟨_,rfl⟩
 have q:cY (h9 X) aE C p al l t e H Q E ((hO e (bT N e g) 61 [] (sees l t j)).bd fun ds s =>.ok (.lst ds) s):=q
 rw[<-l6]at q
 refine⟨_,(aM (bS 2 L9.bp (gC aA))
  (aM (rG jC.leaving (cd da (mw gV fm az gx.x (ai 1) (hk':=by omega)) aD)
   (aM (cW (cd da (cy d7 rfl nb.d1 d2 (av (ai 2) aA)) (hv pP)) (aS (iO (mw lJ fm az gx.x (ai 1) (hk':=by omega)))) cV)
   (aS (iO (jG PySem.F.plainAttrs_list PySem.F.slot_list_append PySem.F.type_list_append tu (ai 2) (av (rE j0 az gx.x (et (ai 0) rfl) (av (ai 1) aA) (hk':=by omega)) aA))))))
  (aS (bG (ai 2))))),?_⟩
 try dsimp only[cQ,cR,cS,cT]
 refine⟨UF _,fun lv ux=>?_⟩
 have mQ:p≠lv:=fun z=>by rw[<-z,b2]at ux;cases ux
 have afw:lv∉X:=fun z=>by obtain⟨u,dY⟩:=dC lv z;rw[ux]at dY;cases dY
 have xS:b6 p H (upd H lv (.lst [])):=⟨fun b u _ e=>dq ux b u e,fun cl=>tl cl ux trivial⟩
 refine⟨fun m ab ax=>∃(ds:List D)(vs:List V)(j:Nat),ds.length+m=61/\ab=[J (.ref o),J (.ref p),J (.ref lv)]/\b6 p H ax/\ax lv=J (.lst vs)/\dc (e7.rS lv X) ax ds vs/\j<=l.length/\ax p=J (g7 C al l j t e)/\cY (h9 X) aE C p al l t e H Q E ((hO e (bT N e g) m ds (sees l t j)).bd W),⟨61,[],[],j,I,I,xS,aQ,I,cv,dq ux _ _ b2,q⟩,?_⟩
 rintro m ab ax ⟨ds,vs,j,hm,rfl,M2,ju,uo,cv,i2,q⟩
 cases m with
 |zero=>exact absurd q id
 |succ m =>
 rw[hO,qy]at q
 refine⟨_,I,p,al,_,I,i2,qx,p,al,l,j,t,e,ag,I,i2,aB,cv,cY.call q M2 fun b s v bA dV _ cI bg gj hT dX q=>?_⟩
 have cL:=vt gj hT
 subst bg hT
 have sf:=cI.k _ _ (ea mQ) ju
 have mF:dc (e7.rS lv X) bA ds vs:=dc.keep (fun b u nb e=>cI.k b u (fun z=>nb (e7.eg (by rw[z];exact eQ))) e) _ uo
 have cI:=M2.trans cI
 have kz:=gK.len _ (dc.at _ mF)
 refine⟨I,_,I,?_⟩
 cases b with
 | true =>
  have q:cY (h9 X) aE C p al l t e H Q E ((if ds.length=60 then .no ah (sees l t dV).length else(bT N e g (sees l t dV)).bd fun d s=>hO e (bT N e g) m (ds++[d]) s).bd W):=q
  refine jw I ⟨_,fun _ _ h=>h,?_⟩
  refine⟨_,I,_,_,I,.inl ⟨_,b1 sf,I⟩,I,_,I,e5 (fun t5=>?_) (fun t5=>?_)⟩
  ·have qK:ds.length=60:=by have:=V.int.inj t5;omega
   rw[if_pos qK]at q
   have q:jg E p H (aE ah) (jn l ah (sees l t dV).length):=q
   unfold jn at q
   rw[if_pos rfl,cL.1]at q
   exact⟨_,I,p,al,_,I,dX,Bz,p,al,l,dV,t,e,I,dX,by omega,q.up cI⟩
  ·have qK:ds.length≠60:=fun z=>t5 (by rw[kz,z];rfl)
   rw[if_neg qK,qy]at q
   have OO:=b0.kU cI g ez
   obtain⟨fK,fM,e3,li⟩:=b0.draw g OO
   refine⟨_,I,.inl ⟨I,_,b1 sf⟩,?_⟩
   refine⟨_,I,o,c.o 1,j6,_,_,I,cI.k _ _ op aK,T.cl,T.nI,hU ..,i,slot g,fK,fM,I,e3,li,?_⟩
   refine⟨_,I,i,p,al,g,l,dV,t,e,e7.rS lv X,I,I,OO,iC,iB,dX,aB,gj,e7.eg eQ,?_,cY.call q cI fun d s v hF mO _ fI r7 mH mM jq q=>?_⟩
   ·intro x ay
    rcases ay with rfl|ay
    .exact⟨_,sf⟩
    .exact b6.alloc cI dX dC x ay
   subst mM
   have IG:=fI.k _ _ (ea mQ) sf
   refine⟨lv,_,_,I,I,IG,fB (show vs.length<100000 by omega) (by decide),?_⟩
   refine⟨m,by omega,ds++[d],vs++[v],mO,by rw[cD,hL];omega,rfl,b6.Jv ux (cI.trans fI) IG,aQ,?_,mH,by rw[bO mQ];exact jq,q⟩
   refine dc.keep (fun b u nb e=>by rw[bO (fun z=>nb (by rw[z];exact e7.hd))];exact e) _ (dc.snoc r7 _ ?_)
   exact dc.keep (fun b u nb e=>fI.k b u (fun z=>nb (e7.eg (by rw[z];exact eQ))) e) _ mF
 |false =>
  have q:cY (h9 X) aE C p al l t e H Q E (W ds (sees l t dV)):=q
  rw[l6]at q
  refine gg (by decide) ?_
  exact⟨_,I,_,cI.sub dX,q _ _ dV cI ⟨lv,vs,I,afw,sf,dc.weak (fun x ay=>e7.eg ay) _ mF,by omega⟩ gj rfl dX⟩
theorem aaj(nb:dW mg)(T:og K (c.t 0))(F:c5 K "draw" "Record.draw" AM f fd)(j0:m2 P w K mg base (2*n+7) "draw" ["self","source"] (eO c) (jx aE N has c C n)):cq P w K mg base (fH P w) (2*n+7+1) f fd ["self","source"] (jx aE N has c C (n+1) (.t 0)):=by
 refine F.iF Xf (fun bh A _ s H vs Q E az h=>?_)
 obtain⟨o,p,al,ec,l,j,t,e,X,rfl,hs,bx,aP,cu,b2,aB,cv,eQ,dC,q⟩:=h
 obtain⟨ns,fs,rfl⟩:=vY hs
 obtain⟨oV,j6,a1,a2,os,aK,fo,en,aj,aq,uh⟩:=bx
 obtain⟨e9,mK,iC⟩:=aP.two
 have iB:hA fs<=n:=by rw[aT]at cu;omega
 have sh:=eL.len fs uh
 have y3:=(oo e9).1
 rw[bT,if_pos rfl]at q
 have aaH:a2≠p:=fun z=>en (fU.mpr z)
 refine⟨_,(aS (bG (qu L4 I nb.uY tL (av (TR ["form"] [(1,"source")] I I (by decide+kernel) ⟨I,.inl I,trivial⟩ (kb (et (ai 0) I)) (fun _ _ _ _ _=>(eF (i:=0) (show(["form","source"]:List af).Nodup by decide+kernel))) (fun _ _ _ _ _=>iN) (fun _ _ _ _ _=>(rE j0 az YB (ai 0) (av (ai 1) aA) (hk':=by omega)))) aA)))),?_⟩
 try dsimp only[cQ,cR,cS,cT]
 refine .inl ⟨_,I,o,c.t 0,j6,_,_,I,aK,T.cl,T.q6,pV _ _ _ _ ue,a2,I,⟨_,b1 aq⟩,fun eh gF=>?_⟩
 have Jl:p≠eh:=fun z=>by rw[<-z,b2]at gF;cases gF
 refine F1 (K:=K) (a:=a2) (xs:=os.map V.ref) (fun i bb ax=>b6 p H ax/\∃(ds:List D)(j:Nat),ds.length=i/\dc (e7.rS eh X) ax ds bb/\j<=l.length/\ax p=J (g7 C al l j t e)/\cY (h9 X) aE C p al l t e H Q E ((ff N e (fs.drop i) (sees l t j)).bd fun aZ s =>.ok (.tup (ds++aZ)) s)) (fun ab=>∃z,ab=[z,J (.ref p)]) (by rw[cC];omega) ⟨_,I⟩ ?_ ?_ ?_ ?_
 ·rintro i bb ax ⟨m,_⟩
  exact b1 (m.k _ _ aaH aq)
 .exact⟨⟨fun b u _ e=>dq gF b u e,fun cl=>tl cl gF trivial⟩,[],j,I,I,cv,by rw[bO Jl];exact b2,q⟩
 ·rintro i x ay bb cz H1 ⟨z,rfl⟩ ⟨f6,ds,j,l7,CI,cv,l3,q⟩ pQ mN AP cJ
  rw[gf]at ay
  obtain⟨P5,adX,rfl⟩:=Uf.mp ay
  obtain⟨yH,CM,acO⟩:=eL.get fs uh adX
  obtain⟨oM,yX⟩:=iC.get CM
  have aC:i<fs.length:=(km.mp CM).1
  have abE:fs[i]=yH:=by rw[dR aC]at CM;exact gX CM
  rw[AY aC,abE,ff,qy]at q
  have ON:=b0.kU f6 yH acO
  obtain⟨fK,fM,e3,li⟩:=b0.draw yH ON
  refine⟨_,I,P5,slot yH,fK,fM,I,e3,li,?_⟩
  refine⟨_,I,P5,p,al,yH,l,j,t,e,e7.rS eh X,I,I,ON,oM,by omega,l3,aB,cv,e7.eg eQ,?_,cY.call q f6 fun d s v hF mO _ fI r7 mH mM jq q=>?_⟩
  ·intro x ay
   rcases ay with rfl|ay
   .exact⟨_,pQ⟩
   .exact b6.alloc f6 l3 dC x ay
  subst mM
  rw[qy]at q
  have yJ:=fI.k _ _ (ea Jl) pQ
  refine cJ _ _ _ ⟨_,I⟩ yJ ⟨b6.Jv gF (f6.trans fI) yJ,ds++[d],mO,by rw[cD,l7];rfl,?_,mH,by rw[bO Jl];exact jq,?_⟩
  ·refine dc.keep (fun b u nb e=>by rw[bO (fun z=>nb (by rw[z];exact e7.hd))];exact e) _ (dc.snoc r7 _ ?_)
   exact dc.keep (fun b u nb e=>fI.k b u (fun z=>nb (e7.eg (by rw[z];exact eQ))) e) _ CI
  ·have Hx:(fun aZ(s:List Bool)=>(R.ok (D.tup ((ds++[d])++aZ)) s:R D))=fun aZ s=>(R.ok (d::aZ) s).bd fun aZ s=>R.ok (D.tup (ds++aZ)) s:=by
    funext aZ s
    show R.ok _ _=R.ok _ _
    rw[e2];rfl
   rw[Hx];exact q
 ·rintro bb ax mN pQ ⟨l9,ds,j,l7,uo,CP,i2,q⟩
  rw[cC]at mN l7
  rw[cC,List.drop_of_length_le (by omega),ff]at q
  have q:cY (h9 X) aE C p al l t e H Q E (.ok (.tup (ds++[])) (sees l t j)):=q
  rw[List.append_nil]at q
  refine⟨eh,bb,I,.inl ⟨b1 pQ,fun tA r6=>?_⟩⟩
  have Tt:tA∉X:=fun z=>by obtain⟨u,dY⟩:=b6.alloc l9 i2 dC tA z;rw[r6]at dY;cases dY
  have f9:=Ext.tup (xs:=bb) r6
  exact⟨_,(l9.ext f9).sub (f9.s _ _ i2),q _ _ j (l9.ext f9) ⟨tA,bb,I,Tt,aQ,dc.same f9.s (dc.weak (fun x ay=>e7.eg ay) _ uo),by omega⟩ CP rfl (f9.s _ _ i2)⟩
theorem aak(nb:dW mg)(T:og K (c.t 1))(F:c5 K "draw" "Choice.draw" AO f fd)(n0:gU P w K mg base 4 "draw_fixed" ["source","most"] (zN aE C))(j0:m2 P w K mg base (2*n+7) "draw" ["self","source"] (eO c) (jx aE N has c C n)):cq P w K mg base (fH P w) (2*n+7+1) f fd ["self","source"] (jx aE N has c C (n+1) (.t 1)):=by
 refine F.iF LY (fun bh A _ s H vs Q E az h=>?_)
 obtain⟨o,p,al,ec,l,j,t,e,X,rfl,hs,bx,aP,cu,b2,aB,cv,eQ,dC,q⟩:=h
 obtain⟨ns,fs,rfl⟩:=vY hs
 obtain⟨oV,j6,jW,iU,os,aK,agr,ags,g1,g2,ez⟩:=bx
 obtain⟨e9,mK,iC⟩:=aP.two
 have iB:hA fs<=n:=by rw[aT]at cu;omega
 have y3:=(oo e9).1
 have ne:∀{b:ae},b∉[p]->b≠p:=fun h z=>h (fU.mpr z)
 have adf:0<fs.length:=by
  have h:=e9
  unfold jP at h
  simp only[hK,jJ]at h
  omega
 have ar:ba (fs.length-1)<=5:=hn (w:=5) (by omega)
 rw[bT,if_neg (by decide)]at q
 have oJ:(((ns.map V.str).length:Nat):Int)-1=((fs.length-1:Nat):Int):=by rw[cC];omega
 refine⟨_,(aM (bS 2 LY.bp (lb n0 az gx.x (av (ai 1) (av (aO gp (cy d7 I nb.d1 d2 (av (et (ai 0) I) aA)) aD) aA)) (hk:=by omega)))
  (aS (bG (jM (av (cP cU (et (ai 0) rfl) (ai 2)) (av (rE j0 az gx.x (cP cU (et (ai 0) rfl) (ai 2)) (av (ai 1) aA) (hk':=by omega)) aA)))))),?_⟩
 try dsimp only[cQ,cR,cS,cT]
 refine⟨_,I,_,I,o,c.t 1,j6,_,_,I,aK,T.cl,T.sv,hU ..,_,_,I,.inl ⟨_,b1 g1,I⟩,_,_,I,I,p,al,l,j,fs.length-1,t,e,by rw[<-oJ],b2,aB,cv,by omega,cY.call q (b6.refl _ _) fun i s v H1 w2 aC hj bg IF gw l3 q=>?_⟩
 subst bg gw
 have al6:=tP (UF _) aC
 have wX:i<fs.length:=by omega
 have uw:ns[i]?=J (ns.getD i af.empty):=by rw[fu,dR (show i<ns.length by omega)];rfl
 generalize ns.getD i af.empty=m at uw q
 have hm:m∈ns:=kl uw
 have sb:=dR wX
 rw[Nz fs i _ wX,fu,sb]at q
 have q:cY (h9 X) aE C p al l t e H Q E ((bT N e fs[i] (sees l t w2)).bd fun d s =>.ok (.tup [.str m,d]) s):=q
 obtain⟨oW,mL,ui⟩:=eL.ge fs ez sb
 have r5:=b0.kU hj _ ui
 obtain⟨oM,yX⟩:=iC.get sb
 obtain⟨fK,fM,e3,li⟩:=b0.draw _ r5
 have qX:m.length<=100000:=eE ((oo e9).2 m hm) (by decide)
 refine⟨_,I,o,c.t 1,j6,_,_,I,hj.k _ _ (ne oV) aK,T.cl,T.sv,hU ..,_,I,C7 (.inl (hj.k _ _ (ne agr) g1)) (show(ns.map V.str)[i]?=J (V.str m) by rw[gf,uw];rfl) ⟨_,rfl,o,c.t 1,j6,_,_,rfl,hj.k _ _ (ne oV) aK,T.cl,T.q6,pV _ _ _ _ ue,_,rfl,C7 (.inl (hj.k _ _ (ne ags) g2)) (show(os.map V.ref)[i]?=J (V.ref oW) by rw[gf,mL];rfl) ⟨oW,slot _,fK,fM,rfl,e3,li,_,rfl,oW,p,al,_,l,w2,t,e,X,rfl,rfl,r5,oM,by omega,l3,aB,IF,eQ,b6.alloc hj l3 dC,cY.call q hj fun d s v ax w3 _ M2 uo CP hS i2 q=>⟨iQ,fun tt sl=>?_⟩⟩⟩⟩
 have M:=hj.trans M2
 have f9:=Ext.tup (xs:=[V.str m,v]) sl
 have adn:tt∉X:=fun z=>by
  obtain⟨P1,eZ⟩:=b6.alloc M i2 dC _ z
  rw[sl]at eZ;cases eZ
 exact⟨_,(M.ext f9).sub (f9.s _ _ i2),q _ _ w3 (M.ext f9) ⟨tt,_,I,adn,aQ,⟨_,_,I,⟨I,qX⟩,v,[],I,dj.same f9.s uo,I⟩,by simp⟩ CP hS (f9.s _ _ i2)⟩
theorem Zy(nb:dW mg)(pO:ej mg "LONGEST_TEXT" (.int 200))(fm:fz K C)(T:tn K c.l)(F:c5 K "draw" "Letters.draw" AB f fd)(gV:jF P w K mg base 3 C "draw" ["self"] (oZ aE C))(lJ:jF P w K mg base 3 C "refuse" ["self"] (xl aE C))(n0:gU P w K mg base 4 "draw_fixed" ["source","most"] (zN aE C)):cq P w K mg base (fH P w) 5 f fd ["self","source"] (jx aE N has c C n .l):=by
 refine F.iF E2 (fun bh A _ s H vs Q E az h=>?_)
 obtain⟨o,p,al,ec,l,j,t,e,X,rfl,hs,bx,aP,cu,b2,aB,cv,eQ,dC,q⟩:=h
 obtain⟨aY,rfl⟩:=GD hs
 obtain⟨oV,j6,aK⟩:=bx
 have qY:kR aY=ah/\aY.length<=60:=by have:=aP.1;rw[fq]at this;exact this
 have oP:=Md qY.1
 have op:o≠p:=fun z=>oV (fU.mpr z)
 have ar:=GF qY.2
 rw[bT]at q
 obtain⟨W,l6⟩:∃W:List Nat->List Bool->R D,W=fun w s =>.ok (.str ⟨w.toArray⟩) s:=⟨_,rfl⟩
 rw[<-l6]at q
 refine⟨_,(aM (bS 2 E2.bp cw)
  (aM (rG jC.leaving (cd da (mw gV fm az gx.x (ai 1)) aD)
   (aM (cW (cd da (cy d7 rfl nb.d1 d2 (av (ai 2) aA)) (hv pO)) (aS (iO (mw lJ fm az gx.x (ai 1)))) cV)
   (aS (bS 2 E2.bp (aO dr (ai 2) (cP cU (et (ai 0) rfl) (lb n0 az gx.x (av (ai 1) (av (aO gp (cy d7 rfl nb.d1 d2 (av (et (ai 0) rfl) aA)) aD) aA)))))))))
  (aS (bG (ai 2))))),?_⟩
 try dsimp only[cQ,cR,cS,cT]
 refine⟨fun m ab ax=>∃(cs:List Nat)(j:Nat),cs.length+m=201/\ab=[J (.ref o),J (.ref p),J (.str ⟨cs.toArray⟩)]/\b6 p H ax/\j<=l.length/\ax p=J (g7 C al l j t e)/\cY (h9 X) aE C p al l t e H Q E ((iZ e aY m cs (sees l t j)).bd W),⟨201,[],j,I,I,b6.refl _ _,cv,b2,q⟩,?_⟩
 rintro m ab ax ⟨cs,j,hm,rfl,M2,cv,i2,q⟩
 cases m with
 |zero=>exact absurd q id
 |succ m =>
 rw[iZ,qy]at q
 refine⟨_,I,p,al,_,I,i2,qx,p,al,l,j,t,e,ag,I,i2,aB,cv,cY.call q M2 fun b s v bA dV _ cI bg gj hT dX q=>?_⟩
 have cL:=vt gj hT
 subst bg hT
 have cI:=M2.trans cI
 have ze:(⟨cs.toArray⟩:af).length=cs.length:=by show cs.toArray.size=_;rw[fW]
 refine⟨I,_,I,?_⟩
 cases b with
 | true =>
  have q:cY (h9 X) aE C p al l t e H Q E ((if cs.length=200 then .no ah (sees l t dV).length else(fx e (aY.length-1) (ba (aY.length-1)) 0 (sees l t dV)).bd fun i s=>iZ e aY m (cs++[aY.cps.toList.getD i 0]) s).bd W):=q
  refine jw I ⟨_,fun _ _ h=>h,?_⟩
  refine⟨_,I,_,_,I,⟨fg (by omega),I⟩,I,_,I,e5 (fun t5=>?_) (fun t5=>?_)⟩
  ·have qK:cs.length=200:=by have:=V.int.inj t5;omega
   rw[if_pos qK]at q
   have q:jg E p H (aE ah) (jn l ah (sees l t dV).length):=q
   unfold jn at q
   rw[if_pos rfl,cL.1]at q
   exact⟨_,I,p,al,_,I,dX,Bz,p,al,l,dV,t,e,I,dX,by omega,q.up cI⟩
  ·have qK:cs.length≠200:=fun z=>t5 (by rw[ze,z];rfl)
   rw[if_neg qK,qy]at q
   have Pm:=cI.k _ _ op aK
   have aL:(aY.length:Int)-1=((aY.length-1:Nat):Int):=by omega
   refine⟨_,I,_,I,o,c.l,j6,_,_,I,Pm,T.cl,T.nJ,hU ..,?_⟩
   refine⟨_,I,_,I,o,c.l,j6,_,_,I,Pm,T.cl,T.nJ,hU ..,_,_,I,⟨fg (by omega),I⟩,_,_,I,I,p,al,l,dV,aY.length-1,t,e,by rw[<-aL],dX,aB,gj,by omega,cY.call q cI fun i s v hF mO aC fI bg mH mM jq q=>?_⟩
   subst bg mM
   have CN:=tP (UF _) aC
   have sd:i<aY.cps.toList.length:=by rw[h5];show i<aY.length;omega
   have jr:eG aY.cps.toList ((i:Nat):Int)=J (aY.cps.toList.getD i 0):=dA (by rw[fu,dR sd];rfl)
   generalize aY.cps.toList.getD i 0=ch at jr q
   refine .inr ⟨_,_,ch,I,I,fg (by omega),jr,.inr ⟨_,_,I,I,fg (by rw[ze];exact eE (Nat.add_le_add (show cs.length<=300 by omega) (cE 1)) (by decide)),?_⟩⟩
   refine⟨m,by omega,cs++[ch],mO,by rw[cD,hL];omega,?_,cI.trans fI,mH,jq,q⟩
   have aZ:(⟨cs.toArray⟩:af)++(⟨#[ch]⟩:af)=⟨(cs++[ch]).toArray⟩:=by
    apply yf
    rw[wc]
   rw[aZ];rfl
 |false =>
  have q:cY (h9 X) aE C p al l t e H Q E (W cs (sees l t dV)):=q
  rw[l6]at q
  refine gg (by decide) ?_
  exact⟨_,I,_,cI.sub dX,q _ _ dV cI ⟨I,by omega⟩ gj rfl dX⟩
noncomputable def xj{α:Type}(a0 a1 a2 a3 a4 a5 a6 a7 a8 a9 a10:α):eW->α
 |.b 0=>a0
 |.b 1=>a1
 |.b 2=>a2
 |.b _=>a3
 |.s=>a4
 |.l=>a5
 |.o 0=>a6
 |.o 1=>a7
 |.o _=>a8
 |.t 0=>a9
 |.t _=>a10
theorem rM{p:eW->Prop}(bu:p (.b 0))(aj:p (.b 1))(aq:p (.b 2))(bl:p (.b 3))(bW:p .s)(d0:p .l)(jQ:p (.o 0))(qL:p (.o 1))(yI:p (.o 2))(r2:p (.t 0))(acH:p (.t 1)):∀i,p i
 |.b k=>by rcases ub k with rfl|rfl|rfl|rfl<;>assumption
 |.s=>bW
 |.l=>d0
 |.o k=>by rcases rZ k with rfl|rfl|rfl<;>assumption
 |.t k=>by rcases wB k with rfl|rfl<;>assumption
def ph(K:bN)(c:dP)(m:af)(q:eW->af)(st:eW->br)(ps:List af):Prop:=∀i,MethAt K (eO c i) m (q i) (st i) ps
theorem ho{K:bN}{C:ae}{m:af}{st:br}{sp:b3}(M:MethAt K C m q st ps)(h:∀f fd,c5 K m q st f fd->cq P w K mg base dv k f fd ps sp):mm P w K mg base k C m ps sp/\fz K C:=by
 obtain⟨f,fd,G,ar,hm⟩:=M.ex
 exact⟨⟨f,fd,h f fd G,ar,hm⟩,M.cl⟩
structure AW(K:bN)(c:dP):Prop where
 JW:vN K c.s
 JU:tn K c.l
 rf:∀k,kI K (c.o k)
 xq:∀k,og K (c.t k)
noncomputable def hasAll:eW->Bool:=fun _=>ah
noncomputable def G8:eW->af:=xj "Nothing.fits" "Truth.fits" "Whole.fits" "Fraction.fits" "Span.fits" "Letters.fits" "Maybe.fits" "Many.fits" "Turned.fits" "Record.fits" "Choice.fits"
noncomputable def Hi:eW->br:=xj As Be Bc Ao Bj AA Bg Bl AG AL AN
noncomputable def F8:eW->af:=xj "Nothing.written" "Truth.written" "Whole.written" "Fraction.written" "Span.written" "Letters.written" "Maybe.written" "Many.written" "Turned.written" "Record.written" "Choice.written"
noncomputable def Gg:eW->br:=xj A2 Al Ak A9 Aq A3 An Az A4 A5 A7
theorem aay(nb:dW mg)(L:AW K c)(S:ph K c "fits" G8 Hi ["self","value"])(pP:ej mg "MOST_VALUES" (.int 60))(pO:ej mg "LONGEST_TEXT" (.int 200))(m7:bD P w K mg base 1 "is_number" ["value"] zQ)(tc:bD P w K mg base 2 "has_whole_row" ["n"] JF)(n3:bD P w K mg base 1 "made_of" ["text","signs"] zR)(xG:bD P w K mg base 3 "has_fraction_row" ["fraction"] JE):∀n,ij P w K mg base (2*n+4) "fits" ["self","value"] (eO c) (i8 hasAll jK c n):=by
 intro n
 induction n with
 |zero=>exact fun i=>⟨MJ (S i) (fun vs H Q E z=>by obtain⟨o,f,_,_,_,_,_,_,h,_⟩:=z;have:=ys f;omega),(S i).cl⟩
 |succ n cM=>exact rM (ho (S _) fun _ _ G=>(Zt G).mono (by omega)) (ho (S _) fun _ _ G=>(Uc G).mono (by omega)) (ho (S _) fun _ _ G=>(Ub G m7 tc).mono (by omega)) (ho (S _) fun _ _ G=>(YO nb G m7 xG).mono (by omega)) (ho (S _) fun _ _ G=>(Vg L.JW G m7).mono (by omega)) (ho (S _) fun _ _ G=>(Zu nb pO L.JU G n3).mono (by omega)) (ho (S _) fun _ _ G=>(Ud nb (L.rf 0) G cM).mono (by omega)) (ho (S _) fun _ _ G=>(Vh nb pP (L.rf 1) G cM).mono (by omega)) (ho (S _) fun _ _ G=>(Z2 (L.rf 2) G cM).mono (by omega)) (ho (S _) fun _ _ G=>(Z3 nb (L.xq 0) G cM).mono (by omega)) (ho (S _) fun _ _ G=>(Z4 nb (L.xq 1) G cM).mono (by omega))
theorem YX(nb:dW mg)(L:AW K c)(S:ph K c "written" F8 Gg ["self","value"])(xT:mm P w K mg base 1 c.l "places" ["self","text"] (JK c.l))(rq:bD P w K mg base 3 "whole_row" ["n"] Bo)(n1:bD P w K mg base 2 "fixed_row" ["n","most"] zO)(n4:bD P w K mg base 1 "turned_row" ["row"] x3)(rp:bD P w K mg base 1 "steps_of" ["fraction"] DC)(xH:bD P w K mg base 4 "row_of_steps" ["steps"] JM):∀n,ij P w K mg base (2*n+4) "written" ["self","value"] (eO c) (jy hasAll jK dw c n):=by
 intro n
 induction n with
 |zero=>exact fun i=>⟨MJ (S i) (fun vs H Q E z=>by obtain⟨o,f,_,_,_,_,_,_,h,_⟩:=z;have:=ys f;omega),(S i).cl⟩
 |succ n cM=>exact rM (ho (S _) fun _ _ G=>(Wn G).mono (by omega)) (ho (S _) fun _ _ G=>(WJ G).mono (by omega)) (ho (S _) fun _ _ G=>(Wv G rq).mono (by omega)) (ho (S _) fun _ _ G=>(Wl G rp xH).mono (by omega)) (ho (S _) fun _ _ G=>(WK L.JW G n1).mono (by omega)) (ho (S _) fun _ _ G=>(Wo nb L.JU G (S .l).cl xT n1).mono (by omega)) (ho (S _) fun _ _ G=>(WL nb (L.rf 0) G cM).mono (by omega)) (ho (S _) fun _ _ G=>(W3 nb (L.rf 1) G cM).mono (by omega)) (ho (S _) fun _ _ G=>(Ww (L.rf 2) G n4 cM).mono (by omega)) (ho (S _) fun _ _ G=>(Wx nb (L.xq 0) G cM).mono (by omega)) (ho (S _) fun _ _ G=>(Wz nb (L.xq 1) G n1 cM).mono (by omega))
def zU(has:eW->Bool)(bL:D->Bool)(fw:D->List Bool)(c:dP)(n:Nat):b3:=fun vs H Q E=>∃i,jy has bL fw c n i vs H Q E
theorem Yh(F:c5 K "row" "Form.row" kM f fd)(iX:ij P w K mg base (2*n+4) "fits" ["self","value"] (eO c) (i8 has bL c n))(k4:ij P w K mg base (2*n+4) "written" ["self","value"] (eO c) (jy has bL fw c n)):cq P w K mg base dv (2*n+4+1) f fd ["self","value"] (zU has bL fw c n):=by
 refine F.hV Yx (fun bh A _ s H vs Q E az h=>?_)
 obtain⟨df,o,ec,v,d,rfl,hs,bx,aP,cu,hd,aG,aB,q⟩:=h
 obtain⟨fK,fM,e3,li⟩:=b0.fits ec bx
 obtain⟨abm,ab5,kv,afH⟩:=b0.written ec bx
 refine⟨_,(aM (cW (kp (iu (jh iX az (ai 0) (av (ai 1) aA) (hk:=by omega)))) (aS oj) cV)
  (aS (bG (jh k4 az (ai 0) (av (ai 1) aA) (hk:=by omega))))),?_⟩
 try dsimp only[cQ,cR,cS,cT]
 refine⟨_,I,o,slot ec,fK,fM,I,e3,li,_,I,o,ec,v,d,I,I,bx,aP,cu,hd,aG,ah,I,?_⟩
 refine fb ⟨_,I,o,slot ec,abm,ab5,I,kv,afH,_,I,o,ec,v,d,I,I,bx,aP,cu,hd,aG,aB,H,.refl (eb _),q⟩
theorem b0.row{c:dP}(f:bF)(h:b0 c X H f o):∃al fs,H o=J (.ins (eO c (slot f)) al fs)/\fs.lookup (af.ofString "row")=aw :=
 b0.ins (m:=af.ofString "row") (by decide+kernel) (by decide+kernel) (by decide+kernel) (by decide+kernel) (by decide+kernel) (by decide+kernel) f h
theorem Vy(S:ph K c "row" (fun _=>"Form.row") (fun _=>kM) ["self","value"])(iX:ij P w K mg base (2*n+4) "fits" ["self","value"] (eO c) (i8 has bL c n))(k4:ij P w K mg base (2*n+4) "written" ["self","value"] (eO c) (jy has bL fw c n)):ij P w K mg base (2*n+5) "row" ["self","value"] (eO c) (fun _=>zU has bL fw c n):=fun i=>ho (S i) fun _ _ G=>Yh G iX k4
theorem b6.new(x:Ext H H1)(bu:H p=aw)(m:b6 p H1 ax):Ext H ax:=⟨fun b u e=>m.k b u (fun z=>by rw[z,bu]at e;cases e) (x.s b u e),fun cl=>m.c (x.c cl)⟩
theorem lR{K:bN}{C:ae}{m:af}{st:br}{sp:b3}(M:MethAt K C m q st ps)(h:∀f fd,c5 K m q st f fd->cq P w K mg base (fH P w) k f fd ps sp):jF P w K mg base k C m ps sp/\fz K C:=by
 obtain⟨f,fd,G,ar,hm⟩:=M.ex
 exact⟨⟨f,fd,h f fd G,ar,hm⟩,M.cl⟩
noncomputable def G9:eW->af:=xj "Nothing.draw" "Truth.draw" "Whole.draw" "Fraction.draw" "Span.draw" "Letters.draw" "Maybe.draw" "Many.draw" "Turned.draw" "Record.draw" "Choice.draw"
noncomputable def Hj:eW->br:=xj Au Bf Bd Ap Bk AB Bh Bm AH AM AO
theorem aaz{c:dP}{C:ae}(aX:N<=1000)(nb:dW mg)(L:AW K c)(S:ph K c "draw" G9 Hj ["self","source"])(fm:fz K C)(pP:ej mg "MOST_VALUES" (.int 60))(pO:ej mg "LONGEST_TEXT" (.int 200))(gV:jF P w K mg base 3 C "draw" ["self"] (oZ aE C))(lK:mm P w K mg base 1 C "turn" ["self"] (zW C))(lJ:jF P w K mg base 3 C "refuse" ["self"] (xl aE C))(n0:gU P w K mg base 4 "draw_fixed" ["source","most"] (zN aE C))(ro:gU P w K mg base 6 "draw_whole" ["source"] (DE aE C))(xF:gU P w K mg base 7 "draw_fraction" ["source"] (JD aE N C)):∀n,m2 P w K mg base (2*n+7) "draw" ["self","source"] (eO c) (jx aE N hasAll c C n):=by
 intro n
 induction n with
 |zero=>exact fun i=>⟨Zj (S i) (fun vs H Q E z=>by obtain⟨o,_,_,f,_,_,_,_,_,_,_,_,_,h,_⟩:=z;have:=ys f;omega),(S i).cl⟩
 |succ n cM=>exact rM (lR (S _) fun _ _ G=>(Zx G).mono (by omega)) (lR (S _) fun _ _ G=>(Us fm G gV).mono (by omega)) (lR (S _) fun _ _ G=>(Ur G ro).mono (by omega)) (lR (S _) fun _ _ G=>(YT aX G xF).mono (by omega)) (lR (S _) fun _ _ G=>(Vr L.JW G n0).mono (by omega)) (lR (S _) fun _ _ G=>(Zy nb pO fm L.JU G gV lJ n0).mono (by omega)) (lR (S _) fun _ _ G=>(Ut fm (L.rf 0) G gV cM).mono (by omega)) (lR (S _) fun _ _ G=>(Vs nb pP fm (L.rf 1) G gV lJ cM).mono (by omega)) (lR (S _) fun _ _ G=>(aai fm (L.rf 2) G lK cM).mono (by omega)) (lR (S _) fun _ _ G=>(aaj nb (L.xq 0) G cM).mono (by omega)) (lR (S _) fun _ _ G=>(aak nb (L.xq 1) G n0 cM).mono (by omega))
theorem TJ(l:List Bool):sees l ag 0=l:=by
 unfold sees
 rw[List.drop_zero]
 have e:xor ag=(id:Bool->Bool):=by funext x;cases x<;>rfl
 rw[e,List.map_id]
noncomputable def mn(aE:Bool->ae)(cB:ae)(l:List Bool)(H:au)(Q:bB)(E:bR):R D->Prop
 |.ok d s=>if s=[]then ∀v H',Ext H H'->dj (e7.of H) H' d v->Q v H' else ∀d,H d=aw->E (.ref cB) (J d) (upd H d (iI ((l.length-s.length:Nat):Int)))
 |.no w k=>∀d,H d=aw->E (.ref (aE w)) (J d) (upd H d (iI (jn l w k)))
 |.st=>False
theorem mn.imp(h:mn aE cB l H Q E r)(k:∀v H',Q v H'->fT v H'):mn aE cB l H fT E r:=by
 cases r with
 | ok d s =>
  show if s=[]then _ else _
  have h:(if s=[]then ∀v H',Ext H H'->dj (e7.of H) H' d v->Q v H' else _):=h
  by_cases z:s=[]
  ·rw[if_pos z]at h ⊢
   exact fun v H' x hd=>k _ _ (h v H' x hd)
  ·rw[if_neg z]at h ⊢
   exact h
 |no w k=>exact h
 |st=>exact h
noncomputable def KM(aE:Bool->ae)(cB:ae)(l:List Bool)(p:ae)(H:au)(Q:bB)(E:bR):R D->Prop
 |.ok d s=>if s=[]then ∀v H' o,b6 p H H'->dj (e7.of H) H' d v->H' p=J o->Q v H' else jg E p H cB ((l.length-s.length:Nat):Int)
 |.no w k=>jg E p H (aE w) (jn l w k)
 |.st=>False
inductive Ry(aE:Bool->ae)(cB:ae)(N:Nat)(has:eW->Bool)(c:dP)(C:ae)(n:Nat)(vs:List V)(H:au)(Q:bB)(E:bR):Prop where
 |mk (o p al:ae) (f:bF) (l:List Bool) (e:Bool) (bu:vs=[.ref o,.ref p]) (aj:b0 c [p] H f o) (aq:ka has f) (bl:aT f<=n) (bW:H p=J (g7 C al l 0 ag e)) (d0:l.length<=16000000) (jQ:KM aE cB l p H Q E (bT N e f l)):Ry aE cB N has c C n vs H Q E
def JP(aE:Bool->ae)(cB:ae)(N:Nat)(has:eW->Bool)(c:dP)(C:ae)(n:Nat):b3:=fun vs H Q E=>Ry aE cB N has c C n vs H Q E
theorem YQ{f C:ae}{fd:fG}(nb:dW mg)(T:pv K C)(F:dx K mg "value_of" FN ["form","source"] f fd)(j0:m2 P w K mg base (2*n+7) "draw" ["self","source"] (eO c) (jx aE N has c C n))(EW:tH K mg "Left" eK rX)(ET:cq P w K mg base dv 1 rX rY ["self","place"] (sQ eK))(EP:Binds K rY ["self","place"] []):gU P w K mg base (2*n+8) "value_of" ["form","source"] (JP aE eK N has c C n):=by
 refine F.iF Me (fun bh A _ s H vs Q E az h=>?_)
 obtain⟨o,p,al,g,l,e,rfl,bx,aP,cu,b2,aB,q⟩:=h
 obtain⟨fK,fM,e3,li⟩:=b0.draw g bx
 refine⟨_,(aM (bS 2 Me.bp (rE j0 az gx.x (ai 0) (av (ai 1) aA) (hk':=by omega)))
  (aM (cW (cd mR (et (ai 1) rfl) (cy d7 rfl nb.d1 d2 (av (et (ai 1) rfl) aA))) (aS (F9 F4 EW ET EP az (av (et (ai 1) rfl) aA) (hk:=by omega))) cV)
  (aS (bG (ai 2))))),?_⟩
 try dsimp only[cQ,cR,cS,cT]
 refine⟨_,I,o,slot g,fK,fM,I,e3,li,?_⟩
 refine⟨_,I,o,p,al,g,l,0,ag,e,e7.of H,I,I,bx,aP,cu,b2,aB,UF _,⟨_,b2⟩,fun y z=>z,?_⟩
 rw[TJ]
 cases cJ:bT N e g l with
 | ok d s =>
  rw[cJ]at q
  have q:(if s=[]then ∀v H' o,b6 p H H'->dj (e7.of H) H' d v->H' p=J o->Q v H' else jg E p H eK ((l.length-s.length:Nat):Int)):=q
  refine fun v H' j M hd cv hs kS=>?_
  have cL:=vt cv hs
  refine⟨_,I,p,C,al,_,_,I,kS,T.cl,T.q7,tk ..,_,I,p,C,al,_,_,I,kS,T.cl,T.nJ,Bt ..,_,_,I,⟨gT (by rw[cF];omega),I⟩,.inl ⟨_,_,I,I,_,I,?_⟩⟩
  by_cases z:s=[]
  ·rw[if_pos z]at q
   refine gg (by rw[cF];rw[z]at cL;have:=cL.1;rw[List.length_nil]at this;omega) ?_
   exact⟨_,I,_,M.sub kS,q _ _ _ M hd kS⟩
  ·rw[if_neg z]at q
   have:0<s.length:=List.length_pos_iff.mpr z
   refine jw (by rw[cF];omega) ?_
   rw[cL.1]at q
   exact⟨_,I,p,C,al,_,_,I,kS,T.cl,T.q7,tk ..,_,I,Gb (by omega),fun d hd=>q.up M _ d _ (b6.refl _ _) kS hd⟩
 |no w k =>
  rw[cJ]at q
  exact jg.up q (b6.refl _ _)
 |st =>
  rw[cJ]at q
  exact q
inductive Rm(aE:Bool->ae)(cB:ae)(N:Nat)(has:eW->Bool)(e:Bool)(c:dP)(n:Nat)(vs:List V)(H:au)(Q:bB)(E:bR):Prop where
 |mk (o:ae) (f:bF) (l:List Bool) (bu:vs=[.ref o,.str (aV l)]) (aj:b0 c [] H f o) (aq:ka has f) (bl:aT f<=n) (bW:l.length<=16000000) (d0:mn aE cB l H Q E (bT N e f l)):Rm aE cB N has e c n vs H Q E
def zT(aE:Bool->ae)(cB:ae)(N:Nat)(has:eW->Bool)(e:Bool)(c:dP)(n:Nat):b3:=fun vs H Q E=>Rm aE cB N has e c n vs H Q E
theorem mn.go(fv:Ext H H1)(bu:H p=aw)(h:mn aE cB l H Q E r):KM aE cB l p H1 (fun v H'=>gB H H' (Q v)) (lZ H E) r:=by
 have key:∀(Z:ae)(i:Int),(∀d,H d=aw->E (.ref Z) (J d) (upd H d (iI i)))->jg (lZ H E) p H1 Z i:=fun Z i q o d H' M b2 hd=>by
  have es:=b6.new fv bu M
  exact⟨_,.new (es.s.free hd) (es.s.trans (dq hd)) aQ trivial,q d (es.s.free hd)⟩
 cases r with
 | ok d s =>
  show if s=[]then _ else _
  have h:(if s=[]then ∀v H',Ext H H'->dj (e7.of H) H' d v->Q v H' else ∀d,H d=aw->E (.ref cB) (J d) (upd H d (iI ((l.length-s.length:Nat):Int)))):=h
  by_cases z:s=[]
  ·rw[if_pos z]at h ⊢
   intro v H' o M hd _
   have es:=b6.new fv bu M
   exact⟨_,es.sub,h v H' es (dj.weak (X:=e7.of H) (Y:=e7.of H1) (fun x z=>by obtain⟨u,e⟩:=z;exact⟨u,fv.s _ _ e⟩) d hd)⟩
  ·rw[if_neg z]at h ⊢
   exact key _ _ h
 |no w k=>exact key _ _ h
 |st=>exact h
theorem YR{f C:ae}{c:dP}{fd:fG}{n:Nat}{has:eW->Bool}(F:dx K mg "read_all" FP ["form","signs"] f fd)(n9:jc P w K mg base 1 "Source" C ["self","signs","at"] (zV C))(ve:gU P w K mg base (2*n+8) "value_of" ["form","source"] (JP aE cB N has c C n)):gU P w K mg base (2*n+9) "read_all" ["form","signs"] (zT aE cB N has ag c n):=by
 refine F.iF Yu (fun bh A _ s H vs Q E az h=>?_)
 obtain⟨o,g,l,rfl,bx,aP,cu,aB,q⟩:=h
 refine⟨_,(aS (bG (lb ve az gx.x (av (ai 0) (av (px n9 az (av (ai 1) (av aD aA)) (hk:=by omega)) aA)) (hk:=by omega)))),?_⟩
 try dsimp only[cQ,cR,cS,cT]
 refine⟨_,I,_,I,fun x al nx zu zv=>?_⟩
 refine⟨x,al,_,_,I,aQ,I,?_⟩
 rw[iv]
 have fv:=Ext.made (C:=C) (fs:=uc (aV l) 0 ag ag) nx zu zv
 exact⟨o,x,al,g,l,ag,I,b0.keep (fun b u _ e=>fv.s b u e) g (b0.add nx g bx),aP,cu,aQ,aB,q.go fv nx⟩
theorem YS{f C:ae}{c:dP}{fd:fG}{n:Nat}{has:eW->Bool}(fm:fz K C)(F:dx K mg "begun_by" FX ["form","signs"] f fd)(n9:jc P w K mg base 1 "Source" C ["self","signs","at"] (zV C))(EB:mm P w K mg base 1 C "go_on" ["self"] (QM C))(ve:gU P w K mg base (2*n+8) "value_of" ["form","source"] (JP aE cB N has c C n)):gU P w K mg base (2*n+9) "begun_by" ["form","signs"] (zT aE cB N has ah c n):=by
 refine F.iF Mi (fun bh A _ s H vs Q E az h=>?_)
 obtain⟨o,g,l,rfl,bx,aP,cu,aB,q⟩:=h
 refine⟨_,(aM (bS 2 Mi.bp (px n9 az (av (ai 1) (av aD aA)) (hk:=by omega)))
  (aM (iO (ts EB fm az (ai 2) (hk:=by omega)))
  (aS (bG (lb ve az gx.x (av (ai 0) (av (ai 2) aA)) (hk:=by omega)))))),?_⟩
 try dsimp only[cQ,cR,cS,cT]
 refine⟨_,I,fun x al nx zu zv=>?_⟩
 refine⟨x,al,_,_,I,aQ,I,?_⟩
 rw[iv]
 refine⟨_,I,x,al,_,I,aQ,ya _ _ _ _ (by decide+kernel) (by decide+kernel) (by decide+kernel),x,al,l,0,ag,ag,0,I,aQ,?_⟩
 rw[iv]
 have h7:=Ext.made (C:=C) (fs:=uc (aV l) 0 ag ah) nx zu zv
 exact⟨_,I,_,I,o,x,al,g,l,ah,I,b0.keep (fun b u _ e=>h7.s b u e) g (b0.add nx g bx),aP,cu,aQ,aB,q.go h7 nx⟩
theorem RZ{p:e1->Prop}{D:Ends}(T:e1)(h:p T)(g:∀(G:Prop)(bU:St),bU=ab->(T D bU H->G)->G):∃T,p T/\T D ab H:=g _ ab rfl fun k=>⟨T,h,k⟩
theorem kY{KD:bN}{R:e1}{D:Ends}{w:V}{r:List V}(ay:ab[i]?=J (J (.ref T)))(e:H T=J (.tup (w::r)))(h:R D (ab.set j (J w)) H):xp (xo (p5 (fun x y H Q=>(Jp KD x y H Q\/Jr KD x y H Q)\/Jq x y H Q) (xr i) (p4 (.int 0))) (wF j)) R D ab H:=⟨_,ay,.inl (.inr ⟨_,_,_,_,rfl,rfl,dk e,dA (j:=0) rfl,h⟩)⟩
theorem h6{w x:af}{R:e1}{D:Ends}(ay:ab[i]?=J (J (.str x)))(bo:¬V.str x=V.str w)(h:R D ab H):xp (JT (DM (p5 Ds (xr i) (p4 (.str w)))) S JV) R D ab H:=⟨_,ay,rfl,_,rfl,gg bo h⟩
theorem lg{w:af}{R:e1}{D:Ends}(ay:ab[i]?=J (J (.str w)))(h:∀N:St->au->Prop,S {D with nx:=N} ab H):xp (JT (DM (p5 Ds (xr i) (p4 (.str w)))) S JV) R D ab H:=⟨_,ay,rfl,_,rfl,jw rfl (h _)⟩
theorem eS{R:e1}{D:Ends}(h:∀N:St->au->Prop,(∀ab H,R D ab H->N ab H)->S {D with nx:=N} ab H):xp S R D ab H:=h _ fun _ _ z=>z
inductive Rc(vs:List V)(H:au)(Q:bB)(E:bR):Prop where
 |mk (c:Int) (bu:vs=[.int c]) (aj:∀n:Nat,n+1<2^255->Q (.int n) H):Rc  vs H Q E
def Rb:b3:=fun vs H Q E=>Rc  vs H Q E
theorem aaE(c:Int)(bu:c%5≠0)(aj:c%5≠1):∃M:Int,eG [V.int 5,V.int 40,V.int 1000] (c%5-2)=J (.int M)/\0<M/\M<=1000:=by
 have h:c%5-2=((0:Nat):Int)\/c%5-2=((1:Nat):Int)\/c%5-2=((2:Nat):Int):=by omega
 rcases h with h|h|h<;>rw[h]
 .exact⟨_,dA I,by decide,by decide⟩
 .exact⟨_,dA I,by decide,by decide⟩
 .exact⟨_,dA I,by decide,by decide⟩
theorem VQ{x:Int}(h:0<=x):∃n:Nat,x=n:=⟨x.toNat,by omega⟩
theorem VF(r:Int)(h:0<=r):(2:Int)<=1*2^(1+r).toNat:=by
 have e:(1+r).toNat=r.toNat+1:=by omega
 rw[e,Int.one_mul,Int.pow_succ]
 have:(0:Int)<2^r.toNat:=Int.pow_pos (by decide)
 omega
theorem Hw:(1:Int)*2^(255:Int).toNat=2^255:=by decide
theorem YI(nb:dW mg)(F:dx K mg "_law_near" FV ["_law_cell"] f fd):bD P w K mg base 1 "_law_near" ["_law_cell"] Rb:=by
 refine F.fp Mg (fun bh A _ s H vs Q E az h=>?_)
 obtain⟨c,rfl,q⟩:=h
 refine⟨_,(aM (bS 1 Mg.bp (aO hx (ai 0) aD))
  (aM (cW (cd da (aO dG (ai 0) aD) aD) (aS (bG (aO dG (ai 1) (aO gp (aO Hb aD aD) aD)))) cV)
  (aM (cW (cd da (aO dG (ai 0) aD) aD) (aS (bG (cy (Gf rfl) rfl nb.I7 Hk (av (aO dr (aO gp (aO Hb aD (aO dr aD (aO dG (ai 1) aD))) aD) (aO dG (aO hx (ai 1) aD) aD)) (av (aO gp (aO Hb aD aD) aD) aA))))) cV)
  (aS (bG (aO dG (ai 1) (cP cU (gC (av aD (av aD (av aD aA)))) (aO gp (aO dG (ai 0) aD) aD)))))))),?_⟩
 try dsimp only[cQ,cR,cS,cT]
 have cZ:∀(x:Int)(H':au),0<=x->x+1<2^255->eD H H'->gB H H' (Q (.int x)):=fun x H' bu aj hs=>by
  obtain⟨n,rfl⟩:=VQ bu
  exact⟨H,.refl hs,q n (by omega)⟩
 refine⟨_,I,_,_,I,I,⟨by decide,by decide⟩,?_⟩
 refine⟨_,I,_,_,I,I,(by show(0:Int)<5;decide),I,_,I,?_⟩
 refine e5 (fun a=>?_) (fun a=>?_)
 ·have p:(0:Int)<2^255-1:=by decide
  refine⟨_,I,_,_,I,I,⟨by decide,by decide,by decide⟩,_,_,rfl,rfl,_,_,rfl,rfl,by(try dsimp only);rw[Hw];exact p,?_⟩
  try dsimp only
  rw[Hw]
  refine cZ _ _ (hu _ (by decide)) ?_ (eb _)
  have:=hJ (c/5) p
  omega
 ·refine⟨_,I,_,_,I,I,(by show(0:Int)<5;decide),I,_,I,?_⟩
  refine e5 (fun b=>?_) (fun b=>?_)
  ·refine⟨_,I,_,_,I,I,(by show(0:Int)<255;decide),.inl ⟨_,_,I,I,?_⟩⟩
   have kX:=hu (c/5) (show(255:Int)≠0 by decide)
   have cK:=hJ (c/5) (show(0:Int)<255 by decide)
   refine⟨_,_,I,I,⟨by omega,by omega,by decide⟩,_,_,rfl,rfl,?_⟩
   refine⟨_,I,_,_,I,I,⟨by decide,by decide⟩,_,_,rfl,rfl,(by show(0:Int)<3;decide),.inl ⟨_,_,rfl,rfl,?_⟩⟩
   refine⟨_,_,I,I,⟨by decide,by decide,by decide⟩,_,_,rfl,rfl,_,_,rfl,?_⟩
   have g:=VF (c/5%255) kX
   have s0:=hu (c/5/255) (show(3:Int)≠0 by decide)
   dsimp only
   rw[Hw]
   have big:(2:Int)<=2^255:=by decide
   refine cZ _ _ ?_ ?_ (eb _)
   .split<;>omega
   .split<;>omega
  ·obtain⟨M,ny,xS,hj⟩:=aaE c (fun z=>a (congrArg V.int z)) (fun z=>b (congrArg V.int z))
   refine⟨_,I,(by show 3<=bY;decide),fun r w0=>⟨_,I,_,_,I,I,(by show(0:Int)<5;decide),_,_,I,I,.inl (.inl ⟨_,_,_,_,I,I,b1 aQ,ny,_,_,I,I,xS,?_⟩)⟩⟩
   have m0:=hu (c/5) (Int.ne_of_gt xS)
   have f6:=hJ (c/5) xS
   have big:(2:Int)+1000<=2^255:=by decide
   exact cZ _ _ m0 (by omega) (dq w0)
inductive Ro(vs:List V)(H:au)(Q:bB)(E:bR):Prop where
 |mk (c:Int) (bu:vs=[.int c]) (aj:∀n:Int,iM n->Q (.int n) H):Ro  vs H Q E
def JN:b3:=fun vs H Q E=>Ro  vs H Q E
theorem XC(F:dx K mg "_law_signed" Fm ["_law_cell"] f fd)(Af:bD P w K mg base 1 "_law_near" ["_law_cell"] Rb):bD P w K mg base 2 "_law_signed" ["_law_cell"] JN:=by
 refine F.fp Xp (fun bh A _ s H vs Q E az h=>?_)
 obtain⟨c,rfl,q⟩:=h
 refine⟨_,(aM (cW (cd da (aO dG (ai 0) aD) aD) (aS (bG (aO gp (lh k5 aD) (cj Af az (av (aO hx (ai 0) aD) aA))))) cV)
  (aS (bG (cj Af az (av (aO hx (ai 0) aD) aA))))),?_⟩
 try dsimp only[cQ,cR,cS,cT]
 refine⟨_,I,_,_,I,I,(by show(0:Int)<2;decide),I,_,I,?_⟩
 refine e5 (fun a=>?_) (fun a=>?_)
 .refine⟨_,I,_,I,_,_,I,I,⟨by decide,by decide⟩,_,rfl,fun n bo=>⟨_,_,rfl,rfl,H,.refl (eb _),q _ ⟨?_,?_⟩⟩⟩<;>omega
 .refine⟨_,I,_,_,I,I,⟨by decide,by decide⟩,_,rfl,fun n bo=>⟨H,.refl (eb _),q _ ⟨?_,?_⟩⟩⟩<;>omega
theorem tM(f:α->V)(xs:List α)(c m:Int)(hm:m=xs.length)(h:0<xs.length):∃n,n∈xs/\eG (xs.map f) (c%m)=J (f n):=by
 subst hm
 have aj:=hu c (b:=(xs.length:Int)) (by omega)
 have aq:=hJ c (b:=(xs.length:Int)) (by omega)
 obtain⟨k,hk⟩:=Int.eq_ofNat_of_zero_le aj
 rw[hk]
 have y0:k<xs.length:=by omega
 exact⟨xs[k],List.getElem_mem y0,dA (by rw[gf,dR y0];rfl)⟩
theorem jL(c:Int)(n:Nat)(h:0<n):∃k:Nat,k<n/\c%((n:Nat):Int)=((k:Nat):Int):=by
 have aj:=hu c (b:=(n:Int)) (by omega)
 have aq:=hJ c (b:=(n:Int)) (by omega)
 obtain⟨k,hk⟩:=Int.eq_ofNat_of_zero_le aj
 exact⟨k,by omega,hk⟩
inductive Rk(K:bN)(vs:List V)(H:au)(Q:bB)(E:bR):Prop where
 |mk (a:ae) (ns:List Int) (bu:vs=[.ref a]) (aj:dE K H a (ns.map V.int)) (aq:ns.length<=63) (bl:∀(p:ae)(ms:List Int),H p=aw->ms.length<=90->Q (.ref p) (upd H p (.lst (ms.map V.int)))):Rk K vs H Q E
def Rj(K:bN):b3:=fun vs H Q E=>Rk K vs H Q E
theorem YH(nb:dW mg)(F:dx K mg "_law_pool" FT ["_law_script"] f fd):bD P w K mg base 1 "_law_pool" ["_law_script"] (Rj K):=by
 refine F.fp tF (fun bh A _ s H vs Q E az h=>?_)
 obtain⟨a,ns,rfl,b2,aB,q⟩:=h
 refine⟨_,(aM (bS 1 tF.bp (gC aA))
  (aM (pD jC.never rfl (rz rfl nb.p1 (av (aO kW aD (cy (Gf rfl) rfl nb.I7 Hk (av aD (av (cy d7 rfl nb.d1 d2 (av (ai 0) aA)) aA)))) aA)) (eF (i:=2) tF.bp rfl (by exact Or.inl I))
   (aM (bS 3 tF.bp (aO dr (cP cU (ai 0) (aO dG (ai 2) (cy (Gf rfl) rfl nb.I7 Hk (av aD (av (cy d7 rfl nb.d1 d2 (av (ai 0) aA)) aA))))) (aO kW (aO hx (ai 2) (cy d7 rfl nb.d1 d2 (av (ai 0) aA))) (aO dr (aO kW (aO kW (ai 2) (ai 2)) aD) aD))))
   (aM (cW (cd da (aO dG (aO hx (cP cU (ai 0) aD) aD) aD) aD) (aM (bS 3 tF.bp (aO dG (aO dr (aO dr (aO kW (ai 3) aD) (aO kW (ai 2) aD)) aD) aD))
    (aM (bS 3 tF.bp (aO dG (aO kW (ai 3) (ai 3)) aD))
    (aS (bS 3 tF.bp (aO dr (aO kW (ai 3) aD) (aO dG (aO kW (ai 3) (ai 3)) aD)))))) cV)
   (aS (iO (jG PySem.F.plainAttrs_list PySem.F.slot_list_append PySem.F.type_list_append tu (ai 1) (av (ai 3) aA)))))))
  (aS (bG (ai 1))))),?_⟩
 try dsimp only[cQ,cR,cS,cT]
 refine⟨UF _,fun p bj=>?_⟩
 have s0:=dq (o:=c2.lst []) bj
 refine⟨_,I,_,_,I,.inl ⟨_,s0.seq b2,I⟩,_,_,I,.inl ⟨_,_,I,I,.inl ⟨by decide,by decide⟩,?_⟩⟩
 rw[cC]
 refine⟨_,I,?_,?_,?_⟩
 .split<;>omega
 .split<;>omega
 have g0:(90*(if((ns.length:Nat):Int)<1 then((ns.length:Nat):Int)else 1)).toNat=if ns.length=0 then 0 else 90:=by split<;>split<;>omega
 rw[g0]
 refine vX (fun i ab ax=>∃(ms:List Int)(dh de:Option V),ab=[J (.ref a),J (.ref p),dh,de]/\ms.length=i/\ax=upd H p (.lst (ms.map V.int))) ?_ ?_ ?_
 .exact⟨[],aw,aw,I,I,I⟩
 ·rintro i ab ax aC ⟨ms,dh,de,rfl,hm,rfl⟩
  have mJ:ns.length≠0:=fun z=>by rw[if_pos z]at aC;omega
  rw[if_neg mJ]at aC
  have hs:=(dq (o:=c2.lst (ms.map V.int)) bj).seq b2
  obtain⟨k,hk,lk⟩:=jL (0+((i:Nat):Int)) (min 63 ns.length) (by omega)
  have y0:k<ns.length:=by omega
  have jr:eG (ns.map V.int) ((k:Nat):Int)=J (.int ns[k]):=dA (by rw[gf,dR y0];rfl)
  have acZ:eG (ns.map V.int) 0=J (.int ns[0]):=dA (j:=0) (by rw[gf,dR (by omega)];rfl)
  have em:(if(((ns.map V.int).length:Nat):Int)<63 then(((ns.map V.int).length:Nat):Int)else 63)=((min 63 ns.length:Nat):Int):=by rw[cC];split<;>omega
  have eY:=Int.ediv_nonneg (a:=0+((i:Nat):Int)) (b:=(((ns.map V.int).length:Nat):Int)) (by omega) (by omega)
  have iY:=Int.ediv_le_self (a:=0+((i:Nat):Int)) (((ns.map V.int).length:Nat):Int) (by omega)
  have lm:(((ns.map V.int).length:Nat):Int)=((ns.length:Nat):Int):=by rw[cC]
  refine⟨_,I,_,I,_,I,_,_,I,.inl ⟨_,hs,I⟩,_,_,I,_,_,I,I,(by rw[em];omega),.inl (.inl ⟨_,_,_,_,I,I,hs,(by rw[em,lk];exact jr),?_⟩)⟩
  refine⟨_,I,_,I,_,_,I,.inl ⟨_,hs,I⟩,_,_,I,I,⟨by omega,by omega⟩,?_⟩
  refine⟨_,I,_,I,.inl ⟨_,_,I,I,.inl ⟨by omega,by omega⟩,.inl ⟨_,_,rfl,rfl,.inr ⟨by decide,by decide⟩,.inl ⟨_,_,rfl,rfl,.inl ⟨_,_,rfl,rfl,.inl ⟨by omega,by omega⟩,.inl ⟨_,_,rfl,rfl,?_⟩⟩⟩⟩⟩⟩
  have cZ:∀(n:Int)(dh:Option V),∃(zp:List Int)(dh de:Option V),[J (V.ref a),J (V.ref p),J (V.int (0+((i:Nat):Int))),J (V.int n)]=[J (.ref a),J (.ref p),dh,de]/\zp.length=i+1/\upd (upd H p (.lst (ms.map V.int))) p (.lst (ms.map V.int++[V.int n]))=upd H p (.lst (zp.map V.int)):=fun n dh =>
   ⟨ms++[n],_,_,rfl,by rw[cD,hm];rfl,by rw[iv,fk];rfl⟩
  have cL:(ms.map V.int).length<bY:=by rw[cC];exact fB (show ms.length<100000 by omega) (by decide)
  refine⟨_,I,.inl (.inl ⟨_,_,_,_,I,I,hs,acZ,_,_,I,I,⟨by decide,by decide⟩,_,_,rfl,rfl,(by show(0:Int)<2;decide),rfl,_,rfl,e5 (fun fl=>?_) (fun fl=>?_)⟩)⟩
  ·refine⟨_,I,.inl ⟨_,_,I,I,.inr ⟨by decide,by decide⟩,_,rfl,.inl ⟨_,_,rfl,rfl,.inr ⟨by decide,by decide⟩,.inl ⟨_,_,rfl,rfl,.inl ⟨_,_,rfl,rfl,_,_,rfl,rfl,(by show(0:Int)<2147483629;decide),?_⟩⟩⟩⟩⟩
   dsimp only
   generalize dC:((ns[k]+(0+((i:Nat):Int))/_*_)*48271+(0+((i:Nat):Int))*69621+11)=X
   have f6:=hu X (show(2147483629:Int)≠0 by decide)
   have l9:=hJ X (show(0:Int)<2147483629 by decide)
   generalize X%2147483629=m at f6 l9 ⊢
   refine⟨_,I,_,I,.inl ⟨_,_,I,I,.inl ⟨by omega,by omega⟩,_,_,rfl,rfl,(by show(0:Int)<2147483587;decide),?_⟩⟩
   dsimp only
   have De:=hu (m*m) (show(2147483587:Int)≠0 by decide)
   have uH:=hJ (m*m) (show(0:Int)<2147483587 by decide)
   generalize m*m%2147483587=v at De uH ⊢
   refine⟨_,I,.inl ⟨_,_,I,I,.inl ⟨by omega,by omega⟩,_,rfl,_,rfl,.inl ⟨_,_,rfl,rfl,.inl ⟨by omega,by omega⟩,_,_,rfl,rfl,(by show(0:Int)<2147483563;decide),.inl ⟨_,_,rfl,rfl,?_⟩⟩⟩⟩
   refine⟨_,I,.inl ⟨I,_,b1 aQ⟩,_,I,p,_,_,I,I,aQ,cL,?_⟩
   exact cZ _ aw
  ·refine⟨_,I,.inl ⟨I,_,b1 aQ⟩,_,I,p,_,_,I,I,aQ,cL,?_⟩
   exact cZ _ aw
 ·rintro ab ax ⟨ms,dh,de,rfl,hm,rfl⟩
  refine⟨_,I,_,.new bj (dq bj) aQ trivial,q p ms bj ?_⟩
  split at hm<;>omega
theorem aji{n:Nat}(h:0<n):seqIndex? 0 n=J 0:=by
 obtain⟨j,aj,aq,_⟩:=BW (xs:=List.range n) (i:=0) (v:=0) (dA (j:=0) (by rw[List.getElem?_range h]))
 rw[mu]at aj
 rw[km]at aq
 obtain⟨_,z⟩:=aq
 rw[List.getElem_range]at z
 rw[aj,z]
inductive Rf(vs:List V)(H:au)(Q:bB)(E:bR):Prop where
 |mk (p:_) (bu:vs=[.ref p]) (aj:lM p H) (aq:∀(c:Int)(ns:List Int),ns.length<=90->Q (.int c) (upd H p (.lst (ns.map V.int)))):Rf  vs H Q E
def uW:b3:=fun vs H Q E=>Rf  vs H Q E
noncomputable def pl(H:au)(p:ae):Nat:=match H p with|some (.lst vs)=>vs.length|_=>0
theorem tU(h:H p=J (.lst vs)):pl H p=vs.length:=by unfold pl;rw[h]
inductive Rd(vs:List V)(H:au)(Q:bB)(E:bR):Prop where
 |mk (p:_) (bu:vs=[.ref p]) (aj:lM p H) (aq:∀(c:Int)(ns:List Int),ns.length<=90->(pl H p=ns.length+1\/pl H p=0/\ns=[]/\c=0)->Q (.int c) (upd H p (.lst (ns.map V.int)))):Rd  vs H Q E
def zS:b3:=fun vs H Q E=>Rd  vs H Q E
theorem X8(nb:dW mg)(F:dx K mg "_law_next" FU ["_law_pool_here"] f fd):bD P w K mg base 1 "_law_next" ["_law_pool_here"] zS:=by
 refine F.fp Yv (fun bh A _ s H vs Q E az h=>?_)
 obtain⟨p,rfl,⟨ns,bj,aB⟩,q⟩:=h
 have hm:=tU bj
 rw[cC]at hm
 refine⟨_,(aM (cW (cd da (cy d7 I nb.d1 d2 (av (ai 0) aA)) aD) (aS (bG aD)) cV)
  (aS (bG (jG PySem.F.plainAttrs_list PySem.F.slot_list_pop PySem.F.type_list_pop T5 (ai 0) (av aD aA))))),?_⟩
 try dsimp only[cQ,cR,cS,cT]
 refine⟨_,I,_,_,I,.inl ⟨_,b1 bj,I⟩,I,_,I,?_⟩
 rw[cC]
 cases ns with
 |nil =>
  refine jw I ?_
  have bu:=q 0 [] aB (.inr ⟨hm,rfl,rfl⟩)
  rw[Mx bj]at bu
  exact⟨H,.refl (eb _),bu⟩
 |cons c r =>
  refine gg (fun z=>nomatch z) ?_
  refine⟨_,I,.inl ⟨I,_,b1 bj⟩,p,_,0,0,.int c,I,I,bj,by decide,by decide,aji (by rw[cC];exact Nat.succ_pos _),rfl,?_⟩
  have y1:r.length<=90:=eE (Nat.le_succ _) aB
  exact⟨_,(dy.pop ⟨_,bj,aB⟩ y1).sub,q c r y1 (.inl hm)⟩
theorem bD.less{x:af}{sp:b3}(h:bD P w K mg base k x ps sp)(i:∀vs H Q E,sP vs H Q E->sp vs H Q E):bD P w K mg base k x ps sP:=by
 obtain⟨f,fd,F,r⟩:=h
 exact⟨f,fd,⟨fun vs H Q E q=>F.1 vs H Q E (i _ _ _ _ q),fun A outer s H args us vs Q E a b c d q=>F.2 A outer s H args us vs Q E a b c d (i _ _ _ _ q)⟩,r⟩
theorem ZU(h:uW vs H Q E):zS vs H Q E:=by
 obtain⟨p,e,ck,q⟩:=h
 exact⟨p,e,ck,fun c ns bo _=>q c ns bo⟩
inductive Rq(vs:List V)(H:au)(Q:bB)(E:bR):Prop where
 |mk (c:Int) (bu:vs=[.int c]) (aj:∀s:af,kR s=ah->s.length<=60->Q (.str s) H):Rq  vs H Q E
def Rp:b3:=fun vs H Q E=>Rq  vs H Q E
theorem X6(nb:dW mg)(F:dx K mg "_law_signs" Fv ["_law_cell"] f fd):bD P w K mg base 1 "_law_signs" ["_law_cell"] Rp:=by
 refine F.fp pz (fun bh A _ s H vs Q E az h=>?_)
 obtain⟨c,rfl,q⟩:=h
 refine⟨_,(aM (bS 1 pz.bp cw)
  (aM (bS 2 pz.bp (aO dr aD (aO dG (ai 0) (cP cU (gC (av aD (av aD (av aD (av aD aA))))) (aO dG (aO hx (ai 0) aD) aD)))))
  (aM (bS 3 pz.bp (aO hx (ai 0) aD))
  (aM (bS 4 pz.bp cw)
  (aM (pD jC.never rfl (rz rfl nb.p1 (av (ai 2) aA)) (eF (i:=5) pz.bp rfl (by exact Or.inl I))
   (aM (bS 6 pz.bp (aO dG (ai 3) (cy d7 rfl nb.d1 d2 (av (ai 1) aA))))
   (aM (bS 3 pz.bp (aO hx (ai 3) (cy d7 rfl nb.d1 d2 (av (ai 1) aA))))
   (aM (bS 4 pz.bp (aO dr (ai 4) (cP cU (ai 1) (ai 6))))
   (aS (bS 1 pz.bp (aO dr (iw iG (ai 1) iP (h8 (ai 6))) (iw iG (ai 1) (h8 (aO dr (ai 6) aD)) iP))))))))
  (aS (bG (ai 4)))))))),?_⟩
 try dsimp only[cQ,cR,cS,cT]
 refine⟨_,I,(by show 4<=bY;decide),fun g aH=>?_⟩
 obtain⟨x,ay,oQ⟩:=tM V.int [2,3,7,60] (c/60) 4 rfl (by show 0<4;decide)
 have w1:0<x/\x<=60:=by
  have:∀y∈([2,3,7,60]:List Int),0<y/\y<=60:=by decide
  exact this x ay
 refine⟨_,I,_,_,I,I,⟨by decide,by decide⟩,_,_,rfl,rfl,(by show(0:Int)<4;decide),.inl (.inl ⟨_,_,_,_,rfl,rfl,b1 aQ,oQ,_,_,rfl,rfl,w1.1,.inl ⟨_,_,rfl,rfl,?_⟩⟩)⟩
 have v0:=hu c (show x≠0 by omega)
 have v1:=hJ c w1.1
 generalize c%x=m at v0 v1 ⊢
 obtain⟨n,rfl⟩:=Int.eq_ofNat_of_zero_le v0
 refine⟨_,I,_,_,I,I,⟨by decide,by decide⟩,?_⟩
 refine⟨_,I,_,I,by omega,by omega,?_⟩
 have g0:(1+((n:Nat):Int)).toNat=n+1:=by omega
 rw[g0]
 refine vX (fun i ab ax=>eD H ax/\∃(rest found:af)(num:Int)(dh de g8:Option V),ab=[J (.int c),J (.str rest),g8,J (.int num),J (.str found),dh,de]/\rest.length=62-i/\found.length=i/\(found.cps.toList++rest.cps.toList).Perm qr.cps.toList) ?_ ?_ ?_
 ·refine⟨dq aH,qr,af.ofString "",c/240,aw,aw,_,I,Vz,by decide+kernel,?_⟩
  rw[show(af.ofString "").cps.toList=[] by decide+kernel]
  exact List.Perm.refl _
 ·rintro i ab ax aC ⟨hs,rest,found,num,dh,de,g8,rfl,aB,aG,bj⟩
  have nD:rest.length<=bY:=fg (by omega)
  obtain⟨k,hk,lk⟩:=jL num rest.length (by omega)
  obtain⟨aY,jr,abD⟩:=ZG hk
  have gD:=L6 rest k (by omega)
  have f3:=LW rest (k+1) (by omega)
  refine⟨_,I,_,I,_,_,I,⟨nD,I⟩,_,_,I,I,(by omega),?_⟩
  dsimp only
  rw[lk]
  refine⟨_,I,_,I,_,_,I,⟨nD,I⟩,_,_,I,I,⟨by omega,by omega⟩,?_⟩
  refine⟨_,I,_,I,_,I,.inr ⟨_,_,_,I,I,nD,jr,.inr ⟨_,_,I,I,fg (by show _+1<=_;omega),?_⟩⟩⟩
  have aI:((k:Nat):Int)+1=((k+1:Nat):Int):=by omega
  refine⟨_,I,_,I,_,I,.inr ⟨_,I,nD,_,I,_,I,.inl ⟨_,_,I,I,_,I,.inr ⟨_,I,nD,.inr ⟨_,_,I,I,?_,?_⟩⟩⟩⟩⟩
  .rw[gD,aI,f3];exact fg (by omega)
  ·rw[aI]
   refine⟨hs,_,_,_,_,_,_,I,?_,?_,?_⟩
   .rw[pB,gD,f3];omega
   .rw[pB,aG];rfl
   ·rw[wc,wc]
    exact(ZM abD).trans bj
 ·rintro ab ax ⟨hs,rest,found,num,dh,de,g8,rfl,aB,aG,bj⟩
  exact⟨_,I,H,.refl hs,q _ (Zq bj (by omega) (by omega)) (by omega)⟩
inductive Ra(vs:List V)(H:au)(Q:bB)(E:bR):Prop where
 |mk (c:Int) (m:Nat) (bu:vs=[.int c,.int ((m:Nat):Int)]) (aj:0<m) (aq:m<=20) (bl:∀(D:ae)(ns:List af),H D=aw->ns.length=m->jP ns=ah->Q (.ref D) (upd H D (.lst (ns.map V.str)))):Ra  vs H Q E
def JI:b3:=fun vs H Q E=>Ra  vs H Q E
theorem X9(nb:dW mg)(F:dx K mg "_law_names" Fx ["_law_cell","_law_many"] f fd):bD P w K mg base 1 "_law_names" ["_law_cell","_law_many"] JI:=by
 refine F.fp oq (fun bh A _ s H vs Q E az h=>?_)
 obtain⟨c,m,rfl,II,hm,q⟩:=h
 refine⟨_,(aM (bS 2 oq.bp cw)
  (aM (bS 3 oq.bp (aO dG (ai 0) aD))
  (aM (bS 4 oq.bp (aO dG (aO hx (ai 0) aD) (aO dr (ai 3) aD)))
  (aM (bS 5 oq.bp (cP cU (gC (av aD (av aD (av aD (av aD (av aD (av aD aA))))))) (aO dG (aO hx (aO hx (ai 0) aD) (aO dr (ai 3) aD)) aD)))
  (aM (bS 6 oq.bp (aO hx (aO hx (ai 0) aD) (aO dr (ai 3) aD)))
  (aM (bS 7 oq.bp (aO dG (ai 6) aD))
  (aM (bS 8 oq.bp cw)
  (aM (pD jC.never rfl (rz rfl nb.p1 (av (ai 3) aA)) (eF (i:=9) oq.bp rfl (by first|exact Or.inl I|exact Or.inr I))
   (aM (bS 6 oq.bp (aO hx (ai 6) aD))
   (aS (bS 8 oq.bp (aO dr (ai 8) (cP cU (ai 2) (aO dG (ai 6) aD)))))))
  (aS (bG (jj ["_law_k"] [(8,"_law_stem"),(4,"_law_at"),(2,"_law_some"),(7,"_law_first"),(5,"_law_step")] rfl (by decide+kernel) ⟨rfl,.inl rfl,rfl,.inl rfl,rfl,.inl rfl,rfl,.inl rfl,rfl,.inl rfl,trivial⟩ (rz rfl nb.p1 (av (ai 1) aA)) (fun _ _ _ _ _=>(eF (i:=0) (show(["_law_k","_law_stem","_law_at","_law_some","_law_first","_law_step"]:List af).Nodup by decide+kernel))) (fun _ _ _ _ _=>iN) (fun _ _ _ _ _=>(aO dr (aO dr (iw iG (ai 1) iP (h8 (ai 2))) (cP cU (ai 3) (aO dG (aO dr (ai 4) (aO kW (ai 0) (ai 5))) aD))) (iw iG (ai 1) (h8 (ai 2)) iP)))))))))))))),?_⟩
 try dsimp only[cQ,cR,cS,cT]
 obtain⟨c0,f5,abT⟩:=jL c 12 (by decide)
 have abS:c%12=((c0:Nat):Int):=abT
 obtain⟨a,bf,abp⟩:=jL (c/12) (c0+1) (by omega)
 have dd:c/12%(((c0:Nat):Int)+1)=((a:Nat):Int):=abp
 refine⟨_,I,_,_,I,I,(by show(0:Int)<12;decide),?_⟩
 dsimp only
 rw[abS]
 refine⟨_,I,_,_,I,I,⟨by decide,by decide⟩,_,rfl,.inl ⟨_,_,rfl,rfl,_,_,rfl,rfl,(by omega),?_⟩⟩
 dsimp only
 rw[dd]
 refine⟨(by show 6<=bY;decide),fun g aH=>?_⟩
 obtain⟨x,ay,oQ⟩:=tM V.int [1,3,5,7,9,11] (c/12/(((c0:Nat):Int)+1)) 6 rfl (by show 0<6;decide)
 have w1:0<x/\x<=11:=by
  have:∀y∈([1,3,5,7,9,11]:List Int),0<y/\y<=11:=by decide
  exact this x ay
 refine⟨_,I,_,_,I,I,⟨by decide,by decide⟩,_,rfl,.inl ⟨_,_,rfl,rfl,_,_,rfl,rfl,⟨by omega,by omega⟩,_,_,rfl,rfl,(by show(0:Int)<6;decide),.inl (.inl ⟨_,_,_,_,rfl,rfl,b1 aQ,oQ,?_⟩)⟩⟩
 refine⟨_,I,_,_,I,I,⟨by decide,by decide⟩,_,rfl,.inl ⟨_,_,rfl,rfl,_,_,rfl,rfl,⟨by omega,by omega⟩,?_⟩⟩
 refine⟨_,I,_,_,I,I,(by show(0:Int)<26;decide),?_⟩
 refine⟨_,I,_,I,by omega,by omega,?_⟩
 have g0:(((c0:Nat):Int)).toNat=c0:=by omega
 rw[g0]
 have PK:kj.length<=bY:=by rw[G4];exact fg (by decide)
 refine vX (fun i ab ax=>eD H ax/\∃(o1:af)(num fst:Int)(dh de:Option V),ab=[J (.int c),J (.int ((m:Nat):Int)),J (.str kj),de,J (.int ((a:Nat):Int)),J (.int x),J (.int num),J (.int fst),J (.str o1),dh]/\o1.length=i/\mr i kj.cps.toList o1) ?_ ?_ ?_
 ·refine⟨dq aH,af.ofString "",_,_,aw,_,I,by decide+kernel,by decide+kernel,fun c h=>?_⟩
  rw[show(af.ofString "").cps.toList=[] by decide+kernel]at h
  cases h
 ·rintro i ab ax aC ⟨hs,o1,num,fst,dh,de,rfl,aB,aT⟩
  obtain⟨k,hk,abG⟩:=jL (num/26) 26 (by decide)
  have lk:num/26%26=((k:Nat):Int):=abG
  obtain⟨aY,qY,jr⟩:=Vx (x:=kj) (k:=k) (by rw[G4];exact hk)
  refine⟨_,I,_,_,I,I,⟨by decide,by decide⟩,?_⟩
  refine⟨_,I,_,I,_,I,_,_,I,I,(by show(0:Int)<26;decide),.inr ⟨_,_,_,I,I,PK,(by rw[lk];exact jr),.inr ⟨_,_,I,I,fg (by show _+1<=_;omega),?_⟩⟩⟩
  exact⟨hs,_,_,_,_,_,I,by rw[pB,aB];rfl,aT.app (mr.one qY)⟩
 ·rintro ab ax ⟨hs,o1,num,fst,dh,de,rfl,aB,aT⟩
  have ls:o1.length<=bY:=fg (by omega)
  refine⟨_,I,_,I,by omega,by omega,fun D dH=>?_⟩
  have em:(((m:Nat):Int)).toNat=m:=by omega
  rw[em]
  have amx:kj.cps.toList.length=26:=by rw[h5];exact G4
  have gD:=L6 o1 a (by omega)
  have f3:=LW o1 a (by omega)
  let sq:Nat->Nat:=fun i=>((fst+(0+((i:Nat):Int))*x)%26).toNat
  have pS:∀i,sq i<26/\(fst+(0+((i:Nat):Int))*x)%26=((sq i:Nat):Int):=fun i=>by
   have aj:=hu (fst+(0+((i:Nat):Int))*x) (show(26:Int)≠0 by decide)
   have aq:=hJ (fst+(0+((i:Nat):Int))*x) (show(0:Int)<26 by decide)
   constructor
   ·show Int.toNat _<26
    omega
   ·show _=((Int.toNat _:Nat):Int)
    omega
  let Dj:Nat->af:=fun i=>(Txt.slice o1 aw (J ((a:Nat):Int))++⟨#[kj.cps.toList.getD (sq i) 0]⟩)++Txt.slice o1 (J ((a:Nat):Int)) aw
  refine Gy m (fun i =>.int (0+((i:Nat):Int))) (fun i=>V.str (Dj i)) (fun ab=>∃z,ab=[z,J (.str o1),J (.int ((a:Nat):Int)),J (.str kj),J (.int fst),J (.int x)]) (fg (by omega)) ⟨_,I⟩ ?_ ?_ ?_ ?_ ?_
  .intro i H1 aC;exact aC
  .intro H1;exact cE _
  .rintro i H1 y bA aC ⟨rfl,rfl⟩;exact⟨I,I⟩
  ·rintro i cz H1 aC ⟨z,rfl⟩ R cJ
   obtain⟨hk,lk⟩:=pS i
   have jr:eG kj.cps.toList ((sq i:Nat):Int)=J (kj.cps.toList.getD (sq i) 0):=dA (by rw[fu,dR (by omega)];rfl)
   have aI:(⟨#[kj.cps.toList.getD (sq i) 0]⟩:af).length=1:=rfl
   refine⟨_,I,_,I,_,I,.inr ⟨_,I,ls,?_⟩⟩
   refine⟨_,I,_,I,_,I,_,I,.inl ⟨_,_,I,I,.inr ⟨by omega,by omega⟩,.inl ⟨_,_,rfl,rfl,_,_,rfl,rfl,(by show(0:Int)<26;decide),.inr ⟨_,_,_,rfl,rfl,PK,(by rw[lk];exact jr),.inr ⟨_,_,rfl,rfl,fg (by omega),?_⟩⟩⟩⟩⟩
   refine⟨_,I,_,I,_,I,.inr ⟨_,I,ls,.inr ⟨_,_,I,I,fg (by rw[pB];omega),?_⟩⟩⟩
   exact cJ _ ⟨_,I⟩
  ·have e:(List.range m).map (fun i=>V.str (Dj i))=((List.range m).map Dj).map V.str:=by rw[iL];rfl
   rw[e]
   have Cx:=hs.free dH
   refine⟨_,.new Cx (hs.trans (dq dH)) aQ trivial,q D ((List.range m).map Dj) Cx (by rw[cC,mu]) ?_⟩
   refine Ym (by rw[cC,mu];omega) (by rw[cC,mu];omega) ?_ ?_
   ·unfold List.Nodup
    rw[List.pairwise_iff_getElem]
    intro i j aC cv ID
    rw[cC,mu]at aC cv
    rw[ko,ko,List.getElem_range,List.getElem_range]
    intro de
    have g8:=U9 de
    obtain⟨al7,abH⟩:=pS i
    obtain⟨y0,abI⟩:=pS j
    rw[fu,fu,dR (by omega),dR (by omega)]at g8
    have Kc:=(List.getElem_inj aaB).mp g8
    have:=TG (f:=fst) ay (show i<26 by omega) (show j<26 by omega) (by rw[abH,abI,Kc])
    omega
   ·intro n bo
    obtain⟨i,_,rfl⟩:=List.mem_map.mp bo
    obtain⟨hk,lk⟩:=pS i
    refine ZW ⟨?_,?_⟩ ?_
    ·show(_++_:af).length<=12
     rw[pB,pB,gD,f3]
     show a+1+_<=12
     omega
    ·refine(((aT.slice aw (J ((a:Nat):Int))).app (mr.one ?_)).app (aT.slice (J ((a:Nat):Int)) aw)).s
     rw[fu,dR (by omega)]
     exact List.getElem_mem _
    ·show 0<(_++_:af).length
     rw[pB,pB]
     show 0<_+1+_
     omega
noncomputable def sY:af:=af.ofString "nothing"
noncomputable def u2:af:=af.ofString "truth"
noncomputable def u3:af:=af.ofString "whole"
noncomputable def sZ:af:=af.ofString "span"
noncomputable def u0:af:=af.ofString "fraction"
noncomputable def u1:af:=af.ofString "letters"
noncomputable def DT:af:=af.ofString "maybe"
noncomputable def J4:af:=af.ofString "many"
noncomputable def J5:af:=af.ofString "record"
noncomputable def R1:af:=af.ofString "choice"
noncomputable def J6:af:=af.ofString "turned"
def Simp(H:au)(v:V):Prop:=∃T,v=.ref T/\((∃w,w∈[sY,u2,u3,u0]/\H T=J (.tup [.str w]))\/(∃a b:Int,H T=J (.tup [.str sZ,.int a,.int b])/\a<=b/\b-a<2^190/\a.natAbs<10^58/\b.natAbs<10^58)\/(∃s:af,H T=J (.tup [.str u1,.str s])/\kR s=ah/\s.length<=60))
def nc(X:List ae)(H:au):Prop:=∀x,x∈X->∃l,H x=J (.lst l)
theorem nc.grow(h:nc X H)(g:dy p H H'):nc X H':=fun x ay=>by
 by_cases z:x=p
 ·subst z
  obtain⟨ns,e,_⟩:=g.l
  exact⟨_,e⟩
 ·obtain⟨l,e⟩:=h x ay
  exact⟨l,g.k _ _ z e⟩
inductive Rr(vs:List V)(H:au)(Q:bB)(E:bR):Prop where
 |mk (p:ae) (way:Nat) (bu:vs=[.ref p,.int ((way:Nat):Int)]) (aj:way<6) (aq:lM p H) (bl:∀v H',dy p H H'->Simp H' v->Q v H'):Rr  vs H Q E
def DB:b3:=fun vs H Q E=>Rr  vs H Q E
theorem XB(F:dx K mg "_law_simple" Fl ["_law_pool_here","_law_way"] f fd)(hh:bD P w K mg base 1 "_law_next" ["_law_pool_here"] uW)(Ek:bD P w K mg base 1 "_law_signs" ["_law_cell"] Rp):bD P w K mg base 2 "_law_simple" ["_law_pool_here","_law_way"] DB:=by
 refine F.fp Fa (fun bh A _ s H vs Q E az h=>?_)
 obtain⟨p,way,rfl,hw,ck,q⟩:=h
 refine⟨_,(aM (cW (cd da (ai 1) aD) (aM (bS 2 Fa.bp (aO gp (aO dG (cj hh az (av (ai 0) aA)) (aO yq aD aD)) (aO yq aD aD)))
   (aM (bS 3 Fa.bp (cj hh az (av (ai 0) aA)))
   (aS (bG (jM (av cw (av (ai 2) (av (aO dr (ai 2) (aO dG (aO hx (ai 3) aD) (cP cU (gC (av aD (av aD (av aD (av (aO yq aD aD) aA))))) (aO dG (ai 3) aD)))) aA)))))))) cV)
  (aM (cW (cd da (ai 1) aD) (aS (bG (jM (av cw (av (cj Ek az (av (cj hh az (av (ai 0) aA)) aA)) aA))))) cV)
  (aS (bG (jM (av (cP cU (gC (av cw (av cw (av cw (av cw (av cw aA)))))) (ai 1)) aA)))))),?_⟩
 try dsimp only[cQ,cR,cS,cT]
 refine⟨_,I,I,_,I,e5 (fun fX=>?_) (fun fX=>?_)⟩
 ·refine⟨_,I,p,I,ck,fun lU fo oK=>?_⟩
  have G1:=dy.pop ck oK
  have xh:∀n:Int,n=57\/n=56->Ac 10 n:=fun n bo=>by rcases bo with rfl|rfl<;>(refine⟨?_,?_,?_⟩<;>decide)
  have P9:(0:Int)<10^Int.toNat 57:=by decide+kernel
  refine⟨_,_,I,I,xh _ (.inl I),_,_,I,I,P9,_,_,I,I,xh _ (.inr I),_,_,I,I,?_⟩
  dsimp only
  have afC:∃low:Int,low=lU%10^Int.toNat 57-10^Int.toNat 56/\-(10^57)<=low/\low<=10^57:=by
   refine⟨_,I,?_⟩
   have a1:=hu lU (show(10:Int)^Int.toNat 57≠0 by decide+kernel)
   have a2:=hJ lU P9
   rw[show Int.toNat 57=57 from rfl]at a1 a2 ⊢
   rw[show Int.toNat 56=56 from rfl]
   omega
  obtain⟨low,gZ,amy,amz⟩:=afC
  rw[<-gZ]
  clear gZ
  refine⟨_,I,p,I,G1.l,fun c en ly=>?_⟩
  have eC:=G1.trans (dy.pop G1.l ly)
  generalize upd (upd H p (.lst (fo.map V.int))) p (.lst (en.map V.int))=ax at eC ⊢
  refine⟨_,I,_,I,_,I,_,_,I,I,⟨by decide,by decide⟩,_,_,rfl,rfl,xh _ (.inl rfl),(by show 4<=bY;decide),fun g aH=>?_⟩
  obtain⟨x,ay,oQ⟩:=tM V.int [1,5,300,10^Int.toNat 57] c 4 rfl (by show 0<4;decide)
  obtain⟨w1,amr,ams⟩:0<x/\x<2^190/\x<=10^57:=by
   have:∀y∈([1,5,300,10^Int.toNat 57]:List Int),0<y/\y<2^190/\y<=10^57:=by decide+kernel
   exact this x ay
  refine⟨_,I,_,_,I,I,(by show(0:Int)<4;decide),.inl (.inl ⟨_,_,_,_,I,I,b1 aQ,oQ,_,_,I,I,w1,.inl ⟨_,_,I,I,(by show 3<=bY;decide),fun T cf=>?_⟩⟩)⟩
  have gD:=hu (c/4) (show x≠0 by omega)
  have f3:=hJ (c/4) w1
  have fR:=(eC.ext (Ext.lst aH)).ext (Ext.tup (xs:=[V.str sZ,.int low,.int (low+c/4%x)]) cf)
  exact⟨_,fR.sub,q _ _ fR ⟨T,I,.inr (.inl ⟨low,_,aQ,by omega,by omega,by omega,by omega⟩)⟩⟩
 ·refine⟨_,I,I,_,I,e5 (fun Cg=>?_) (fun Cg=>?_)⟩
  ·refine⟨_,I,p,I,ck,fun lU fo oK=>?_⟩
   have G1:=dy.pop ck oK
   refine⟨lU,I,fun aY aH aB=>⟨iQ,fun T cf=>?_⟩⟩
   have fR:=G1.ext (Ext.tup (xs:=[V.str u1,.str aY]) cf)
   exact⟨_,fR.sub,q _ _ fR ⟨T,I,.inr (.inr ⟨aY,aQ,aH,aB⟩)⟩⟩
  ·have aeo:way≠3/\way≠5:=⟨fun z=>fX (by rw[z];rfl),fun z=>Cg (by rw[z];rfl)⟩
   obtain⟨hY,aep,zg⟩:∃hY,hY∈[sY,u2,u3,u0]/\eG ([sY,u2,u3,sZ,u0].map V.str) ((way:Nat):Int)=J (.str hY):=by
    have:way=0\/way=1\/way=2\/way=4:=by omega
    rcases this with rfl|rfl|rfl|rfl
    .exact⟨sY,by simp,dA (j:=0) rfl⟩
    .exact⟨u2,by simp,dA (j:=1) rfl⟩
    .exact⟨u3,by simp,dA (j:=2) rfl⟩
    .exact⟨u0,by simp,dA (j:=4) rfl⟩
   refine⟨(by show 5<=bY;decide),fun g aH=>⟨_,I,.inl (.inl ⟨_,_,_,_,I,I,b1 aQ,zg,(by show 1<=bY;decide),fun T cf=>?_⟩)⟩⟩
   have fR:=((dy.refl ck).ext (Ext.lst aH)).ext (Ext.tup (xs:=[V.str hY]) cf)
   exact⟨_,fR.sub,q _ _ fR ⟨T,I,.inl ⟨hY,aep,aQ⟩⟩⟩
noncomputable def J7(k:Fin 4):af:=[sY,u2,u3,u0].getD k.val sY
noncomputable def p7(k:Fin 3):af:=[DT,J4,J6].getD k.val DT
noncomputable def u4(k:Fin 2):af:=[J5,R1].getD k.val J5
mutual
noncomputable def gO:bF->D
 |.bare k =>.tup [.str (J7 k)]
 |.sp a b =>.tup [.str sZ,.int a,.int b]
 |.le s =>.tup [.str u1,.str s]
 |.one k f =>.tup [.str (p7 k),gO f]
 |.two k ns fs =>.tup [.str (u4 k),.lst (hQ fs ns)]
noncomputable def hQ:List bF->List af->List D
 |[],_=>[]
 |f::fs,ns =>.tup [.str (ns.headD af.empty),gO f]::hQ fs ns.tail
end
mutual
noncomputable def hD:bF->Prop
 |.bare _=>True
 |.sp a b=>a<=b/\b-a<2^190/\a.natAbs<10^58/\b.natAbs<10^58
 |.le s=>kR s=ah/\s.length<=60
 |.one _ f=>hD f
 |.two _ ns fs=>jP ns=ah/\ns.length=fs.length/\kC fs
noncomputable def kC:List bF->Prop
 |[]=>True
 |f::fs=>hD f/\kC fs
end
theorem ye:∀(fs:List bF)(ns:List af),(hQ fs ns).length=fs.length
 |[],ns=>by rw[hQ];rfl
 |f::fs,ns=>by rw[hQ,dZ,ye fs ns.tail,dZ]
theorem MT(n:af)(f:bF):∀(fs:List bF)(ns:List af),ns.length=fs.length->hQ (fs++[f]) (ns++[n])=hQ fs ns++[.tup [.str n,gO f]]
 |[],ns,h=>by
  obtain rfl:=List.eq_nil_of_length_eq_zero (by simpa using h)
  show hQ [f] [n]=hQ [] []++_
  rw[hQ,hQ,hQ];rfl
 |g::fs,[],h=>by cases h
 |g::fs,m::ns,h=>by
  show hQ (g::(fs++[f])) (m::(ns++[n]))=hQ (g::fs) (m::ns)++_
  rw[hQ,hQ]
  show _::hQ (fs++[f]) (ns++[n])=_::hQ fs ns++_
  rw[MT n f fs ns (by simpa using h)];rfl
theorem MH{f:bF}(h:hD f):∀{fs:List bF},kC fs->kC (fs++[f])
 |[],_=>by show kC [f];rw[kC,kC];exact⟨h,trivial⟩
 |g::fs,hs=>by
  rw[kC]at hs
  show kC (g::(fs++[f]))
  rw[kC]
  exact⟨hs.1,MH h hs.2⟩
theorem Ng{f:bF}{n:Nat}(h:aT f<=n):∀{fs:List bF},hA fs<=n->hA (fs++[f])<=n
 |[],_=>by show hA [f]<=n;rw[hA,hA];omega
 |g::fs,hs=>by
  rw[hA]at hs
  show hA (g::(fs++[f]))<=n
  rw[hA]
  have:=Ng h (fs:=fs) (by omega)
  omega
theorem Gi(f:bF):∀fs:List bF,hX (fs++[f])=hX fs+c0 f
 |[]=>by show hX [f]=hX []+_;simp only[hX];omega
 |g::fs=>by
  show hX (g::(fs++[f]))=hX (g::fs)+_
  rw[hX,hX,Gi f fs];omega
theorem nc.no(dC:nc X H)(e:H T=J (.tup xs)):T∉X:=fun z=>by obtain⟨l,h⟩:=dC T z;rw[h]at e;cases e
theorem UH:∀k:Fin 4,(J7 k).length<=100000:=by decide+kernel
theorem UG:∀k:Fin 3,(p7 k).length<=100000:=by decide+kernel
theorem UE:∀k:Fin 2,(u4 k).length<=100000:=by decide+kernel
theorem VB:∀w,w∈[sY,u2,u3,u0]->∃k,w=J7 k:=fun w h=>by
 rcases(show w=sY\/w=u2\/w=u3\/w=u0 by simpa using h)with rfl|rfl|rfl|rfl
 .exact⟨0,I⟩
 .exact⟨1,I⟩
 .exact⟨2,I⟩
 .exact⟨3,I⟩
theorem Simp.al(dC:nc X H)(h:Simp H v):∃f,dj X H (gO f) v/\hD f/\aT f=1/\c0 f=1:=by
 obtain⟨T,rfl,⟨w,hw,e⟩|⟨a,b,e,h⟩|⟨s,e,aj,aq⟩⟩:=h
 ·obtain⟨k,rfl⟩:=VB w hw
  exact⟨.bare k,by rw[gO];exact⟨T,_,I,dC.no e,e,⟨_,_,I,⟨I,UH k⟩,I⟩,by simp⟩,by rw[hD];trivial,by rw[aT],by rw[c0]⟩
 .exact⟨.sp a b,by rw[gO];exact⟨T,_,I,dC.no e,e,⟨_,_,I,⟨I,by decide+kernel⟩,_,_,rfl,rfl,_,_,rfl,rfl,rfl⟩,by simp⟩,by rw[hD];exact h,by rw[aT],by rw[c0]⟩
 .exact⟨.le s,by rw[gO];exact⟨T,_,I,dC.no e,e,⟨_,_,I,⟨I,by decide+kernel⟩,_,_,rfl,⟨rfl,by omega⟩,rfl⟩,by simp⟩,by rw[hD];exact⟨aj,aq⟩,by rw[aT],by rw[c0]⟩
theorem dj.grow(bj:p∈X)(g:dy p H H')(h:dj X H d v):dj X H' d v :=
 dj.keep (fun b u nb e=>g.k b u (fun z=>nb (by rw[z];exact bj)) e) d h
structure EM(X:List ae)(H:au)(f:bF)(v:V)(n m:Nat):Prop where
 d:dj X H (gO f) v
 o:hD f
 h:aT f<=n
 s:c0 f<=m
inductive QH(d:Nat)(vs:List V)(H:au)(Q:bB)(E:bR):Prop where
 |mk (p:ae) (deep:Nat) (X:List ae) (bu:vs=[.ref p,.int ((deep:Nat):Int)]) (aj:deep<d) (aq:lM p H) (bl:p∈X) (bW:nc X H) (d0:∀v H' f,dy p H H'->EM X H' f v (deep+1) (20*deep+1)->Q v H'):QH d vs H Q E
def Dx(d:Nat):b3:=fun vs H Q E=>QH d vs H Q E
structure Ah(X:List ae)(l:ae)(d m:Nat)(H:au)(ns:List af)(i:Nat)(fs:List bF)(vs:List V):Prop where
 ls:H l=J (.lst vs)
 ds:dc (l::X) H (hQ fs (ns.take i)) vs
 ln:fs.length=i
 ok:kC fs
 aT:hA fs<=d
 c0:hX fs<=m
theorem Ah.step{l:ae}{d e:Nat}{n:af}{f:bF}{fs:List bF}(aa:Ah X l d m ax ns i fs vs)(dC:nc (l::X) ax)(bj:p∈X)(CQ:l≠p)(g:dy p ax H')(bg:EM (l::X) H' f v e k)(he:e<=d)(cf:H' T=aw)(bo:ns[i]?=J n)(ly:n.length<=100):
  Ah X l d (m+k) (upd (upd H' T (.tup [.str n,v])) l (.lst (vs++[V.ref T]))) ns (i+1) (fs++[f]) (vs++[V.ref T])/\nc (l::X) (upd (upd H' T (.tup [.str n,v])) l (.lst (vs++[V.ref T])))/\
  (∀b u,b∉l::X->H' b=J u->upd (upd H' T (.tup [.str n,v])) l (.lst (vs++[V.ref T])) b=J u):=by
 have wQ:=dC.grow g
 have fh:∀b u,b∉l::X->H' b=J u->upd (upd H' T (.tup [.str n,v])) l (.lst (vs++[V.ref T])) b=J u:=fun b u nb e=>by
  rw[bO (fun z=>nb (by rw[z];exact hM ..)),bO (eN e cf)];exact e
 have PV:T∉l::X:=fun z=>by
  obtain⟨y,bP⟩:=wQ T z
  rw[cf]at bP;cases bP
 have af1:T≠l:=fun z=>PV (by rw[z];exact hM ..)
 have aC:i<ns.length:=by
  rcases j4 i ns.length with z|z
  .exact z
  .rw[AZ z]at bo;cases bo
 refine⟨⟨aQ,?_,by rw[cD,aa.ln];rfl,MH bg.o aa.ok,Ng (by have:=bg.h;omega) aa.aT,?_⟩,?_,fh⟩
 ·rw[oi,bo]
  show dc _ _ (hQ (fs++[f]) (ns.take i++[n])) _
  rw[MT n f fs _ (by rw[hb,aa.ln];omega)]
  have gY:upd (upd H' T (.tup [.str n,v])) l (.lst (vs++[V.ref T])) T=J (.tup [.str n,v]):=by rw[bO af1,aQ]
  have hd:dj (l::X) (upd (upd H' T (.tup [.str n,v])) l (.lst (vs++[V.ref T]))) (.tup [.str n,gO f]) (.ref T):=⟨T,_,rfl,PV,gY,⟨_,_,rfl,⟨rfl,by omega⟩,_,_,rfl,dj.keep fh _ bg.d,rfl⟩,by simp⟩
  exact dc.snoc hd _ (dc.keep fh _ (dc.keep (fun b u nb e=>g.k b u (fun z=>nb (by rw[z];exact fD _ bj)) e) _ aa.ds))
 .rw[Gi];have:=bg.s;have:=aa.c0;omega
 ·intro x ay
  by_cases z:x=l
  .subst z;exact⟨_,aQ⟩
  ·obtain⟨y,bP⟩:=wQ x ay
   exact⟨y,by rw[bO z,bO (eN bP cf)];exact bP⟩
set_option maxHeartbeats 4000000 in
theorem WQ{d:Nat}(nb:dW mg)(F:dx K mg "_law_form" Bq ["_law_pool_here","_law_deep"] f fd)(hh:bD P w K mg base 1 "_law_next" ["_law_pool_here"] uW)(vk:bD P w K mg base 1 "_law_names" ["_law_cell","_law_many"] JI)(vl:bD P w K mg base 2 "_law_simple" ["_law_pool_here","_law_way"] DB)
  (vi:bD P w K mg base (d+3) "_law_form" ["_law_pool_here","_law_deep"] (Dx d)):bD P w K mg base (d+3+1) "_law_form" ["_law_pool_here","_law_deep"] (Dx (d+1)):=by
 refine F.fp qv (fun bh A _ s H vs Q E az h=>?_)
 obtain⟨p,deep,X,rfl,hd,ck,eQ,dC,q⟩:=h
 refine⟨_,(aM (bS 2 qv.bp (cj hh az (av (ai 0) aA) (hk:=by omega)))
  (aM (bS 3 qv.bp (aO dG (ai 2) aD))
  (aM (cW (cd da (ai 1) aD) (aS (bS 3 qv.bp (aO dG (ai 2) aD))) cV)
  (aM (cW (cd mR (ai 3) aD) (aS (bG (cj vl az (av (ai 0) (av (ai 3) aA)) (hk:=by omega)))) cV)
  (aM (cW (g9.pt (jb (cd da (ai 3) aD) (k6 (cd da (ai 3) aD)))) (aM (bS 4 qv.bp (aO dr aD (aO dG (aO hx (ai 2) aD) aD)))
   (BM (cW (g9.pt (B5 (cd da (ai 1) aD) (BL (cd da (aO dG (aO hx (ai 2) aD) aD) aD)))) (aS (bS 4 qv.bp (aO dr aD (aO dG (aO hx (ai 2) aD) aD)))) cV)
   (aM (bS 5 qv.bp (cj vk az (av (cj hh az (av (ai 0) aA) (hk:=by omega)) (av (ai 4) aA)) (hk:=by omega)))
   (aM (bS 6 qv.bp (gC aA))
   (aM (pD jC.never rfl (rz rfl nb.p1 (av (ai 4) aA)) (eF (i:=7) qv.bp rfl (by exact Or.inl I))
    (aS (iO (jG PySem.F.plainAttrs_list PySem.F.slot_list_append PySem.F.type_list_append tu (ai 6) (av (jM (av (cP cU (ai 5) (ai 7)) (av (cj vi az (av (ai 0) (av (aO kW (aO gp (ai 1) aD) (qu tw rfl nb.qZ qA (av (gi da (ai 7) (aO dG (aO hx (ai 2) aD) (ai 4))) aA))) aA)) (hk:=by omega)) aA))) aA)))))
   (aS (bG (jM (av (cP cU (gC (av cw (av cw aA))) (aO gp (ai 3) aD)) (av (ai 6) aA)))))))))) cV)
  (aS (bG (jM (av (cP cU (gC (av cw (av cw (av cw (av cw (av cw aA)))))) (aO gp (ai 3) aD)) (av (cj vi az (av (ai 0) (av (aO gp (ai 1) aD) aA)) (hk:=by omega)) aA)))))))))),?_⟩
 try dsimp only[cQ,cR,cS,cT]
 refine⟨_,I,p,I,ck,fun c fo oK=>?_⟩
 have G1:=dy.pop ck oK
 generalize upd H p (.lst (fo.map V.int))=H1 at G1 ⊢
 have Qn:∀way:Nat,way<6->DB [.ref p,.int ((way:Nat):Int)] H1 (fun v H'=>gB H H' (Q v)) iJ:=fun way hw=>⟨p,way,rfl,hw,G1.l,fun v H' g hs=>by
  obtain⟨f,aj,aq,bl,bW⟩:=Simp.al (dC.grow (G1.trans g)) hs
  exact⟨_,(G1.trans g).sub,q v H' f (G1.trans g) ⟨aj,aq,by omega,by omega⟩⟩⟩
 obtain⟨jY,amq,abW⟩:=jL c 11 (by decide)
 have abV:c%11=((jY:Nat):Int):=abW
 refine⟨_,I,_,_,I,I,(by show(0:Int)<11;decide),?_⟩
 dsimp only
 rw[abV]
 refine⟨_,I,I,_,I,e5 (fun lU=>?_) (fun lU=>?_)⟩
 ·obtain⟨R0,aeq,abY⟩:=jL c 6 (by decide)
  have abX:c%6=((R0:Nat):Int):=abY
  refine⟨_,I,_,_,I,I,(by show(0:Int)<6;decide),?_⟩
  dsimp only
  rw[abX]
  exact⟨_,I,.inl ⟨_,_,I,I,_,I,jw (by omega) ⟨_,I,_,I,Qn R0 aeq⟩⟩⟩
 have al0:deep≠0:=fun z=>lU (by rw[z];rfl)
 refine⟨_,I,.inl ⟨_,_,I,I,_,I,e5 (fun aa5=>?_) (fun aa5=>?_)⟩⟩
 .exact⟨_,I,_,I,Qn jY (by omega)⟩
 refine⟨_,I,I,_,I,(fun(lr:(jY=8\/jY=9)->_)=>e5 (fun Hp=>lr (.inl (by have:=V.int.inj Hp;omega))) (fun Hp=>⟨_,I,I,_,I,e5 (fun Hq=>lr (.inr (by have:=V.int.inj Hq;omega))) (fun Hq=>?_)⟩)) (fun aer=>?_)⟩
 ·obtain⟨uH,amf,abN⟩:=jL (c/11) 4 (by decide)
  have abM:c/11%4=((uH:Nat):Int):=abN
  have aI:(1:Int)+((uH:Nat):Int)=((uH+1:Nat):Int):=by omega
  refine⟨_,I,_,_,I,I,⟨by decide,by decide⟩,_,_,rfl,rfl,(by show(0:Int)<4;decide),.inl ⟨_,_,rfl,rfl,?_⟩⟩
  dsimp only
  rw[abM,aI]
  refine⟨fun bU H'=>H1=H'/\∃ig:Nat,0<ig/\ig<=20/\bU=[J (.ref p),J (.int ((deep:Nat):Int)),J (.int c),J (.int ((jY:Nat):Int)),J (.int ((ig:Nat):Int)),aw,aw,aw],?_,?_⟩
  ·refine⟨_,I,I,_,I,e5 (fun fO=>?_) (fun fO=>⟨I,uH+1,by omega,by omega,rfl⟩)⟩
   refine⟨_,I,_,_,I,I,⟨by decide,by decide⟩,_,_,rfl,rfl,(by show(0:Int)<6;decide),rfl,_,rfl,e5 (fun fh=>?_) (fun fh=>⟨rfl,uH+1,by omega,by omega,rfl⟩)⟩
   obtain⟨Dd,wJ,abL⟩:=jL (c/264) 20 (by decide)
   have abK:c/264%20=((Dd:Nat):Int):=abL
   refine⟨_,I,_,_,I,I,⟨by decide,by decide⟩,_,_,rfl,rfl,(by show(0:Int)<20;decide),.inl ⟨_,_,rfl,rfl,rfl,Dd+1,by omega,by omega,?_⟩⟩
   dsimp only
   rw[abK,show(1:Int)+((Dd:Nat):Int)=((Dd+1:Nat):Int) by omega]
   rfl
  rintro cz ali ⟨rfl,ig,II,adI,rfl⟩
  refine⟨_,I,p,I,G1.l,fun gv en ly=>⟨_,I,gv,ig,I,II,adI,fun D ns dH mK e9=>?_⟩⟩
  have eC:=G1.trans (dy.pop G1.l ly)
  have fR:=eC.ext (Ext.lst (xs:=ns.map V.str) dH)
  refine⟨UF _,fun l aB=>?_⟩
  have Kn:=Ext.lst (xs:=[]) aB
  have qp:=fR.ext Kn
  have Ph:H l=aw:=fR.free aB
  have Cx:H D=aw:=eC.free dH
  have CQ:l≠p:=fR.ne aB
  have acN:D≠l:=fun z=>by rw[<-z,aQ]at aB;cases aB
  have wY:l∉X:=fun z=>by obtain⟨y,bP⟩:=dC l z;rw[Ph]at bP;cases bP
  have H0:D∉l::X:=fun z=>by
   rcases dz.mp z with z|z
   .exact acN z
   .obtain⟨y,bP⟩:=dC D z;rw[Cx]at bP;cases bP
  have mD:upd (upd (upd H1 p (.lst (en.map V.int))) D (.lst (ns.map V.str))) l (.lst []) D=J (.lst (ns.map V.str)):=Kn.s _ _ aQ
  have H5:=aQ (H:=upd (upd H1 p (.lst (en.map V.int))) D (.lst (ns.map V.str))) (a:=l) (o:=c2.lst [])
  generalize upd (upd (upd H1 p (.lst (en.map V.int))) D (.lst (ns.map V.str))) l (.lst [])=hF at qp mD H5 ⊢
  obtain⟨fP,adA,abJ⟩:=jL (c/264) ig II
  refine⟨_,I,_,I,by omega,by omega,?_⟩
  have g0:(((ig:Nat):Int)).toNat=ig:=by omega
  rw[g0]
  refine vX (fun i ab ax=>dy p H ax/\nc (l::X) ax/\ax D=J (.lst (ns.map V.str))/\∃fs vs z,ab=[J (.ref p),J (.int ((deep:Nat):Int)),J (.int c),J (.int ((jY:Nat):Int)),J (.int ((ig:Nat):Int)),J (.ref D),J (.ref l),z]/\Ah X l deep (i+if fP<i then 20*(deep-1)else 0) ax ns i fs vs) ?_ ?_ ?_
  ·refine⟨qp,?_,mD,[],[],aw,I,⟨H5,by rw[List.take_zero,hQ];rfl,rfl,by rw[kC];trivial,by rw[hA];omega,by rw[hX];omega⟩⟩
   intro x ay
   rcases dz.mp ay with z|z
   .subst z;exact⟨_,H5⟩
   .exact(dC.grow qp) x z
  ·rintro i ab ax aC ⟨g2,oG,mC,fs,vs,z,rfl,aa⟩
   have ie:i<ns.length:=by omega
   have y4:ns[i]?=J ns[i]:=dR ie
   have jr:eG (ns.map V.str) (0+((i:Nat):Int))=J (.str ns[i]):=by rw[Int.zero_add];exact dA (by rw[gf,y4];rfl)
   refine⟨_,I,.inl ⟨I,_,b1 aa.ls⟩,_,I,_,I,.inl (.inl ⟨_,_,_,_,I,I,b1 mC,jr,?_⟩)⟩
   refine⟨_,I,_,I,_,_,I,I,_,I,_,I,_,_,I,I,⟨by decide,by decide⟩,_,rfl,_,_,rfl,rfl,(by omega),rfl,.inl (.inr ⟨_,rfl,?_⟩)⟩
   have abq:decide (V.int (0+((i:Nat):Int))=V.int (c/264%((ig:Nat):Int)))=decide (i=fP):=by
    rw[abJ];exact decide_eq_decide.mpr ⟨fun h=>by have:=V.int.inj h;omega,fun h=>by rw[h,Int.zero_add]⟩
   rw[abq]
   obtain⟨oz,ac8,ac9,ev,ada⟩:∃oz:Nat,oz<d/\oz+1<=deep/\(((deep:Nat):Int)-1)*(if decide (i=fP)=ah then 1 else 0)=((oz:Nat):Int)/\(oz=if i=fP then deep-1 else 0):=⟨if i=fP then deep-1 else 0,by split<;>omega,by split<;>omega,by by_cases z:i=fP<;>simp only[z,decide_true,decide_false,if_true,if_false]<;>simp<;>omega,rfl⟩
   refine .inl ⟨_,_,I,I,.inr (by split<;>exact⟨by decide,by decide⟩),p,oz,l::X,(by rw[<-ev];rfl),ac8,g2.l,fD _ eQ,oG,fun part bA acy g3 ad2=>⟨iQ,fun T cf=>?_⟩⟩
   have sf:bA l=J (.lst vs):=g3.k _ _ CQ aa.ls
   have vn:=Ext.tup (xs:=[V.str ns[i],part]) cf
   have cL:vs.length=i:=by
    rw[gK.len _ (dc.at _ aa.ds),ye,aa.ln]
   refine⟨l,_,_,I,I,vn.s _ _ sf,(by rw[cL];exact fB (show i<100000 by omega) (by decide)),?_⟩
   obtain⟨gz,Av,eH⟩:=aa.step oG eQ CQ g3 ad2 ac9 cf y4 (by have:=(oo e9).2 _ (List.getElem_mem ie);omega)
   refine⟨((g2.trans g3).ext vn).set Ph (vn.s _ _ sf) CQ,Av,eH _ _ H0 (g3.k _ _ (fun z=>H0 (by rw[z];exact fD _ eQ)) mC),_,_,_,I,⟨gz.ls,gz.ds,gz.ln,gz.ok,gz.aT,?_⟩⟩
   refine eE gz.c0 ?_
   rw[ada]
   by_cases z:i=fP
   .rw[if_pos z,if_neg (by omega),if_pos (by omega)];omega
   ·rw[if_neg z]
    by_cases de:fP<i
    .rw[if_pos de,if_pos (by omega)];omega
    .rw[if_neg de];omega
  ·rintro ab ax ⟨g2,oG,mC,fs,vs,z,rfl,aa⟩
   obtain⟨ww,zg⟩:∃ww:Fin 2,eG ([J5,R1].map V.str) (((jY:Nat):Int)-8)=J (.str (u4 ww)):=by
    rcases aer with rfl|rfl
    .exact⟨0,dA (j:=0) I⟩
    .exact⟨1,dA (j:=1) I⟩
   refine⟨iQ,fun g aH=>⟨_,I,_,_,I,I,.inl (.inl ⟨_,_,_,_,I,I,b1 aQ,zg,_,I,iQ,fun T cf=>?_⟩)⟩⟩
   have Em:=(Ext.lst aH).trans (Ext.tup (xs:=[V.str (u4 ww),V.ref l]) cf)
   have ug:=g2.ext Em
   have agt:ns.take ig=ns:=UV (by omega)
   have gH:=aa.ds
   rw[agt]at gH
   have kz:vs.length=ig:=by rw[gK.len _ (dc.at _ aa.ds),ye,aa.ln]
   have i3:T∉X:=(dC.grow ug).no aQ
   refine⟨_,ug.sub,q _ _ (.two ww ns fs) ug ⟨?_,?_,?_,?_⟩⟩
   ·rw[gO]
    exact⟨T,_,I,i3,aQ,⟨_,_,I,⟨I,UE ww⟩,_,_,I,⟨l,vs,I,wY,Em.s _ _ aa.ls,dc.weak (fun y bP=>fD _ bP) _ (dc.same Em.s gH),by omega⟩,rfl⟩,by simp⟩
   .rw[hD];exact⟨e9,by rw[aa.ln,mK],aa.ok⟩
   .rw[aT];have:=aa.aT;omega
   ·rw[c0]
    have:=aa.c0
    rw[if_pos adA]at this
    omega
 have hw:jY=6\/jY=7\/jY=10:=by
  have yI:jY≠8:=fun z=>Hp (by rw[z];rfl)
  have r2:jY≠9:=fun z=>Hq (by rw[z];rfl)
  omega
 obtain⟨ww,zg⟩:∃ww:Fin 3,eG ([DT,J4,af.ofString "",af.ofString "",J6].map V.str) (((jY:Nat):Int)-6)=J (.str (p7 ww)):=by
  rcases hw with rfl|rfl|rfl
  .exact⟨0,dA (j:=0) I⟩
  .exact⟨1,dA (j:=1) I⟩
  .exact⟨2,dA (j:=4) I⟩
 refine⟨(by show 5<=bY;decide),fun g aH=>⟨_,I,_,_,I,I,.inl (.inl ⟨_,_,_,_,I,I,b1 aQ,zg,?_⟩)⟩⟩
 have Ep:=G1.ext (Ext.lst (xs:=[DT,J4,af.ofString "",af.ofString "",J6].map V.str) aH)
 have ev:((deep:Nat):Int)-1=((deep-1:Nat):Int):=by omega
 refine⟨_,I,_,I,_,_,I,I,p,deep-1,X,(by rw[<-ev];rfl),by omega,Ep.l,eQ,dC.grow Ep,fun v H' f g' bg=>⟨iQ,fun T cf=>?_⟩⟩
 have vn:=Ext.tup (xs:=[V.str (p7 ww),v]) cf
 have ug:=(Ep.trans g').ext vn
 have i3:T∉X:=(dC.grow ug).no aQ
 refine⟨_,ug.sub,q _ _ (.one ww f) ug ⟨?_,?_,?_,?_⟩⟩
 .rw[gO];exact⟨T,_,I,i3,aQ,⟨_,_,I,⟨I,UG ww⟩,_,_,I,bg.d.same vn.s,I⟩,by simp⟩
 .rw[hD];exact bg.o
 .rw[aT];have:=bg.h;omega
 .rw[c0];have:=bg.s;omega
theorem L1(nb:dW mg)(F:dx K mg "_law_form" Bq ["_law_pool_here","_law_deep"] f fd)(hh:bD P w K mg base 1 "_law_next" ["_law_pool_here"] uW)(vk:bD P w K mg base 1 "_law_names" ["_law_cell","_law_many"] JI)(vl:bD P w K mg base 2 "_law_simple" ["_law_pool_here","_law_way"] DB):∀d:Nat,bD P w K mg base (d+3) "_law_form" ["_law_pool_here","_law_deep"] (Dx d)
 |0=>bD.none F fun vs H Q E h=>by obtain⟨_,_,_,_,h,_⟩:=h;omega
 |d+1=>WQ nb F hh vk vl (L1 nb F hh vk vl d)
theorem BG{X:List ae}{H:au}:∀(fs:List bF)(ns:List af){vs:List V}{i:Nat}{y:V},ns.length=fs.length->dc X H (hQ fs ns) vs->vs[i]?=J y->∃f n T v,fs[i]?=J f/\ns[i]?=J n/\y=.ref T/\T∉X/\H T=J (.tup [.str n,v])/\dj X H (gO f) v
 |[],ns,vs,i,y,bu,h,e=>by
  rw[hQ]at h
  obtain rfl:vs=[]:=h
  cases e
 |f::fs,[],vs,i,y,bu,h,e=>by cases bu
 |f::fs,n::ns,vs,0,y,bu,h,e=>by
  rw[hQ]at h
  obtain⟨v,r,rfl,⟨T,ws,rfl,cf,gY,⟨_,_,rfl,⟨rfl,_⟩,jX,_,rfl,bg,rfl⟩,_⟩,cN⟩:=h
  cases e
  exact⟨f,n,T,jX,I,I,I,cf,gY,bg⟩
 |f::fs,n::ns,vs,i+1,y,bu,h,e=>by
  rw[hQ]at h
  obtain⟨v,r,rfl,q,cN⟩:=h
  exact BG fs ns (by simpa using bu) cN e
theorem BD:∀{fs:List bF}{i:Nat}{f:bF},kC fs->fs[i]?=J f->hD f/\aT f<=hA fs
 |g::fs,0,f,h,e=>by
  cases e
  rw[kC]at h
  rw[hA]
  exact⟨h.1,by omega⟩
 |g::fs,i+1,f,h,e=>by
  rw[kC]at h
  obtain⟨a,b⟩:=BD h.2 (show fs[i]?=J f from e)
  rw[hA]
  exact⟨a,by omega⟩
theorem K2(f:bF):1<=c0 f:=by cases f<;>simp only[c0]<;>omega
def ki(X:List ae)(H:au):Prop:=∀x,x∈X->∃o,H x=J o
theorem ki.no(h:ki X H){t:ae}(e:H t=aw):t∉X:=fun z=>by
 obtain⟨o,q⟩:=h t z
 rw[e]at q;cases q
theorem ki.ext(h:ki X H)(m:eD H H'):ki X H':=fun x ay=>by
 obtain⟨u,q⟩:=h x ay
 exact⟨u,m _ _ q⟩
theorem ki.add{D:ae}{o:c2}(h:ki X H)(e:H D=J o):ki (D::X) H:=fun x ay=>by
 rcases dz.mp ay with rfl|z
 .exact⟨o,e⟩
 .exact h x z
theorem eL.snoc{c:dP}{X:List ae}{H:au}{f:bF}{o:ae}(aG:b0 c X H f o):∀(fs:List bF){os:List ae},eL c X H fs os->eL c X H (fs++[f]) (os++[o])
 |[],os,h=>by
  obtain rfl:os=[]:=h
  exact⟨o,[],I,aG,I⟩
 |g::fs,os,h=>by
  obtain⟨a,r,rfl,q,cN⟩:=h
  exact⟨a,r++[o],I,q,eL.snoc aG fs cN⟩
inductive Q8(c:dP)(d:Nat)(vs:List V)(H:au)(Q:bB)(E:bR):Prop where
 |mk (uZ:V) (f:bF) (X:List ae) (bu:vs=[uZ]) (aj:ki X H) (aq:dj X H (gO f) uZ) (bl:hD f) (bW:aT f<=d) (d0:∀o H',Ext H H'->b0 c X H' f o->Q (.ref o) H'):Q8 c d vs H Q E
def Dz(c:dP)(d:Nat):b3:=fun vs H Q E=>Q8 c d vs H Q E
set_option maxHeartbeats 4000000 in
theorem WO{f:ae}{fd:fG}{d:Nat}{c:dP}(nb:dW mg)(F:dx K mg "_law_made" Bp ["_law_form_here"] f fd)
  (vy:lL K (c.b 0)) (w9:mg "Nothing"=J (.ref (c.b 0))) (vz:lL K (c.b 1)) (xa:mg "Truth"=J (.ref (c.b 1))) (vA:lL K (c.b 2)) (xb:mg "Whole"=J (.ref (c.b 2))) (vx:lL K (c.b 3)) (w8:mg "Fraction"=J (.ref (c.b 3)))
  (vG:jc P w K mg base 1 "Span" c.s ["self","low","high"] (JO c.s)) (vC:jc P w K mg base 2 "Letters" c.l ["self","signs"] (JG c.l)) (vF:jc P w K mg base 4 "Record" (c.t 0) ["self","parts"] (xm (c.t 0))) (vB:jc P w K mg base 4 "Choice" (c.t 1) ["self","cases"] (xm (c.t 1)))
  (vE:jc P w K mg base 1 "Maybe" (c.o 0) ["self","inner"] (rd (c.o 0))) (vD:jc P w K mg base 1 "Many" (c.o 1) ["self","inner"] (rd (c.o 1))) (vH:jc P w K mg base 1 "Turned" (c.o 2) ["self","inner"] (rd (c.o 2)))
  (ql:bD P w K mg base (d+7) "_law_made" ["_law_form_here"] (Dz c d)):bD P w K mg base (d+7+1) "_law_made" ["_law_form_here"] (Dz c (d+1)):=by
 refine F.fp Mh (fun bh A _ s H vs Q E az h=>?_)
 obtain⟨uZ,g,X,rfl,dC,bg,aP,cu,q⟩:=h
 refine RZ _ (aM (bS 1 Mh.bp (cP cU (ai 0) aD))
  (aM (cW (cd da (ai 1) cw) (aS (bG (Bx vy rfl w9))) cV)
  (aM (cW (cd da (ai 1) cw) (aS (bG (Bx vz rfl xa))) cV)
  (aM (cW (cd da (ai 1) cw) (aS (bG (Bx vA rfl xb))) cV)
  (aM (cW (cd da (ai 1) cw) (aS (bG (Bx vx rfl w8))) cV)
  (aM (cW (cd da (ai 1) cw) (aS (bG (px vG az (av (cP cU (ai 0) aD) (av (cP cU (ai 0) aD) aA)) (hk:=by omega)))) cV)
  (aM (cW (cd da (ai 1) cw) (aS (bG (px vC az (av (cP cU (ai 0) aD) aA) (hk:=by omega)))) cV)
  (aM (cW (cd da (ai 1) cw) (aS (bG (px vF az (av (jj ["_law_name","_law_inner"] [] rfl (by decide+kernel) trivial (kb (cP cU (ai 0) aD)) (fun _ _ _ _ _=>(pE rfl (ji (eF (i:=0) (show(["_law_name","_law_inner"]:List af).Nodup by decide+kernel)) (ji (eF (i:=1) (show(["_law_name","_law_inner"]:List af).Nodup by decide+kernel)) pk)))) (fun _ _ _ _ _=>iN) (fun _ _ _ _ _=>(jM (av (ai 0) (av (cj ql az (av (ai 1) aA) (hk:=by omega)) aA))))) aA) (hk:=by omega)))) cV)
  (aM (cW (cd da (ai 1) cw) (aS (bG (px vB az (av (jj ["_law_name","_law_inner"] [] rfl (by decide+kernel) trivial (kb (cP cU (ai 0) aD)) (fun _ _ _ _ _=>(pE rfl (ji (eF (i:=0) (show(["_law_name","_law_inner"]:List af).Nodup by decide+kernel)) (ji (eF (i:=1) (show(["_law_name","_law_inner"]:List af).Nodup by decide+kernel)) pk)))) (fun _ _ _ _ _=>iN) (fun _ _ _ _ _=>(jM (av (ai 0) (av (cj ql az (av (ai 1) aA) (hk:=by omega)) aA))))) aA) (hk:=by omega)))) cV)
  (aM (cW (cd da (ai 1) cw) (aS (bG (px vE az (av (cj ql az (av (cP cU (ai 0) aD) aA) (hk:=by omega)) aA) (hk:=by omega)))) cV)
  (aM (cW (cd da (ai 1) cw) (aS (bG (px vD az (av (cj ql az (av (cP cU (ai 0) aD) aA) (hk:=by omega)) aA) (hk:=by omega)))) cV)
  (aS (bG (px vH az (av (cj ql az (av (cP cU (ai 0) aD) aA) (hk:=by omega)) aA) (hk:=by omega))))))))))))))) fun G gJ jU go=>?_
 try dsimp only[cQ,cR,cS,cT]at go
 have a0:∀(x:V)(r:List V),eG (x::r) 0=J x:=fun x r=>dA (j:=0) rfl
 have a1:∀(x y:V)(r:List V),eG (x::y::r) 1=J y:=fun x y r=>dA (j:=1) rfl
 cases g with
 | bare k =>
  rw[gO]at bg
  obtain⟨T,_,rfl,i3,e,⟨_,_,rfl,⟨rfl,_⟩,rfl⟩,_⟩:=bg
  obtain⟨lF,r3⟩:∃lF,lF=c.b k:=⟨_,rfl⟩
  rcases ub k with rfl|rfl|rfl|rfl
  all_goals
   subst jU
   refine go (kY I e ?_)
   iterate 3 (try refine h6 I (by decide+kernel) ?_)
   refine lg I fun N=>?_
   rw[<-r3]
   intro x al aj aq oD
   have E:=Ext.made (C:=lF) (fs:=[]) aj aq oD
   exact⟨_,E.sub,q _ _ E ⟨dC.no aj,al,by rw[<-r3];exact aQ⟩⟩
 |sp lo aC =>
  rw[gO]at bg
  rw[hD]at aP
  obtain⟨T,_,rfl,i3,e,⟨_,_,rfl,⟨rfl,_⟩,_,_,rfl,rfl,_,_,rfl,rfl,rfl⟩,_⟩:=bg
  subst jU
  refine go (kY I e ?_)
  iterate 4 refine h6 I (by decide+kernel) ?_
  have a2:eG [V.str sZ,V.int lo,V.int aC] 2=J (.int aC):=dA (j:=2) rfl
  refine lg I fun N=>⟨_,I,.inl (.inr ⟨_,_,_,_,I,I,dk e,a1 _ _ _,_,I,.inl (.inr ⟨_,_,_,_,I,I,dk e,a2,?_⟩)⟩)⟩
  intro x al aj aq oD
  refine⟨x,al,lo,aC,I,aQ,aP.1,I,?_⟩
  rw[iv]
  have E:=Ext.made (C:=c.s) (fs:=RH lo aC) aj aq oD
  exact⟨_,E.sub,q _ _ E ⟨dC.no aj,al,aQ⟩⟩
 |le aY =>
  rw[gO]at bg
  rw[hD]at aP
  obtain⟨T,_,rfl,i3,e,⟨_,_,rfl,⟨rfl,_⟩,_,_,rfl,⟨rfl,_⟩,rfl⟩,_⟩:=bg
  subst jU
  refine go (kY I e ?_)
  iterate 5 refine h6 I (by decide+kernel) ?_
  refine lg I fun N=>⟨_,I,.inl (.inr ⟨_,_,_,_,I,I,dk e,a1 _ _ _,?_⟩)⟩
  intro x al aj aq oD
  refine⟨x,al,aY,I,aQ,by omega,aP.1,rfl,?_⟩
  rw[iv]
  have E:=Ext.made (C:=c.l) (fs:=PL aY) aj aq oD
  exact⟨_,E.sub,q _ _ E ⟨dC.no aj,al,aQ⟩⟩
 | one k g =>
  rw[gO]at bg
  rw[hD]at aP
  rw[aT]at cu
  obtain⟨T,_,rfl,i3,e,⟨_,_,rfl,⟨rfl,_⟩,jX,_,rfl,hd,rfl⟩,_⟩:=bg
  have a1:=a1 (.str (p7 k)) jX []
  obtain⟨lF,r3⟩:∃lF,lF=c.o k:=⟨_,rfl⟩
  rcases rZ k with rfl|rfl|rfl
  all_goals
   subst jU
   refine go (kY I e ?_)
   iterate 10 (try refine h6 I (by decide+kernel) ?_)
   try refine lg I fun N=>?_
   rw[<-r3]
   refine⟨_,I,.inl (.inr ⟨_,_,_,_,I,I,dk e,a1,jX,g,X,I,dC,hd,aP,by omega,fun o H' hj r4=>?_⟩)⟩
   intro x al aj aq oD
   refine⟨x,al,o,I,aQ,I,?_⟩
   rw[iv]
   have E:=Ext.made (C:=lF) (fs:=[("inner",V.ref o)]) aj aq oD
   have M:=hj.trans E
   exact⟨_,M.sub,q _ _ M ⟨(dC.ext hj.s).no aj,al,o,by rw[<-r3];exact aQ,b0.keep (fun b u _ e=>E.s b u e) g r4⟩⟩
 | two k ns fs =>
  rw[gO]at bg
  rw[hD]at aP
  rw[aT]at cu
  obtain⟨e9,cL,CV⟩:=aP
  obtain⟨T,_,rfl,i3,e,⟨_,_,rfl,⟨rfl,_⟩,_,_,rfl,⟨l,uG,rfl,wY,gZ,gH,adB⟩,rfl⟩,_⟩:=bg
  have kz:uG.length=fs.length:=by rw[gK.len _ (dc.at _ gH),ye]
  have a1:=a1 (.str (u4 k)) (.ref l) []
  obtain⟨lF,r3⟩:∃lF,lF=c.t k:=⟨_,rfl⟩
  rcases wB k with rfl|rfl
  all_goals
   subst jU
   refine go (kY I e ?_)
   iterate 7 (try refine h6 I (by decide+kernel) ?_)
   refine lg I fun N=>?_
   rw[<-r3]
   have ads:=oo e9
   refine .inl ⟨_,I,.inl (.inr ⟨_,_,_,_,I,I,dk e,a1,l,I,⟨_,b1 gZ⟩,fun D dH=>?_⟩)⟩
   have H0:D∉X:=dC.no dH
   refine F1 (K:=K) (a:=l) (xs:=uG) (fun i bb ax=>Ext H ax/\∃ps:List (ae×af×ae),bb=ps.map (fun x=>V.ref x.1)/\g6 ps=ns.take i/\(∀x,x∈ps->x.1∉D::X/\ax x.1=J (.tup [.str x.2.1,.ref x.2.2]))/\eL c (D::X) ax (fs.take i) (iA ps)) (fun ab=>∃dh de,ab=[dh,de]) (by omega) ⟨_,_,I⟩ ?_ ?_ ?_ ?_
   ·rintro i bb ax ⟨M2,_⟩
    exact b1 (M2.s _ _ gZ)
   .exact⟨Ext.lst dH,[],I,I,(fun x ay=>nomatch ay),I⟩
   ·rintro i x ay bb cz H1 ⟨dh,de,rfl⟩ ⟨hj,ps,rfl,qX,IS,uh⟩ gF mN R cJ
    obtain⟨g,nm,dF,jX,aH,nA,rfl,wO,yC,hd⟩:=BG fs ns cL gH ay
    obtain⟨zB,wW⟩:=BD CV aH
    have oF:ki (D::X) H1:=(dC.ext hj.s).add gF
    have abU:fs.take (i+1)=fs.take i++[g]:=by rw[oi,aH];rfl
    refine⟨_,_,I,dk (hj.s _ _ yC),I,_,_,I,_,_,I,I,?_⟩
    refine⟨_,I,_,I,jX,g,D::X,I,oF,dj.same hj.s (dj.add dH _ hd),zB,by omega,fun o bA cI Cz=>⟨iQ,fun tB CE=>?_⟩⟩
    have ml:=Ext.tup (xs:=[V.str nm,.ref o]) CE
    have yO:=oF.ext cI.s
    have OY:tB∉D::X:=yO.no CE
    have qM:bA D=J (.lst (ps.map fun x=>V.ref x.1)):=cI.s _ _ gF
    have yJ:=ml.s _ _ qM
    have acV:tB≠D:=fun z=>OY (by rw[z];exact hM ..)
    have fP:∀b u,b∉D::X->bA b=J u->upd (upd bA tB (.tup [.str nm,.ref o])) D (.lst ((ps.map fun x=>V.ref x.1)++[V.ref tB])) b=J u:=fun b u nb e=>by
     rw[bO (fun z=>nb (by rw[z];exact hM ..))];exact ml.s _ _ e
    refine cJ _ _ _ ⟨_,_,I⟩ yJ ⟨⟨fun b u e=>?_,fun cl=>x7 yJ (ml.c (cI.c (hj.c cl)))⟩,ps++[(tB,nm,o)],by rw[fk];rfl,?_,fun y bP=>?_,?_⟩
    ·rw[bO (eN e dH)]
     exact ml.s _ _ (cI.s b u (hj.s b u e))
    ·unfold g6 at qX ⊢
     rw[fk,qX,oi,nA];rfl
    ·rcases List.mem_append.mp bP with z|z
     ·obtain⟨gD,f3⟩:=IS y z
      exact⟨gD,fP _ _ gD (cI.s _ _ f3)⟩
     ·rw[fU.mp z]
      exact⟨OY,by show upd _ D _ tB=_;rw[bO acV,aQ]⟩
    ·rw[abU,show iA (ps++[(tB,nm,o)])=iA ps++[o] by unfold iA;rw[fk];rfl]
     exact eL.snoc (b0.keep fP _ Cz) _ (eL.keep fP _ (eL.keep (fun b u _ e=>cI.s b u e) _ uh))
   ·rintro bb H' mN oE ⟨vw,ps,rfl,qX,IS,uh⟩
    rw[kz,UV (by omega)]at qX
    rw[kz,UV (cE _)]at uh
    rw[cC]at mN
    have ck:Parts H' D ps:=⟨oE,fun x ay=>(IS x ay).2,by omega,fun x ay=>eE (ads.2 _ (by rw[<-qX];exact List.mem_map.mpr ⟨x,ay,I⟩)) (by decide)⟩
    intro y al bP CJ oL
    have Sm:=Ext.made (C:=lF) (fs:=[]) bP CJ oL
    refine⟨y,al,D,ps,I,aQ,ck.same Sm.s,by rw[qX];exact e9,fun eJ e0 aj aq oD=>⟨I,?_⟩⟩
    have fo:eJ≠y:=fun z=>by rw[z,aQ]at aj;cases aj
    have en:e0≠y:=fun z=>by rw[z,aQ]at aq;cases aq
    rw[BB en,BB fo,iv]
    have ep:=Ext.made (C:=lF) (fs:=DQ eJ e0) bP CJ oL
    have g1:upd (upd H' al (.own y)) y (.ins lF al (DQ eJ e0)) eJ=aw:=by rw[bO fo]at aj ⊢;exact aj
    have qn:=Ext.lst (xs:=(g6 ps).map V.str) g1
    have g2:upd (upd (upd H' al (.own y)) y (.ins lF al (DQ eJ e0))) eJ (.lst ((g6 ps).map V.str)) e0=aw:=by rw[bO (ea oD)];rw[bO en]at aq ⊢;exact aq
    have En:=Ext.lst (xs:=(iA ps).map V.ref) g2
    have E:=(ep.trans qn).trans En
    have M:=vw.trans E
    have wQ:=dC.ext vw.s
    refine⟨_,M.sub,q _ _ M ⟨wQ.no bP,al,eJ,e0,iA ps,by rw[<-r3];exact(qn.trans En).s _ _ aQ,wQ.no (ep.s.free g1),wQ.no ((ep.trans qn).s.free g2),by rw[<-qX];exact En.s _ _ aQ,aQ,eL.keep (fun b u _ e=>E.s b u e) _ (eL.weak (fun x ay=>fD _ ay) _ uh)⟩⟩
theorem L0{f:ae}{fd:fG}{c:dP}(nb:dW mg)(F:dx K mg "_law_made" Bp ["_law_form_here"] f fd)
  (vy:lL K (c.b 0)) (w9:mg "Nothing"=J (.ref (c.b 0))) (vz:lL K (c.b 1)) (xa:mg "Truth"=J (.ref (c.b 1))) (vA:lL K (c.b 2)) (xb:mg "Whole"=J (.ref (c.b 2))) (vx:lL K (c.b 3)) (w8:mg "Fraction"=J (.ref (c.b 3)))
  (vG:jc P w K mg base 1 "Span" c.s ["self","low","high"] (JO c.s)) (vC:jc P w K mg base 2 "Letters" c.l ["self","signs"] (JG c.l)) (vF:jc P w K mg base 4 "Record" (c.t 0) ["self","parts"] (xm (c.t 0))) (vB:jc P w K mg base 4 "Choice" (c.t 1) ["self","cases"] (xm (c.t 1)))
  (vE:jc P w K mg base 1 "Maybe" (c.o 0) ["self","inner"] (rd (c.o 0))) (vD:jc P w K mg base 1 "Many" (c.o 1) ["self","inner"] (rd (c.o 1))) (vH:jc P w K mg base 1 "Turned" (c.o 2) ["self","inner"] (rd (c.o 2))):∀d,bD P w K mg base (d+7) "_law_made" ["_law_form_here"] (Dz c d)
 |0=>bD.none F fun vs H Q E z=>by obtain⟨_,g,_,_,_,_,_,h,_⟩:=z;have:=ys g;omega
 |d+1=>WO nb F vy w9 vz xa vA xb vx w8 vG vC vF vB vE vD vH (L0 nb F vy w9 vz xa vA xb vx w8 vG vC vF vB vE vD vH d)
inductive QL(vs:List V)(H:au)(Q:bB)(E:bR):Prop where
 |mk (a b:Int) (bu:vs=[.int a,.int b]) (aj:∀(p q:Int)(t:ae)(H':au),Ext H H'->H t=aw->H' t=J (.tup [.int p,.int q])->pM (.tup [.int p,.int q])=ah->(a=0/\b=0->p=0/\q=1)->Q (.ref t) H'):QL  vs H Q E
def JC:b3:=fun vs H Q E=>QL  vs H Q E
theorem M3:3<=bY:=by decide
theorem W2(nb:dW mg)(F:dx K mg "_law_fraction" E8 ["_law_one","_law_other"] f fd):bD P w K mg base 1 "_law_fraction" ["_law_one","_law_other"] JC:=by
 refine F.fp rD (fun bh A _ s H vs Q E az h=>?_)
 obtain⟨a,b,rfl,q⟩:=h
 refine⟨_,(aM (bS 2 rD.bp (aO kW (aO dG (aO v3 (ai 0) aD) (cP cU (gC (av aD (av aD (av (aO yq aD aD) aA)))) (aO dG (ai 0) aD))) (cP cU (gC (av aD (av (lh k5 aD) aA))) (aO dG (ai 1) aD))))
  (aM (bS 3 rD.bp (aO dr aD (aO dG (aO v3 (ai 1) aD) (cP cU (gC (av aD (av aD (av (aO yq aD aD) aA)))) (aO dG (aO v3 (ai 1) aD) aD)))))
  (aM (bS 4 rD.bp (cy Uv rfl nb.aaV V7 (av (ai 2) aA)))
  (aM (bS 5 rD.bp (ai 3))
  (aM (rG jC.never (cd kV (ai 4) aD)
   (aM (bS 6 rD.bp (aO dG (ai 5) (ai 4)))
   (aM (bS 5 rD.bp (ai 4))
   (aS (bS 4 rD.bp (ai 6))))))
  (aS (bG (jM (av (aO v3 (ai 2) (ai 5)) (av (aO v3 (ai 3) (ai 5)) aA)))))))))),?_⟩
 try dsimp only[cQ,cR,cS,cT]
 have xh:Ac 10 38:=by refine⟨?_,?_,?_⟩<;>decide
 obtain⟨M,ny,acQ⟩:=tM V.int [10,1000,10^Int.toNat 38] a 3 rfl (by show 0<3;decide)
 have OQ:0<M/\M<=10^38:=by
  have:∀y∈([10,1000,10^Int.toNat 38]:List Int),0<y/\y<=10^38:=by decide+kernel
  exact this M ny
 obtain⟨S,b2,l3⟩:=tM V.int [1,-1] b 2 rfl (by show 0<2;decide)
 have OU:S=1\/S = -1:=by simpa using b2
 obtain⟨N,aX,acR⟩:=tM V.int [6,1000,10^Int.toNat 38] (b/2) 3 rfl (by show 0<3;decide)
 have OR:0<N/\N<=10^38:=by
  have:∀y∈([6,1000,10^Int.toNat 38]:List Int),0<y/\y<=10^38:=by decide+kernel
  exact this N aX
 have hg:Ab (a/3%M) S:=by rcases OU with rfl|rfl<;>exact .inr ⟨by decide,by decide⟩
 have m0:=hu (a/3) (show M≠0 by omega)
 have f6:=hJ (a/3) OQ.1
 have PS:=hu (b/6) (show N≠0 by omega)
 have fo:=hJ (b/6) OR.1
 refine⟨_,I,_,_,I,I,⟨by decide,.inl (by decide)⟩,_,_,rfl,rfl,xh,M3,fun g1 yV=>⟨_,rfl,_,_,rfl,rfl,(by show(0:Int)<3;decide),.inl (.inl ⟨_,_,_,_,rfl,rfl,b1 aQ,acQ,_,_,rfl,rfl,OQ.1,_,rfl,iQ,fun g2 wW=>⟨_,rfl,_,_,rfl,rfl,(by show(0:Int)<2;decide),.inl (.inl ⟨_,_,_,_,rfl,rfl,b1 aQ,l3,.inl ⟨_,_,rfl,rfl,hg,?_⟩⟩)⟩⟩)⟩⟩
 have es:=(Ext.lst (xs:=[V.int 10,.int 1000,.int (10^Int.toNat 38)]) yV).trans (Ext.lst (xs:=[V.int 1,.int (-1)]) wW)
 have cf:(a/3%M*S).natAbs<=10^38:=by rcases OU with rfl|rfl<;>omega
 have OX:a=0->a/3%M*S=0:=by rintro rfl;rw[Int.zero_ediv,Int.zero_emod,Int.zero_mul]
 dsimp only
 generalize a/3%M*S=T at cf OX ⊢
 refine⟨_,I,_,_,I,I,⟨by decide,.inl (by decide)⟩,_,_,rfl,rfl,xh,M3,fun g3 adp=>⟨_,rfl,_,_,rfl,rfl,⟨by decide,.inl (by decide)⟩,_,_,rfl,rfl,(by show(0:Int)<3;decide),.inl (.inl ⟨_,_,_,_,rfl,rfl,b1 aQ,acR,_,_,rfl,rfl,OR.1,.inl ⟨_,_,rfl,rfl,?_⟩⟩)⟩⟩
 have h7:=es.trans (Ext.lst (xs:=[V.int 6,.int 1000,.int (10^Int.toNat 38)]) adp)
 have nw:0<1+b/6%N/\1+b/6%N<=10^38:=by omega
 have OI:b=0->1+b/6%N=1:=by rintro rfl;rw[Int.zero_ediv,Int.zero_emod];rfl
 dsimp only
 generalize 1+b/6%N=B at nw OI ⊢
 generalize upd (upd (upd H g1 _) g2 _) g3 _=bA at h7 ⊢
 refine⟨_,I,_,I,_,I,?_⟩
 obtain⟨B,rfl⟩:∃n:Nat,B=n:=⟨B.toNat,by omega⟩
 refine⟨fun m ab ax=>bA=ax/\∃(y:Nat)(s3:Option V),ab=[J (.int a),J (.int b),J (.int T),J (.int (B:Int)),J (.int (m:Nat)),J (.int (y:Nat)),s3]/\Nat.gcd y m=Nat.gcd B T.natAbs/\0<y,⟨T.natAbs,I,B,aw,?_,I,by omega⟩,?_⟩
 .rw[show(if T<0 then -T else T)=((T.natAbs:Nat):Int) by split<;>omega];rfl
 rintro m ab ax ⟨rfl,y,s3,rfl,aH,bP⟩
 refine⟨_,I,_,_,I,I,_,I,?_⟩
 refine e5 (fun c=>?_) (fun c=>?_)
 ·have hm:0<m:=by omega
  refine⟨fun bU H'=>∃b8,b8<m/\(bA=H'/\∃(y:Nat)(s3:Option V),bU=[J (.int a),J (.int b),J (.int T),J (.int (B:Int)),J (.int (b8:Nat)),J (.int (y:Nat)),s3]/\Nat.gcd y b8=Nat.gcd B T.natAbs/\0<y),fun _ _ h=>h,?_⟩
  refine⟨_,I,_,I,_,_,I,I,(by omega),_,I,_,I,y%m,Nat.mod_lt _ hm,I,m,J (.int ((y%m:Nat):Int)),?_,?_,hm⟩
  ·dsimp only
   rw[<-Int.natCast_emod];rfl
  .rw[Nat.gcd_comm,<-Nat.gcd_rec,Nat.gcd_comm];exact aH
 ·have hm:m=0:=by omega
  subst hm
  rw[Nat.gcd_zero_right]at aH
  have amt:y<=B:=by rw[aH];exact Nat.gcd_le_left _ (by omega)
  have alJ:(y:Int)∣T:=by rw[aH];exact Int.ofNat_dvd_left.mpr (Nat.gcd_dvd_right _ _)
  have abl:(y:Int)∣(B:Int):=by rw[aH];exact Int.natCast_dvd_natCast.mpr (Nat.gcd_dvd_left _ _)
  have oI:c6.Int.intBits (y:Int)<=9000:=by
   rw[wb]
   have alT:(10:Nat)^38<2^200:=by decide+kernel
   exact eE (hn (show y<2^200 by omega)) (by decide)
  refine⟨_,I,_,I,_,_,I,I,⟨by omega,.inl oI⟩,_,rfl,_,rfl,_,_,rfl,rfl,⟨by omega,.inl oI⟩,iQ,fun t aT=>?_⟩
  have vR:=h7.trans (Ext.tup (xs:=[V.int (T/(y:Int)),.int ((B:Int)/(y:Int))]) aT)
  refine⟨_,vR.sub,q _ _ t _ vR (h7.s.free aT) aQ (Ue ?_ ?_ ?_ ?_) (fun z=>?_)⟩
  .exact Int.ediv_pos_of_pos_of_dvd (by omega) (by omega) abl
  ·have:Int.gcd T (B:Int)=y:=by rw[aH,Nat.gcd_comm];rfl
   rw[<-this]
   exact Int.gcd_ediv_gcd_ediv_gcd (by rw[this];exact bP)
  ·have:=Int.natAbs_ediv_le_natAbs T (y:Int)
   omega
  ·have:=Int.ediv_le_self (a:=(B:Int)) (y:Int) (by omega)
   omega
  ·have aj:=OX z.1
   have aq:=OI z.2
   have bl:y=1:=by omega
   rw[aj,aq,bl];exact⟨I,I⟩
theorem aeJ{b:Bool}(aj:b=ah->A)(aq:b=ag->B):if b=ah then A else B:=by
 cases b
 .exact fb (aq I)
 .exact gQ (aj I)
theorem VX{w b:af}(aj:w≠a)(aq:w≠b):C6 (.str w) [.str a,.str b]=ag:=by
 have aI:nr (.str a) (.str w)=ag:=by simp[nr,ea aj]
 have aL:nr (.str b) (.str w)=ag:=by simp[nr,ea aq]
 unfold C6
 rw[List.any_cons,List.any_cons,aI,aL];rfl
theorem Cb:(∀k:Fin 3,p7 k≠af.ofString "truth"/\p7 k≠af.ofString "nothing")/\(∀k:Fin 2,u4 k≠af.ofString "truth"/\u4 k≠af.ofString "nothing")/\(sZ≠af.ofString "truth"/\sZ≠af.ofString "nothing")/\u1≠af.ofString "truth"/\u1≠af.ofString "nothing":=by decide+kernel
theorem Vn:∀f:bF,∃w r,gO f=.tup (.str w::r)/\(r=[]/\c0 f=1\/r≠[]/\w≠af.ofString "truth"/\w≠af.ofString "nothing")
 |.bare k=>⟨_,_,by rw[gO],.inl ⟨rfl,by rw[c0]⟩⟩
 |.sp a b=>⟨_,_,by rw[gO],.inr ⟨ng _ _,Cb.2.2.1⟩⟩
 |.le s=>⟨_,_,by rw[gO],.inr ⟨ng _ _,Cb.2.2.2⟩⟩
 |.one k f=>⟨_,_,by rw[gO],.inr ⟨ng _ _,Cb.1 k⟩⟩
 |.two k ns fs=>⟨_,_,by rw[gO],.inr ⟨ng _ _,Cb.2.1 k⟩⟩
theorem GA{n:Int}(h:iM n):(iW n).length<=270:=by
 obtain⟨aj,aq⟩:=h
 have key:∀m:Nat,m+1<2^255->(cnt m).length<=269:=fun m hm=>by
  have:=Bu hm
  have:=hn hm
  omega
 unfold iW
 split
 ·rw[dZ,cC]
  have:=key (-1-n).toNat (by omega)
  omega
 ·rw[dZ]
  have:=key n.toNat (by omega)
  omega
theorem M9:∀(s:List Int),(∀x∈s,h2 (x-1))->(more s).length<=271*s.length+1
 |[],_=>by rw[more];exact cE _
 |b::r,h=>by
  obtain⟨aj,aq⟩:=h b (hM ..)
  have hm:(b-1).toNat+1<2^255:=by omega
  have a1:=Bu hm
  have a2:=hn hm
  have:=M9 r fun x ay=>h x (fD _ ay)
  rw[more,dZ,cC,cD,dZ]
  omega
theorem Z7(h:pM d=ah):(dw d).length<=100000:=by
 obtain⟨p,q,rfl,aj,aq,bW,d0,jQ⟩:=Ge h
 show(l0 (eu p q)).length<=_
 rw[lS aj]at bW d0 jQ ⊢
 rw[l0,cD]
 have a1:=GA (d0 _ (hM ..))
 have a2:=M9 _ jQ
 have a3:((p/q::eu q (p%q)).drop 1).length=(eu q (p%q)).length:=rfl
 rw[dZ]at bW
 rw[a3]at a2
 have a4:(more ((p/q::eu q (p%q)).drop 1)).length=(more (eu q (p%q))).length:=rfl
 omega
theorem Z6:(dw (.tup [.int 0,.int 1])).length<=300:=by
 show(l0 (eu 0 1)).length<=_
 rw[lS (by decide)]
 show(l0 (0::eu 1 0)).length<=_
 rw[qs];decide+kernel
theorem Va{s t:af}(h:s.length<=60):(PM s (.str t)).length<=7*t.length+1:=by
 have ar:ba (s.length-1)<=6:=hn (w:=6) (by omega)
 have key:∀l:List Nat,((l.map fun c=>ah::el (s.cps.toList.idxOf c) (ba (s.length-1))).flatten).length<=7*l.length:=by
  intro l
  induction l with
  |nil=>exact cE _
  |cons c l cM =>
   rw[je,nh,cD,dZ,la,dZ]
   omega
 show(_++[ag]).length<=_
 rw[cD]
 have:=key t.cps.toList
 rw[h5]at this
 exact Nat.succ_le_succ this
theorem MB{fw:D->List Bool}{f:bF}{d:D}:∀(fs:List bF)(ds:List D),ds.length=fs.length->gh fw (fs++[f]) (ds++[d])=gh fw fs ds++cb fw f d
 |[],[],_=>by
  show gh fw (f::[]) (d::[])=gh fw [] []++_
  rw[gh,gh,gh]
  show cb fw f d++[]=[]++_
  rw[List.append_nil,List.nil_append]
 |[],_::_,h=>by cases h
 |_::_,[],h=>by cases h
 |g::fs,e::ds,h=>by
  have:=MB fs ds (by simpa using h) (fw:=fw) (f:=f) (d:=d)
  show gh fw (g::(fs++[f])) (e::(ds++[d]))=gh fw (g::fs) (e::ds)++_
  rw[gh,gh]
  show cb fw g e++gh fw (fs++[f]) (ds++[d])=cb fw g e++gh fw fs ds++_
  rw[this,e2]
def lO(m b8 L s:Nat):Prop:=b8<=m/\(L<=150000*(m-b8)\/m=0/\L<=300*s)
def eV(m f6:Nat)(c:Int):Prop:=m=f6+1\/m=0/\f6=0/\c=0
theorem lO.leaf{s:Nat}{c:Int}(hc:eV m f6 c)(hs:1<=s)(gP:L<=150000)(bC:c=0->L<=300):lO m f6 L s:=by
 rcases hc with z|⟨dh,de,g8⟩
 .exact⟨by omega,.inl (by omega)⟩
 ·have:=bC g8
  exact⟨by omega,.inr ⟨dh,by omega⟩⟩
theorem lO.wrap{b8 Av s aF:Nat}{c:Int}(hc:eV m f6 c)(h:lO f6 b8 L s)(hs:s+1<=aF)(uB:aF<=150)(gP:Av<=L+300):lO m b8 Av aF:=by
 obtain⟨aj,aq⟩:=h
 rcases hc with z|⟨dh,de,g8⟩
 .exact⟨by omega,.inl (by omega)⟩
 .exact⟨by omega,.inr ⟨dh,by omega⟩⟩
theorem rO(X:Ext H H')(h:lM p H):pl H' p=pl H p:=by
 obtain⟨ns,e,_⟩:=h
 rw[tU e,tU (X.s _ _ e)]
theorem Cc{D:ae}{o:c2}(h:D≠p):pl (upd H D o) p=pl H p:=by
 unfold pl
 rw[bO (ea h)]
theorem pY{R:e1}{D:Ends}(ay:ab[i]?=J (J (.ref p)))(ck:lM p H)(h:∀c H1,dy p H H1->eV (pl H p) (pl H1 p) c->R D (ab.set j (J (.int c))) H1):xp (xo (JS zS [] iJ (RO (xr i) DL)) (wF j)) R D ab H:=⟨_,ay,p,rfl,ck,fun c ns oK hc=>h c _ (dy.pop ck oK) (by
 rw[tU aQ,cC]
 rcases hc with z|⟨dh,de,g8⟩
 .exact .inl z
 .exact .inr ⟨dh,by rw[de];rfl,g8⟩)⟩
theorem Nu{g:gW}{D:ae}(n:Nat)(xs:Nat->V)(Inv:Nat->List V->au->Prop)(S:St->Prop)(bC:n<=100000)(bu:S gJ)
  (yW:∀i H,i<n->dQ.go i H) (IV:∀H,dQ.stop n H) (bP:∀i H x H',i<n->dQ.qa i H x H'->H'=H/\x=xs i) (aj:Inv 0 [] (upd H D (.lst [])))
  (aT:∀i,i<n->∀bb cz H1,S cz->Inv i bb H1->H1 D=J (.lst bb)->bb.length=i->∀R:St->V->au->Prop,(∀b7 y bA,S b7->bA D=J (.lst bb)->Inv (i+1) (bb++[y]) (upd bA D (.lst (bb++[y])))->R b7 y bA)->g (xs i) cz H1 fun b7 ax=>cG b7 ax fun y bA=>R b7 y bA)
  (aW:∀(bb:List V)(H':au),bb.length=n->H' D=J (.lst bb)->Inv n bb H'->Q (.ref D) H') :
  qk dQ g sU cG Q gJ H D:=by
 refine⟨fun i m cz ax=>i<=n/\m=n-i/\S cz/\∃bb:List V,bb.length=i/\ax D=J (.lst bb)/\Inv i bb ax,⟨n,UF _,I,bu,[],I,aQ,aj⟩,?_⟩
 rintro i m cz ax ⟨aC,rfl,aq,bb,mN,mD,ck⟩
 rcases j4 i n with z|z
 ·refine .inr ⟨yW i _ z,fun x bA y=>?_⟩
  obtain⟨rfl,rfl⟩:=bP i _ x bA z y
  refine aT i z bb cz _ aq ck mD mN (fun b7 y fS=>∃zs b8,fS D=J (.lst zs)/\zs.length<bY/\b8<n-i/\(i+1<=n/\b8=n-(i+1)/\S b7/\∃ws:List V,ws.length=i+1/\upd fS D (.lst (zs++[y])) D=J (.lst ws)/\Inv (i+1) ws (upd fS D (.lst (zs++[y]))))) fun b7 y fS gq HZ H3=>?_
  exact⟨bb,n-(i+1),HZ,fB (show bb.length<100000 by omega) (by decide),by omega,by omega,rfl,gq,bb++[y],by rw[cD,mN];rfl,aQ,H3⟩
 ·have e:i=n:=by omega
  subst e
  exact .inl ⟨IV _,aW bb ax mN mD ck⟩
theorem ki.grow(h:ki X H)(g:dy p H H'):ki X H':=fun x ay=>by
 by_cases z:x=p
 ·subst z
  obtain⟨ns,e,_⟩:=g.l
  exact⟨_,e⟩
 ·obtain⟨l,e⟩:=h x ay
  exact⟨l,g.k _ _ z e⟩
theorem MS{bL:D->Bool}{f:bF}{d:D}(h:c4 bL f d=ah):∀(fs:List bF)(ds:List D),fL bL fs ds=ah->fL bL (fs++[f]) (ds++[d])=ah
 |[],[],_=>by show fL bL [f] [d]=ah;rw[fL,fL];simp[h]
 |[],e::ds,h=>by rw[fL]at h;cases h
 |g::fs,[],h=>by rw[fL]at h;cases h
 |g::fs,e::ds,hs=>by
  rw[fL]at hs
  show fL bL (g::(fs++[f])) (e::(ds++[d]))=ah
  rw[fL]
  have hs:(c4 bL g e&&fL bL fs ds)=ah:=hs
  show(c4 bL g e&&fL bL (fs++[f]) (ds++[d]))=ah
  rw[hK]at hs ⊢
  exact⟨hs.1,MS h fs ds hs.2⟩
theorem MU{d:D}{n:Nat}(h:jN d<=n):∀{ds:List D},hP ds<=n->hP (ds++[d])<=n
 |[],_=>by show hP [d]<=n;rw[hP,hP];omega
 |g::fs,hs=>by
  rw[hP]at hs
  show hP (g::(fs++[d]))<=n
  rw[hP]
  have:=MU h (ds:=fs) (by omega)
  omega
theorem GB:∀{fs:List bF}{i:Nat}{g:bF},fs[i]?=J g->c0 g<=hX fs
 |[],i,g,h=>by cases h
 |f::fs,0,g,h=>by cases h;rw[hX];omega
 |f::fs,i+1,g,h=>by have:=GB (fs:=fs) (i:=i) h;rw[hX];omega
inductive Rz(d:Nat)(vs:List V)(H:au)(Q:bB)(E:bR):Prop where
 |mk (p:ae) (uZ:V) (f:bF) (X:List ae) (bu:vs=[.ref p,uZ]) (aj:p∈X) (aq:lM p H) (bl:ki X H) (bW:dj X H (gO f) uZ) (d0:hD f) (jQ:aT f<=d) (qL:c0 f<=150) (yI:∀v iR H',dy p H H'->dj X H' iR v->c4 pM f iR=ah->jN iR<=aT f+1->lO (pl H p) (pl H' p) (cb dw f iR).length (c0 f)->Q v H'):Rz d vs H Q E
def DD(d:Nat):b3:=fun vs H Q E=>Rz d vs H Q E
theorem Nj{n:Nat}:∀(ds:List D),(∀d,d∈ds->jN d<=n)->hP ds<=n
 |[],_=>by rw[hP];omega
 |d::ds,h=>by
  rw[hP]
  have:=h d (hM ..)
  have:=Nj ds fun e he=>h e (fD _ he)
  omega
theorem UA(t:af)(c:Nat):(t++(⟨#[c]⟩:af)).cps.toList=t.cps.toList++[c]:=by rw[wc]
set_option maxHeartbeats 4000000 in
theorem WA{d:Nat}(nb:dW mg)(F:dx K mg "_law_value" Bi ["_law_pool_here","_law_form_here"] f fd)(hh:bD P w K mg base 1 "_law_next" ["_law_pool_here"] zS)(td:bD P w K mg base 2 "_law_signed" ["_law_cell"] JN)(vj:bD P w K mg base 1 "_law_fraction" ["_law_one","_law_other"] JC)
  (pa:bD P w K mg base (d+3) "_law_value" ["_law_pool_here","_law_form_here"] (DD d)):bD P w K mg base (d+3+1) "_law_value" ["_law_pool_here","_law_form_here"] (DD (d+1)):=by
 refine F.fp nj (fun bh A _ s H vs Q E az h=>?_)
 obtain⟨p,uZ,g,X,rfl,eQ,ck,dC,bg,aP,cu,f5,q⟩:=h
 refine RZ _ (aM (bS 2 nj.bp (cP cU (ai 1) aD))
  (aM (cW (cd da (ai 2) cw) (aS (bG lN)) cV)
  (aM (bS 3 nj.bp (cj hh az (av (ai 0) aA) (hk:=by omega)))
  (aM (cW (cd da (ai 2) cw) (aS (bG (gi da (aO dG (ai 3) aD) aD))) cV)
  (aM (cW (g9.pt (B5 (cd da (ai 2) cw) (BL (cd kV (cy d7 rfl nb.d1 d2 (av (ai 0) aA)) aD)))) (aS (bG (cj td az (av (ai 3) aA) (hk:=by omega)))) cV)
  (aM (cW (cd da (ai 2) cw) (aS (bG (cj td az (av (aO dG (ai 3) aD) aA) (hk:=by omega)))) cV)
  (aM (cW (cd da (ai 2) cw) (aS (bG (aO dr (cP cU (ai 1) aD) (aO dG (ai 3) (aO dr (aO gp (cP cU (ai 1) aD) (cP cU (ai 1) aD)) aD))))) cV)
  (aM (cW (cd da (ai 2) cw) (aS (bG (cj vj az (av (ai 3) (av (cj hh az (av (ai 0) aA) (hk:=by omega)) aA)) (hk:=by omega)))) cV)
  (aM (cW (cd da (ai 2) cw) (BM (bS 4 nj.bp (cP cU (gC (av (aO dG (ai 3) aD) (av aD aA))) (qu tw rfl nb.qZ qA (av (jl (gi da (aO dG (ai 3) aD) aD) (jl (gi mR (cy d7 rfl nb.d1 d2 (av (cP cU (ai 1) aD) aA)) aD) (kq (gi kV (cy d7 rfl nb.d1 d2 (av (ai 0) aA)) aD)))) aA))))
   (aM (bS 5 nj.bp cw)
   (aM (pD jC.never rfl (rz rfl nb.p1 (av (ai 4) aA)) (eF (i:=6) nj.bp rfl (by first|exact Or.inl I|exact Or.inr I))
    (aM (bS 5 nj.bp (aO dr (ai 5) (cP cU (cP cU (ai 1) aD) (aO dG (aO hx (ai 3) aD) (cy d7 rfl nb.d1 d2 (av (cP cU (ai 1) aD) aA))))))
    (aS (bS 3 nj.bp (aO hx (ai 3) (cy d7 rfl nb.d1 d2 (av (cP cU (ai 1) aD) aA)))))))
   (aS (bG (ai 5)))))) cV)
  (aM (cW (g9.pt (B5 (cd da (ai 2) cw) (BL (cd da (aO dG (ai 3) aD) aD)))) (aS (bG (jM aA))) cV)
  (aM (cW (cd da (ai 2) cw) (aS (bG (jM (av (cj pa az (av (ai 0) (av (cP cU (ai 1) aD) aA)) (hk:=by omega)) aA)))) cV)
  (aM (cW (cd da (ai 2) cw) (BM (bS 4 nj.bp (aO dG (ai 3) (cP cU (gC (av aD (av aD aA))) (qu tw rfl nb.qZ qA (av (gi kV (cy d7 rfl nb.d1 d2 (av (ai 0) aA)) aD) aA)))))
   (BM (cW (GI ZR (cP cU (cP cU (ai 1) aD) aD) (gC (av cw (av cw aA))) (by with_unfolding_all rfl)) (aS (bS 4 nj.bp (aO dG (aO hx (ai 3) aD) aD))) cV)
   (aS (bG (jj ["_law_k"] [(0,"_law_pool_here"),(1,"_law_form_here")] rfl (by decide+kernel) ⟨rfl,.inl rfl,rfl,.inl rfl,trivial⟩ (rz rfl nb.p1 (av (ai 4) aA)) (fun _ _ _ _ _=>(eF (i:=0) (show(["_law_k","_law_pool_here","_law_form_here"]:List af).Nodup by decide+kernel))) (fun _ _ _ _ _=>iN) (fun _ _ _ _ _=>(cj pa az (av (ai 1) (av (cP cU (ai 2) aD) aA)) (hk:=by omega)))))))) cV)
  (aM (cW (cd da (ai 2) cw) (aS (bG (qu L4 rfl nb.uY tL (av (jj ["_law_name","_law_inner"] [(0,"_law_pool_here")] rfl (by decide+kernel) ⟨rfl,.inl rfl,trivial⟩ (kb (cP cU (ai 1) aD)) (fun _ _ _ _ _=>(pE rfl (ji (eF (i:=0) (show(["_law_name","_law_inner","_law_pool_here"]:List af).Nodup by decide+kernel)) (ji (eF (i:=1) (show(["_law_name","_law_inner","_law_pool_here"]:List af).Nodup by decide+kernel)) pk)))) (fun _ _ _ _ _=>iN) (fun _ _ _ _ _=>(cj pa az (av (ai 2) (av (ai 1) aA)) (hk:=by omega)))) aA)))) cV)
  (aM (cW (cd da (ai 2) cw) (aM (yo (cP cU (cP cU (ai 1) aD) (aO dG (ai 3) (cy d7 rfl nb.d1 d2 (av (cP cU (ai 1) aD) aA)))) (pE rfl (ji (eF (i:=7) nj.bp rfl (by first|exact Or.inl I|exact Or.inr I)) (ji (eF (i:=8) nj.bp rfl (by first|exact Or.inl I|exact Or.inr I)) pk))))
   (aS (bG (jM (av (ai 7) (av (cj pa az (av (ai 0) (av (ai 8) aA)) (hk:=by omega)) aA)))))) cV)
  (aS (bG (cj pa az (av (ai 0) (av (cP cU (ai 1) aD) aA)) (hk:=by omega)))))))))))))))))) fun G gJ jU go=>?_
 try dsimp only[cQ,cR,cS,cT]at go
 have a0:∀(x:V)(r:List V),eG (x::r) 0=J x:=fun x r=>dA (j:=0) rfl
 have a1:∀(x y:V)(r:List V),eG (x::y::r) 1=J y:=fun x y r=>dA (j:=1) rfl
 have l5:∀{T:ae},T∉X->T≠p:=fun h z=>h (by rw[z];exact eQ)
 cases g with
 | bare k =>
  rw[gO]at bg
  rw[aT]at q
  obtain⟨T,_,rfl,i3,e,⟨_,_,rfl,⟨rfl,_⟩,rfl⟩,_⟩:=bg
  rcases ub k with rfl|rfl|rfl|rfl
  ·skip
   subst jU
   refine go (kY I e ?_)
   refine lg I fun N=>⟨_,(dy.refl ck).sub,q _ .bK _ (dy.refl ck) I (by rw[c4];rfl) (by rw[jN];omega) (by rw[cb];exact⟨cE _,.inl (UF _)⟩)⟩
  ·skip
   subst jU
   refine go (kY I e ?_)
   refine h6 I (by decide+kernel) ?_
   refine pY I ck fun cl H1 G1 hc=>?_
   refine lg I fun N=>⟨_,I,_,_,I,I,(by show(0:Int)<2;decide),I,_,G1.sub,q _ (.aN _) _ G1 I (by rw[c4];rfl) (by rw[jN];omega) (by rw[cb,c0];exact lO.leaf hc (cE _) (show 1<=150000 by decide) (fun _=>show 1<=300 by decide))⟩
  ·skip
   subst jU
   refine go (kY I e ?_)
   refine h6 I (by decide+kernel) ?_
   refine pY I ck fun cl H1 G1 hc=>?_
   refine h6 I (by decide+kernel) ?_
   obtain⟨f6,uy,CR⟩:=G1.l
   have cZ:∀n:Int,iM n->gB H H1 (Q (.int n)):=fun n bo=>⟨_,G1.sub,q _ (.int n) _ G1 rfl (by rw[c4];exact d6 bo) (by rw[jN];omega) (by rw[cb,c0];exact lO.leaf hc (cE _) (eE (GA bo) (by decide)) (fun _=>eE (GA bo) (by decide)))⟩
   refine⟨_,I,I,_,I,jw I ⟨_,I,_,_,I,.inl ⟨_,b1 uy,I⟩,_,_,I,I,_,I,e5 (fun fl=>⟨_,I,cl,I,cZ⟩) (fun fl=>?_)⟩⟩
   exact lg I fun N=>⟨_,I,_,_,I,I,(by show(0:Int)<1000;decide),_,I,cZ⟩
  ·skip
   subst jU
   refine go (kY I e ?_)
   refine h6 I (by decide+kernel) ?_
   refine pY I ck fun cl H1 G1 hc=>?_
   iterate 4 (first|refine h6 I (by decide+kernel) ?_|refine uV I (by decide+kernel) ?_)
   refine lg I fun N=>⟨_,I,_,I,p,I,G1.l,fun gv en ly Ih=>⟨cl,gv,I,fun pp aiS t H' mv l8 aef aG bC=>?_⟩⟩
   have eC:=(G1.trans (dy.pop G1.l ly)).ext mv
   have aeg:t∉X:=(dC.grow (G1.trans (dy.pop G1.l ly))).no l8
   refine⟨_,eC.sub,q _ (.tup [.int pp,.int aiS]) _ eC ⟨t,_,I,aeg,aef,⟨_,_,I,I,_,_,I,I,I⟩,by simp⟩ (by rw[c4];exact aG) (by rw[jN,hP,hP,hP,jN,jN];omega) ?_⟩
   rw[tU (mv.s p (.lst (en.map V.int)) aQ),cC,cb,c0]
   have gP:=Z7 aG
   have aq:en.length<=pl H1 p:=by
    rcases Ih with y|⟨_,u5,_⟩
    .omega
    .rw[u5];exact UF _
   rcases hc with z|⟨dh,de,g8⟩
   .exact⟨by omega,.inl (eE gP (by omega))⟩
   ·rcases Ih with y|⟨p9,u5,nV⟩
    .omega
    ·obtain⟨rfl,rfl⟩:=bC ⟨g8,nV⟩
     exact⟨by rw[u5];exact UF _,.inr ⟨dh,Z6⟩⟩
 |sp lo aC =>
  rw[gO]at bg
  rw[hD]at aP
  rw[aT]at q
  obtain⟨T,_,rfl,i3,e,⟨_,_,rfl,⟨rfl,_⟩,_,_,rfl,rfl,_,_,rfl,rfl,rfl⟩,_⟩:=bg
  subst jU
  refine go (kY I e ?_)
  refine h6 I (by decide+kernel) ?_
  refine pY I ck fun cl H1 G1 hc=>?_
  iterate 3 (first|refine h6 I (by decide+kernel) ?_|refine uV I (by decide+kernel) ?_)
  have aI:=G1.k _ _ (l5 i3) e
  have a2:eG [V.str sZ,V.int lo,V.int aC] 2=J (.int aC):=dA (j:=2) rfl
  have m0:=hu cl (show aC-lo+1≠0 by omega)
  have f6:=hJ cl (show 0<aC-lo+1 by omega)
  refine lg I fun N=>⟨_,I,.inl (.inr ⟨_,_,_,_,I,I,dk aI,a1 _ _ _,_,I,_,I,.inl (.inr ⟨_,_,_,_,I,I,dk aI,a2,_,I,.inl (.inr ⟨_,_,_,_,I,I,dk aI,a1 _ _ _,_,_,I,I,.inl ⟨_,_,I,I,_,_,I,I,(by omega),.inl ⟨_,_,I,I,?_⟩⟩⟩)⟩)⟩)⟩
  refine⟨_,G1.sub,q _ (.int _) _ G1 I (by rw[c4];exact d6 ⟨by omega,by omega⟩) (by rw[jN];omega) ?_⟩
  have ar:ba (aC-lo).toNat<=190:=hn (by omega)
  rw[cb,c0]
  have gP:(el (lo+cl%(aC-lo+1)-lo).toNat (ba (aC-lo).toNat)).length<=190:=by rw[la];exact ar
  exact lO.leaf hc (cE _) (eE gP (by decide)) (fun _=>eE gP (by decide))
 | le aY =>
  have IX:=bg
  rw[gO]at bg
  rw[aT]at q
  have Iz:=aP
  rw[hD]at Iz
  obtain⟨T,_,rfl,i3,e,⟨_,_,rfl,⟨rfl,_⟩,_,_,rfl,⟨rfl,uC⟩,rfl⟩,_⟩:=bg
  have ad6:0<aY.length:=by
   have:=Iz.1
   unfold kR at this
   simp only[hK,jJ]at this
   omega
  subst jU
  refine go (kY I e ?_)
  refine h6 I (by decide+kernel) ?_
  refine pY I ck fun cl H1 G1 hc=>?_
  iterate 5 (first|refine h6 I (by decide+kernel) ?_|refine uV I (by decide+kernel) ?_)
  have aI:=G1.k _ _ (l5 i3) e
  have Dc:aY.length<=bY:=fg (by omega)
  obtain⟨f6,uy,CR⟩:=G1.l
  refine lg I fun N=>⟨fun bU H'=>Ext H1 H'/\∃n:Nat,n<=200/\(cl=0->n=0)/\bU=[J (.ref p),J (.ref T),J (.str u1),J (.int cl),J (.int ((n:Nat):Int)),aw,aw,aw,aw],?_,?_⟩
  ·obtain⟨su,amj,HB⟩:=jL cl 7 (by decide)
   have HB:cl%7=((su:Nat):Int):=HB
   refine⟨_,I,_,_,I,I,(by show(0:Int)<7;decide),iQ,fun g1 yV=>?_⟩
   have fv:=Ext.lst (xs:=[V.int (cl%7),.int 200]) yV
   have cZ:∀b:Bool,(b=ah->cl%41=40)->∃v:Nat,(v<=200/\(cl=0->v=0))/\eG [V.int (cl%7),.int 200] (if b=ah then 1 else 0)=J (.int ((v:Nat):Int)):=fun b ar=>by
    cases b
    .exact⟨su,⟨by omega,by rintro rfl;omega⟩,by rw[HB];exact dA (j:=0) I⟩
    .exact⟨200,⟨by omega,by rintro rfl;exact absurd (ar I) (by decide)⟩,dA (j:=1) rfl⟩
   refine⟨_,I,_,_,I,I,(by show(0:Int)<41;decide),I,_,I,e5 (fun gv=>?_) (fun gv=>?_)⟩
   ·refine⟨_,I,.inl (.inr ⟨_,_,_,_,I,I,dk (fv.s _ _ aI),a1 _ _ _,_,_,I,⟨Dc,I⟩,.inl ⟨_,_,I,I,_,I,e5 (fun fX=>?_) (fun fX=>?_)⟩⟩)⟩
    ·refine⟨_,I,_,_,I,.inl ⟨_,b1 (fv.s _ _ uy),I⟩,_,_,I,I,?_⟩
     obtain⟨v,nB,pT⟩:=cZ (decide (70<(((f6.map V.int).length:Nat):Int))) (fun _=>V.int.inj gv)
     exact .inl (.inr ⟨_,I,.inl (.inl ⟨_,_,_,_,I,I,b1 aQ,pT,fv,v,nB.1,nB.2,I⟩)⟩)
    ·obtain⟨v,nB,pT⟩:=cZ ag (fun z=>nomatch z)
     exact .inl (.inr ⟨_,I,.inl (.inl ⟨_,_,_,_,I,I,b1 aQ,pT,fv,v,nB.1,nB.2,I⟩)⟩)
   ·obtain⟨v,nB,pT⟩:=cZ ag (fun z=>nomatch z)
    exact .inl (.inr ⟨_,I,.inl (.inl ⟨_,_,_,_,I,I,b1 aQ,pT,fv,v,nB.1,nB.2,I⟩)⟩)
  rintro z5 gb ⟨tG,n,bo,mJ,rfl⟩
  have hc:eV (pl H p) (pl gb p) cl:=by rw[rO tG G1.l];exact hc
  have aI:=tG.s _ _ aI
  have G1:=G1.ext tG
  refine⟨_,I,_,I,by omega,by omega,?_⟩
  rw[show(((n:Nat):Int)).toNat=n by omega]
  refine vX (fun i ab ax=>gb=ax/\∃(t:af)(c:Int)(rj:Option V),ab=[J (.ref p),J (.ref T),J (.str u1),J (.int c),J (.int ((n:Nat):Int)),J (.str t),rj,aw,aw]/\t.length=i/\nF t aY=ah) ⟨I,af.ofString "",cl,aw,I,by decide+kernel,rfl⟩ ?_ ?_
  ·rintro i ab ax aC ⟨rfl,t,c,rj,rfl,C1,CS⟩
   obtain⟨k,hk,lk⟩:=jL (c/287) aY.length ad6
   have hk':k<aY.cps.toList.length:=by rw[h5];exact hk
   have jr:eG aY.cps.toList (c/287%((aY.length:Nat):Int))=J aY.cps.toList[k]:=by rw[lk];exact dA (dR hk')
   refine⟨_,I,_,I,.inl (.inr ⟨_,_,_,_,I,I,dk aI,a1 _ _ _,_,I,_,_,I,I,⟨by decide,by decide⟩,_,rfl,.inl (.inr ⟨_,_,_,_,rfl,rfl,dk aI,a1 _ _ _,_,_,rfl,⟨Dc,rfl⟩,_,_,rfl,rfl,(by omega),.inr ⟨_,_,_,rfl,rfl,Dc,jr,.inr ⟨_,_,rfl,rfl,?_,?_⟩⟩⟩)⟩)⟩
   ·show t.length+1<=bY
    exact fg (by omega)
   refine⟨_,I,_,I,.inl (.inr ⟨_,_,_,_,I,I,dk aI,a1 _ _ _,_,_,I,⟨Dc,I⟩,_,_,I,I,⟨by omega,by omega⟩,rfl,_,_,_,rfl,?_,?_⟩)⟩
   .rw[pB,C1];rfl
   ·unfold nF at CS ⊢
    rw[UA,List.all_append,CS]
    simp
  ·rintro ab ax ⟨rfl,t,c,rj,rfl,C1,CS⟩
   refine⟨_,I,_,G1.sub,q _ (.str t) _ G1 ⟨I,by omega⟩ (by rw[c4];exact pw.mpr ⟨d6 (by omega),CS⟩) (by rw[jN];omega) ?_⟩
   have gP:=Va (t:=t) Iz.2
   rw[cb,c0]
   exact lO.leaf hc (cE _) (by omega) (fun z=>by have:=mJ z;omega)
 | one k g =>
  have qY:c0 g+1<=150:=by rw[c0]at f5;exact f5
  have IX:=bg
  have aml:=aP
  rw[gO]at bg
  rw[hD]at aP
  rw[aT]at cu
  rw[aT]at q
  obtain⟨T,_,rfl,i3,e,⟨_,_,rfl,⟨rfl,_⟩,jX,_,rfl,hd,rfl⟩,_⟩:=bg
  rcases rZ k with rfl|rfl|rfl
  ·skip
   subst jU
   refine go (kY I e ?_)
   refine h6 I (by decide+kernel) ?_
   refine pY I ck fun cl H1 G1 hc=>?_
   iterate 6 (first|refine h6 I (by decide+kernel) ?_|refine uV I (by decide+kernel) ?_)
   have aI:=G1.k _ _ (l5 i3) e
   refine⟨_,I,I,_,I,jw I ⟨_,I,_,_,I,I,(by show(0:Int)<2;decide),I,_,I,e5 (fun fl=>?_) (fun fl=>?_)⟩⟩
   ·refine⟨UF _,fun t l8=>?_⟩
    have eC:=G1.ext (Ext.tup (xs:=[]) l8)
    exact⟨_,eC.sub,q _ (.tup []) _ eC ⟨t,[],I,(dC.grow G1).no l8,aQ,I,by simp⟩ (by rw[c4];rfl) (by rw[jN,hP];omega) (by rw[rO (Ext.tup l8) G1.l,cb];exact lO.leaf hc (K2 _) (show 1<=150000 by decide) (fun _=>show 1<=300 by decide))⟩
   refine lg I fun N=>⟨_,I,_,I,.inl (.inr ⟨_,_,_,_,I,I,dk aI,a1 _ _ _,p,jX,g,X,I,eQ,G1.l,dC.grow G1,dj.grow eQ G1 hd,aP,by omega,by omega,fun v iR H' G qU jt yQ oO=>⟨B7,fun t l8=>?_⟩⟩)⟩
   have f9:=Ext.tup (xs:=[v]) l8
   have eC:=(G1.trans G).ext f9
   refine⟨_,eC.sub,q _ (.tup [iR]) _ eC ⟨t,_,I,(dC.grow (G1.trans G)).no l8,aQ,⟨_,_,I,qU.same f9.s,I⟩,by simp⟩ ?_ (by rw[jN,hP,hP];omega) ?_⟩
   .rw[c4];exact jt
   ·rw[rO f9 (G1.trans G).l,cb,c0]
    exact oO.wrap hc (cE _) (by omega) (show(cb dw g iR).length+1<=_ by omega)
  ·skip
   subst jU
   refine go (kY I e ?_)
   refine h6 I (by decide+kernel) ?_
   refine pY I ck fun cl H1 G1 hc=>?_
   iterate 8 (first|refine h6 I (by decide+kernel) ?_|refine uV I (by decide+kernel) ?_)
   have aI:=G1.k _ _ (l5 i3) e
   obtain⟨f6,uy,CR⟩:=G1.l
   obtain⟨hY,fe,i0,pK⟩:=Vn g
   have CI:=dj.grow eQ G1 hd
   rw[i0]at CI
   obtain⟨dF,ws,rfl,wO,e',⟨_,amL,rfl,⟨rfl,aeo⟩,w0⟩,C4⟩:=CI
   refine lg I fun N=>⟨fun bU H'=>Ext H1 H'/\∃n:Nat,n<=3/\(cl=0->n=0)/\bU=[J (.ref p),J (.ref T),J (.str (p7 1)),J (.int cl),J (.int ((n:Nat):Int)),aw,aw,aw,aw],?_,?_⟩
   ·refine⟨_,I,iQ,fun g2 wW=>?_⟩
    have es:=Ext.lst (xs:=[V.int 2,.int 4]) wW
    obtain⟨v,⟨IX,nB⟩,pT⟩:∃v:Nat,(0<v/\v<=4)/\eG [V.int 2,.int 4] (if decide (50<(((f6.map V.int).length:Nat):Int))=ah then 1 else 0)=J (.int ((v:Nat):Int)):=by
     cases decide (50<(((f6.map V.int).length:Nat):Int))
     .exact⟨2,by omega,dA (j:=0) rfl⟩
     .exact⟨4,by omega,dA (j:=1) rfl⟩
    obtain⟨n,bo,g0⟩:=jL cl v IX
    refine⟨_,I,_,_,I,.inl ⟨_,b1 (es.s _ _ uy),I⟩,_,_,I,I,.inl (.inr ⟨_,I,.inl (.inl ⟨_,_,_,_,I,I,b1 aQ,pT,_,_,I,I,(by omega),es,n,by omega,(fun z=>by rw[z,Int.zero_emod]at g0;omega),?_⟩)⟩)⟩
    dsimp only
    rw[g0];rfl
   rintro amM hF ⟨vR,PS,mJ,aeu,rfl⟩
   refine⟨fun bU H'=>Ext H1 H'/\∃n:Nat,n<=60/\(n<=3\/c0 g=1)/\(cl=0->n=0)/\bU=[J (.ref p),J (.ref T),J (.str (p7 1)),J (.int cl),J (.int ((n:Nat):Int)),aw,aw,aw,aw],?_,?_⟩
   ·refine⟨_,I,.inl (.inr ⟨_,_,_,_,I,I,dk (vR.s _ _ aI),a1 _ _ _,.inl (.inr ⟨_,_,_,_,I,I,dk (vR.s _ _ e'),a0 _ _,iQ,fun g1 yV=>?_⟩)⟩)⟩
    have K0:=vR.trans (Ext.lst (xs:=[V.str (af.ofString "truth"),.str (af.ofString "nothing")]) yV)
    refine⟨_,_,I,.inl (b1 aQ),I,I,_,I,aeJ (fun aba=>?_) (fun _=>⟨K0,PS,by omega,.inl mJ,aeu,rfl⟩)⟩
    have zY:c0 g=1:=by
     rcases pK with⟨_,z⟩|⟨_,dh,de⟩
     .exact z
     ·exfalso
      exact absurd (aba.symm.trans (VX dh de)) (by decide)
    obtain⟨n,bo,g0⟩:=jL (cl/4) 61 (by decide)
    have g0:cl/4%61=((n:Nat):Int):=g0
    refine⟨_,I,_,_,I,I,⟨by decide,by decide⟩,_,_,rfl,rfl,(by show(0:Int)<61;decide),K0,n,by omega,.inr zY,(fun z=>by subst z;omega),?_⟩
    dsimp only
    rw[g0];rfl
   rintro z5 gb ⟨tG,n,bo,adO,mJ,rfl⟩
   have hc:eV (pl H p) (pl gb p) cl:=by rw[rO tG G1.l];exact hc
   have aI:=tG.s _ _ aI
   have G1:=G1.ext tG
   refine⟨_,I,_,I,by omega,by omega,fun eh gF=>?_⟩
   rw[show(((n:Nat):Int)).toNat=n by omega]
   have oF:=dC.grow G1
   have Cy:eh∉X:=oF.no gF
   have qN:eh≠p:=fun z=>Cy (by rw[z];exact eQ)
   have iJ:=Ext.lst (xs:=[]) gF
   have r6:∀{ax:au},dy p gb ax->ax T=J (.tup [.str (p7 1),.ref dF]):=fun G=>G.k _ _ (l5 i3) aI
   refine Nu n (fun i =>.int (0+((i:Nat):Int))) (fun i bb ax=>dy p gb ax/\∃ds,ds.length=i/\dc (eh::X) ax ds bb/\(∀x,x∈ds->c4 pM g x=ah/\jN x<=aT g+1)/\pl ax p<=pl gb p/\((ds.map fun d=>ah::cb dw g d).flatten).length<=150000*(pl gb p-pl ax p)+i*(1+300*c0 g)) (fun ab=>∃z,ab=[z,J (.ref p),J (.ref T)]) (by omega) ⟨_,I⟩ (fun i H aC=>aC) (fun H=>cE _) (fun i H x H' aC h=>⟨h.1,h.2⟩) ⟨(dy.refl G1.l).ext iJ,[],I,I,(fun x ay=>nomatch ay),by rw[rO iJ G1.l];exact cE _,UF _⟩ ?_ ?_
   ·rintro i aC bb cz ax ⟨z,rfl⟩ ⟨eC,ds,l7,gH,ib,y2,yM⟩ pQ mN R cJ
    have oG:ki (eh::X) ax:=(oF.grow eC).add pQ
    refine⟨_,I,_,I,.inl (.inr ⟨_,_,_,_,I,I,dk (r6 eC),a1 _ _ _,p,.ref dF,g,eh::X,I,fD _ eQ,eC.l,oG,dj.grow (fD _ eQ) eC (dj.add gF _ (dj.grow eQ G1 hd)),aP,by omega,by omega,fun v iR bA fR qU jt yQ oO=>?_⟩)⟩
    have qM:bA eh=J (.lst bb):=fR.k _ _ qN pQ
    have fP:∀b u,b∉eh::X->bA b=J u->upd bA eh (.lst (bb++[v])) b=J u:=fun b u nb e=>by rw[bO (fun z=>nb (by rw[z];exact hM ..))];exact e
    have iT:∀b u,b∉eh::X->ax b=J u->bA b=J u:=fun b u nb e=>fR.k b u (fun z=>nb (by rw[z];exact fD _ eQ)) e
    refine cJ _ _ _ ⟨_,I⟩ qM ⟨(eC.trans fR).set gF qM qN,ds++[iR],by rw[cD,l7];rfl,dc.snoc (dj.keep fP _ qU) _ (dc.keep fP _ (dc.keep iT _ gH)),fun x ay=>?_,?_,?_⟩
    ·rcases List.mem_append.mp ay with z|z
     .exact ib x z
     .rw[fU.mp z];exact⟨jt,yQ⟩
    .rw[Cc qN];exact eE oO.1 y2
    ·rw[Cc qN,fk,List.flatten_append,cD]
     have aI:(List.map (fun d=>ah::cb dw g d) [iR]).flatten.length=(cb dw g iR).length+1:=by simp
     obtain⟨gD,f3⟩:=oO
     have aL:(i+1)*(1+300*c0 g)=i*(1+300*c0 g)+(1+300*c0 g):=Nat.succ_mul ..
     rw[aI,aL]
     generalize i*(1+300*c0 g)=amu at yM ⊢
     omega
   ·rintro bb H' mN oE ⟨eC,ds,l7,gH,ib,y2,yM⟩
    have fR:=G1.trans eC
    refine⟨_,fR.sub,q _ (.lst ds) _ fR ⟨eh,bb,I,Cy,oE,dc.weak (fun x ay=>fD _ ay) _ gH,by omega⟩ ?_ ?_ ?_⟩
    ·rw[c4]
     exact pw.mpr ⟨d6 (by omega),jf.mpr fun x ay=>(ib x ay).1⟩
    ·have:=Nj ds fun x ay=>(ib x ay).2
     rw[jN];omega
    ·rw[c0]at f5
     have amk:n*(1+300*c0 g)<=140000:=by
      rcases adO with z|z
      .exact eE (Nat.mul_le_mul z (show 1+300*c0 g<=45001 by omega)) (by decide)
      .rw[z];exact eE (Nat.mul_le_mul bo (cE _)) (by decide)
     rw[cb]
     have rU:(Dn 1 (cb dw g) (.lst ds)).length=((ds.map fun d=>ah::cb dw g d).flatten).length+1:=by
      show(_++[ag]).length=_
      rw[cD];rfl
     rw[rU]
     rcases hc with z|⟨dh,de,g8⟩
     .exact⟨by omega,.inl (by omega)⟩
     ·have adb:ds=[]:=List.length_eq_zero_iff.mp (by rw[l7];exact mJ g8)
      have:=K2 (.one 1 g)
      exact⟨by omega,.inr ⟨dh,by rw[adb];show 0+1<=_;omega⟩⟩
  ·skip
   subst jU
   refine go (kY I e ?_)
   refine h6 I (by decide+kernel) ?_
   refine pY I ck fun cl H1 G1 hc=>?_
   iterate 11 (first|refine h6 I (by decide+kernel) ?_|refine uV I (by decide+kernel) ?_)
   have aI:=G1.k _ _ (l5 i3) e
   refine⟨_,I,_,I,.inl (.inr ⟨_,_,_,_,I,I,dk aI,a1 _ _ _,p,jX,g,X,I,eQ,G1.l,dC.grow G1,dj.grow eQ G1 hd,aP,by omega,by omega,fun v iR H' G qU jt yQ oO=>?_⟩)⟩
   exact⟨_,(G1.trans G).sub,q _ iR _ (G1.trans G) qU (by rw[c4];exact jt) (by omega) (by rw[cb,c0];exact oO.wrap hc (cE _) (by rw[c0]at f5;exact f5) (by show((cb dw g iR).map (!·)).length<=_;rw[cC];omega))⟩
 | two k ns fs =>
  have qY:∀{i:Nat}{g:bF},fs[i]?=J g->c0 g<=150:=fun h=>by
   have:=GB h
   rw[c0]at f5
   omega
  rw[gO]at bg
  rw[hD]at aP
  rw[aT]at cu
  rw[aT]at q
  obtain⟨e9,cL,CV⟩:=aP
  obtain⟨T,_,rfl,i3,e,⟨_,_,rfl,⟨rfl,_⟩,_,_,rfl,⟨l,uG,rfl,wY,gZ,gH,adB⟩,rfl⟩,_⟩:=bg
  have kz:uG.length=fs.length:=by rw[gK.len _ (dc.at _ gH),ye]
  have adk:0<fs.length/\fs.length<=20:=by
   have h:=e9
   unfold jP at h
   simp only[hK,jJ]at h
   omega
  rcases wB k with rfl|rfl
  ·skip
   subst jU
   refine go (kY I e ?_)
   refine h6 I (by decide+kernel) ?_
   refine pY I ck fun cl H1 G1 hc=>?_
   iterate 9 (first|refine h6 I (by decide+kernel) ?_|refine uV I (by decide+kernel) ?_)
   have aI:=G1.k _ _ (l5 i3) e
   have yE:=G1.k _ _ (l5 wY) gZ
   have oF:=dC.grow G1
   refine lg I fun N=>?_
   refine .inl ⟨_,I,.inl (.inr ⟨_,_,_,_,I,I,dk aI,a1 _ _ _,l,I,⟨_,b1 yE⟩,fun eh gF=>?_⟩)⟩
   have Cy:eh∉X:=oF.no gF
   have qN:eh≠p:=fun z=>Cy (by rw[z];exact eQ)
   have iJ:=Ext.lst (xs:=[]) gF
   refine F1 (K:=K) (a:=l) (xs:=uG) (fun i bb ax=>dy p H1 ax/\∃ds,ds.length=i/\dc (eh::X) ax ds bb/\fL pM (fs.take i) ds=ah/\hP ds<=hA fs+1/\pl ax p<=pl H1 p/\(gh dw (fs.take i) ds).length<=150000*(pl H1 p-pl ax p)+300*hX (fs.take i)) (fun ab=>∃dh de,ab=[dh,de,J (.ref p)]) (by omega) ⟨_,_,I⟩ ?_ ⟨(dy.refl G1.l).ext iJ,[],I,I,by rw[List.take_zero,fL];rfl,by rw[hP];omega,by rw[rO iJ G1.l];exact cE _,by rw[List.take_zero,gh];exact UF _⟩ ?_ ?_
   ·rintro i bb ax ⟨eC,_⟩
    exact b1 (eC.k _ _ (l5 wY) yE)
   ·rintro i x ay bb cz ax ⟨dh,de,rfl⟩ ⟨eC,ds,l7,It,sb,ed,y2,yM⟩ pQ mN R cJ
    obtain⟨g,nm,dF,jX,aH,nA,rfl,wO,yC,hd⟩:=BG fs ns cL gH ay
    obtain⟨zB,wW⟩:=BD CV aH
    have oG:ki (eh::X) ax:=(oF.grow eC).add pQ
    refine⟨_,_,I,dk (eC.k _ _ (l5 wO) (G1.k _ _ (l5 wO) yC)),I,_,_,I,_,_,I,I,?_⟩
    refine⟨_,I,_,I,p,jX,g,eh::X,I,fD _ eQ,eC.l,oG,dj.grow (fD _ eQ) eC (dj.add gF _ (dj.grow eQ G1 hd)),zB,by omega,qY aH,fun v iR bA fR qU jt yQ oO=>?_⟩
    have qM:bA eh=J (.lst bb):=fR.k _ _ qN pQ
    have fP:∀b u,b∉eh::X->bA b=J u->upd bA eh (.lst (bb++[v])) b=J u:=fun b u nb e=>by rw[bO (fun z=>nb (by rw[z];exact hM ..))];exact e
    have iT:∀b u,b∉eh::X->ax b=J u->bA b=J u:=fun b u nb e=>fR.k b u (fun z=>nb (by rw[z];exact fD _ eQ)) e
    refine cJ _ _ _ ⟨_,_,I⟩ qM ⟨(eC.trans fR).set gF qM qN,ds++[iR],by rw[cD,l7];rfl,dc.snoc (dj.keep fP _ qU) _ (dc.keep fP _ (dc.keep iT _ It)),?_,MU (by omega) ed,?_,?_⟩
    ·rw[oi,aH]
     exact MS jt _ _ sb
    .rw[Cc qN];exact eE oO.1 y2
    ·have CN:i<=fs.length:=Nat.le_of_lt (km.mp aH).1
     rw[Cc qN,oi,aH]
     show(gh dw (fs.take i++[g]) (ds++[iR])).length<=150000*_+300*hX (fs.take i++[g])
     rw[MB _ _ (by rw[hb,l7];omega),Gi,cD]
     obtain⟨gD,f3⟩:=oO
     omega
   ·rintro bb H' mN oE ⟨eC,ds,l7,It,sb,ed,y2,yM⟩
    rw[kz,UV (cE _)]at sb yM
    refine⟨_,_,I,.inl ⟨b1 oE,fun t l8=>?_⟩⟩
    have ml:=Ext.tup (xs:=bb) l8
    have fR:=(G1.trans eC).ext ml
    refine⟨_,fR.sub,q _ (.tup ds) _ fR ⟨t,bb,I,(dC.grow (G1.trans eC)).no l8,aQ,(dc.weak (fun x ay=>fD _ ay) _ It).same ml.s,by omega⟩ ?_ ?_ ?_⟩
    .rw[c4,if_pos rfl];exact sb
    .rw[jN];omega
    ·rw[rO ml (G1.trans eC).l,cb,if_pos rfl,c0]
     rw[c0]at f5
     show lO _ _ (gh dw fs ds).length _
     rcases hc with z|⟨dh,de,g8⟩
     .exact⟨by omega,.inl (by omega)⟩
     .exact⟨by omega,.inr ⟨dh,by omega⟩⟩
  ·skip
   subst jU
   refine go (kY I e ?_)
   refine h6 I (by decide+kernel) ?_
   refine pY I ck fun cl H1 G1 hc=>?_
   iterate 10 (first|refine h6 I (by decide+kernel) ?_|refine uV I (by decide+kernel) ?_)
   have aI:=G1.k _ _ (l5 i3) e
   have yE:=G1.k _ _ (l5 wY) gZ
   refine lg I fun N=>?_
   obtain⟨j,cv,kv⟩:=jL cl uG.length (by omega)
   obtain⟨y,bP⟩:∃y,uG[j]?=J y:=⟨_,dR cv⟩
   obtain⟨g,nm,dF,jX,aH,nA,rfl,wO,yC,hd⟩:=BG fs ns cL gH bP
   obtain⟨zB,wW⟩:=BD CV aH
   refine⟨_,I,.inl (.inr ⟨_,_,_,_,I,I,dk aI,a1 _ _ _,_,I,_,I,.inl (.inr ⟨_,_,_,_,I,I,dk aI,a1 _ _ _,_,_,I,.inl ⟨_,b1 yE,I⟩,_,_,I,I,(by omega),.inl (.inl ⟨_,_,_,_,I,I,b1 yE,(by rw[kv];exact dA bP),?_⟩)⟩)⟩)⟩
   refine⟨_,_,I,dk (G1.k _ _ (l5 wO) yC),I,_,_,I,_,_,I,I,?_⟩
   refine⟨_,I,_,I,_,I,p,jX,g,X,I,eQ,G1.l,dC.grow G1,dj.grow eQ G1 hd,zB,by omega,qY aH,fun v iR H' G qU jt yQ oO=>⟨iQ,fun t l8=>?_⟩⟩
   have f9:=Ext.tup (xs:=[V.str nm,v]) l8
   have eC:=(G1.trans G).ext f9
   have mK:nm.length<=12:=(oo e9).2 nm (kl nA)
   refine⟨_,eC.sub,q _ (.tup [.str nm,iR]) _ eC ⟨t,_,I,(dC.grow (G1.trans G)).no l8,aQ,⟨_,_,I,⟨I,by omega⟩,_,_,rfl,qU.same f9.s,rfl⟩,by simp⟩ ?_ (by rw[jN,hP,hP,hP,jN];omega) ?_⟩
   ·rw[c4,if_neg (by decide)]
    show oB pM fs ns nm iR=ah
    rw[v5 fs ns nm (kl nA) cL,x1 e9 nA,fu,aH]
    exact jt
   ·rw[rO f9 (G1.trans G).l,cb,if_neg (by decide),c0]
    show lO _ _ (ra dw fs ns 0 (fs.length-1) nm iR).length _
    rw[yb fs ns 0 nm (kl nA) cL,x1 e9 nA,fu,aH,cD,la]
    have ar:ba (fs.length-1)<=5:=hn (w:=5) (by omega)
    exact oO.wrap hc (Nat.succ_le_succ (GB aH)) (by rw[c0]at f5;exact f5) (by show _+(cb dw g iR).length<=_;omega)
theorem LV(nb:dW mg)(F:dx K mg "_law_value" Bi ["_law_pool_here","_law_form_here"] f fd)(hh:bD P w K mg base 1 "_law_next" ["_law_pool_here"] zS)(td:bD P w K mg base 2 "_law_signed" ["_law_cell"] JN)(vj:bD P w K mg base 1 "_law_fraction" ["_law_one","_law_other"] JC):∀d:Nat,bD P w K mg base (d+3) "_law_value" ["_law_pool_here","_law_form_here"] (DD d)
 |0=>bD.none F fun vs H Q E z=>by obtain⟨_,_,g,_,_,_,_,_,_,_,h,_⟩:=z;have:=ys g;omega
 |d+1=>WA nb F hh td vj (LV nb F hh td vj d)
mutual
theorem GO:∀(f:bF),hD f->ka hasAll f
 |.bare k,h=>⟨by rw[fq];trivial,by rw[oS];rfl⟩
 |.sp a b,h=>by rw[hD]at h;exact⟨by rw[fq];exact⟨h.1,h.2.2⟩,by rw[oS];rfl⟩
 |.le s,h=>by rw[hD]at h;exact⟨by rw[fq];exact h,by rw[oS];rfl⟩
 |.one k f,h=>by
  rw[hD]at h
  obtain⟨a,b⟩:=GO f h
  exact⟨by rw[fq];exact a,by rw[oS];exact⟨I,b⟩⟩
 |.two k ns fs,h=>by
  rw[hD]at h
  obtain⟨a,b⟩:=M8 fs h.2.2
  exact⟨by rw[fq];exact⟨h.1,h.2.1,a⟩,by rw[oS];exact⟨I,b⟩⟩
theorem M8:∀(fs:List bF),kC fs->Dm hasAll fs
 |[],_=>⟨by rw[fF];trivial,by rw[so];trivial⟩
 |f::fs,h=>by
  rw[kC]at h
  obtain⟨a,b⟩:=GO f h.1
  obtain⟨a2,f3⟩:=M8 fs h.2
  exact⟨by rw[fF];exact⟨a,a2⟩,by rw[so];exact⟨b,f3⟩⟩
end
theorem Qd(aX:290<=N):xY N pM:=fun d h=>by
 obtain⟨p,q,rfl,aj,aq,bl,bW⟩:=Ge h
 obtain⟨g,e⟩:=Nh aj aq
 exact⟨eu p q,g,by omega,bW,by unfold jo;rw[e],rfl⟩
theorem Dt(aX:N<=310):xX N jK:=fun s g aj aq=>by
 obtain⟨a,b⟩:=g.eu
 show decide _=ah
 rw[b]
 exact d6 ⟨a,g.c9,by omega,aq⟩
theorem Qe{g:bF}(aH:fq g)(aG:c4 pM g d=ah):(∀e z,bT 302 e g (cb dw g d++z)=.ok d z)/\c4 jK g d=ah/\
  ∀s y,cb dw g d=s++y->y≠[]->(∃k,bT 302 ag g s=.no ag k)/\∃iY z,bT 302 ah g s=.ok iY []/\c4 jK g iY=ah/\cb dw g iY=s++z/\z.length<=560*c0 g:=by
 have fO:∀N,290<=N->∀e z,bT N e g (cb dw g d++z)=.ok d z:=fun N aX e z=>yu (Qd aX) g d z aH aG
 have fh:=fO 302 (by decide) ag []
 refine⟨fO 302 (by decide),(tT (Dt (by decide)) g aH fh).1,fun s y e bP=>?_⟩
 rw[List.append_nil,e]at fh
 have iT:=fO 300 (by decide) ag []
 rw[List.append_nil,e]at iT
 obtain⟨k,hk⟩:=(rN 300 g).cut iT bP
 obtain⟨iY,z,dh,de,g8⟩:=(wd (N:=300) (by decide) g aH).kZ s k hk
 obtain⟨a1,a2⟩:=tT (Dt (by decide)) g aH de
 rw[List.append_nil]at a2
 exact⟨(rN 302 g).cut fh bP,iY,z,dh,a1,a2.symm,g8⟩
noncomputable def pj(aE:Bool->ae)(cB:ae)(l:List Bool)(H:au)(Q:bB):R D->Prop
 |.ok d s=>if s=[]then ∀v t H',Ext H H'->dj (e7.of H) H' d v->H' t=J (.tup [v,.bK])->Q (.ref t) H' else ∀e cx t H',Ext H H'->H' e=J (iK e cB (J cx))->H' cx=J (iI ((l.length-s.length:Nat):Int))->H' t=J (.tup [.bK,.ref e])->Q (.ref t) H'
 |.no w k=>∀e cx t H',Ext H H'->H' e=J (iK e (aE w) (J cx))->H' cx=J (iI (jn l w k))->H' t=J (.tup [.bK,.ref e])->Q (.ref t) H'
 |.st=>False
inductive Qt(aE:Bool->ae)(cB:ae)(N:Nat)(c:dP)(n:Nat)(vs:List V)(H:au)(Q:bB)(E:bR):Prop where
 |mk (o:ae) (g:bF) (l:List Bool) (e:Bool) (bu:vs=[.ref o,.str (aV l),.aN e]) (aj:b0 c [] H g o) (aq:ka hasAll g) (bl:aT g<=n) (bW:l.length<=16000000) (d0:pj aE cB l H Q (bT N e g l)):Qt aE cB N c n vs H Q E
def Dw(aE:Bool->ae)(cB:ae)(N:Nat)(c:dP)(n:Nat):b3:=fun vs H Q E=>Qt aE cB N c n vs H Q E
theorem Xk{f:ae}{c:dP}{fd:fG}{n:Nat}(l2:mg "RiseError"=J (.ref gr))(xu:ExcC K gr)(xv:rk K (.ref gr)=J (.type "type"))(wZ:∀w,kf K (aE w) (.ref gr)=J ah)(adJ:kf K cB (.ref gr)=J ah)
  (F:dx K mg "_law_asked" FC ["_law_made_here","_law_signs_here","_law_fills"] f fd) (Ae:gU P w K mg base (2*n+9) "read_all" ["form","signs"] (zT aE cB N hasAll ag c n)) (D8:gU P w K mg base (2*n+9) "begun_by" ["form","signs"] (zT aE cB N hasAll ah c n)) :
  bD P w K mg base (2*n+10) "_law_asked" ["_law_made_here","_law_signs_here","_law_fills"] (Dw aE cB N c n):=by
 refine F.fp tK (fun bh A _ s H vs Q E az h=>?_)
 obtain⟨o,g,l,e,rfl,bx,aP,cu,aB,q⟩:=h
 obtain⟨pb,yK⟩:∃pb:St->bR,pb=fun ab Hr d H'=>∃C z,Hr=.ref C/\kf K C (.ref gr)=J ah/\ab=[J (.ref o),J (.str (aV l)),J (.aN e),J .bK,J .bK,z]/\Ext H H'/\∀e t ax,Ext H' ax->ax e=J (iK e C d)->ax t=J (.tup [.bK,.ref e])->Q (.ref t) ax:=⟨_,rfl⟩
 refine⟨_,(aM (bS 3 tK.bp lN)
  (aM (bS 4 tK.bp lN)
  (aM (Ld (i:=5) (Eh:=pb) (fun _=>(aS (cW (Wa (ai 2) (fun _=>rfl)) (aS (bS 3 tK.bp (lb D8 az FZ (av (ai 0) (av (ai 1) aA)) (hk:=by omega)))) (aS (bS 3 tK.bp (lb Ae az FZ (av (ai 0) (av (ai 1) aA)) (hk:=by omega)))))))
   (fun _ _=>(aS (bS 4 tK.bp (ai 5)))) l2 xu xv tK.bp)
  (aS (bG (jM (av (ai 3) (av (ai 4) aA)))))))),?_⟩
 try dsimp only[cQ,cR,cS,cT]
 refine⟨?_,fun bU s9 d H' a gG bf=>?_⟩
 ·have mk:∀(Z:ae)(i:Int),kf K Z (.ref gr)=J ah->(∀e cx t H',Ext H H'->H' e=J (iK e Z (J cx))->H' cx=J (iI i)->H' t=J (.tup [.bK,.ref e])->Q (.ref t) H')->∀d,H d=aw->pb [J (.ref o),J (.str (aV l)),J (.aN e),J .bK,J .bK,aw] (.ref Z) (J d) (upd H d (iI i)):=fun Z i hm q d hd=>by
   subst yK
   exact⟨Z,_,I,hm,I,Ext.z2 hd,fun e t ax es he aT=>q e d t ax ((Ext.z2 hd).trans es) he (es.s _ _ aQ) aT⟩
  have cZ:∀(R:R D),pj aE cB l H Q R->mn aE cB l H (fun v H1=>∀r,H1 r=aw->gB H (upd H1 r (.tup [v,.bK])) (Q (.ref r))) (pb [J (.ref o),J (.str (aV l)),J (.aN e),J .bK,J .bK,aw]) R:=fun R q=>by
   cases R with
   | ok d s =>
    show if s=[]then _ else _
    have q:(if s=[]then _ else _):=q
    by_cases z:s=[]
    ·rw[if_pos z]at q ⊢
     intro v H1 fv bg r e4
     have es:=Ext.tup (xs:=[v,V.bK]) e4
     exact⟨_,(fv.trans es).sub,q v r _ (fv.trans es) (dj.same es.s bg) aQ⟩
    ·rw[if_neg z]at q ⊢
     exact mk _ _ adJ q
   |no w k=>exact mk _ _ (wZ w) q
   |st=>exact q
  have cZ:=cZ _ q
  refine⟨_,I,e,I,?_⟩
  cases e with
  |true=>exact gQ ⟨_,I,_,I,o,g,l,I,bx,aP,cu,aB,mn.imp cZ fun v H1 h=>⟨_,I,_,I,iQ,h⟩⟩
  |false=>exact fb ⟨_,I,_,I,o,g,l,I,bx,aP,cu,aB,mn.imp cZ fun v H1 h=>⟨_,I,_,I,iQ,h⟩⟩
 ·subst yK
  obtain⟨C,z,hc,hm,rfl,fv,q⟩:=gG
  injection hc with hc
  subst hc
  refine⟨hm,_,I,_,I,_,I,iQ,fun r e4=>?_⟩
  have es:=Ext.exc (C:=s9) (d:=d) bf
  have h7:=Ext.tup (xs:=[V.bK,.ref a]) e4
  exact⟨_,(fv.trans (es.trans h7)).sub,q a r _ (es.trans h7) (h7.s _ _ aQ) aQ⟩
inductive Q2(K:bN)(vs:List V)(H:au)(Q:bB)(E:bR):Prop where
 |mk (a:ae) (ns:List Int) (bu:vs=[.ref a]) (aj:dE K H a (ns.map V.int)) (aq:ns.length<=63) (bl:∀H',Q (.aN ah) H'):Q2 K vs H Q E
def Dy(K:bN):b3:=fun vs H Q E=>Q2 K vs H Q E
inductive QD(vs:List V)(H:au)(Q:bB)(E:bR):Prop where
 |mk (p:ae) (X:List ae) (bu:vs=[.ref p]) (aj:lM p H) (aq:p∈X) (bl:nc X H) (bW:∀v H' f,dy p H H'->EM X H' f v 8 141->Q v H'):QD  vs H Q E
def QC:b3:=fun vs H Q E=>QD  vs H Q E
theorem Ya(F:dx K mg "_law_drawn" Fz ["_law_pool_here"] f fd)(hh:bD P w K mg base 1 "_law_next" ["_law_pool_here"] uW)(vi:bD P w K mg base 11 "_law_form" ["_law_pool_here","_law_deep"] (Dx 8)):bD P w K mg base 12 "_law_drawn" ["_law_pool_here"] QC:=by
 refine F.fp L8 (fun bh A _ s H vs Q E az h=>?_)
 obtain⟨p,X,rfl,ck,eQ,dC,q⟩:=h
 refine⟨_,(aM (bS 1 L8.bp (cj hh az (av (ai 0) aA)))
  (aS (bG (cj vi az (av (ai 0) (av (cP cU (gC (av aD (av aD (av aD (av aD (av aD (av aD (av aD (av aD aA))))))))) (aO dG (ai 1) aD)) aA)))))),?_⟩
 try dsimp only[cQ,cR,cS,cT]
 refine⟨_,I,p,I,ck,fun c fo oK=>?_⟩
 have G1:=dy.pop ck oK
 generalize upd H p (.lst (fo.map V.int))=H1 at G1 ⊢
 obtain⟨m,hm,CR⟩:=tM V.int [1,2,3,2,1,3,2,7] c 8 rfl (by show 0<8;decide)
 have amh:0<=m/\m<=7:=by
  have:∀y∈([1,2,3,2,1,3,2,7]:List Int),0<=y/\y<=7:=by decide
  exact this m hm
 obtain⟨k,rfl⟩:∃k:Nat,m=k:=⟨m.toNat,by omega⟩
 refine⟨_,I,(by show 8<=bY;decide),fun g aH=>⟨_,I,_,_,I,I,(by show(0:Int)<8;decide),.inl (.inl ⟨_,_,_,_,I,I,b1 aQ,CR,?_⟩)⟩⟩
 have eC:=G1.ext (Ext.lst (xs:=[1,2,3,2,1,3,2,7].map V.int) aH)
 refine⟨p,k,X,I,by omega,eC.l,eQ,dC.grow eC,fun v H' g3 fR cf=>?_⟩
 exact⟨_,(eC.trans fR).sub,q v H' g3 (eC.trans fR) ⟨cf.d,cf.o,by have:=cf.h;omega,by have:=cf.s;omega⟩⟩
theorem pj.all(h:∀v t H',Ext H H'->h3 H' d v->H' t=J (.tup [v,.bK])->Q (.ref t) H'):pj aE cB l H Q (.ok d []):=by
 unfold pj
 dsimp only
 rw[if_pos rfl];exact fun v t H' X bg=>h v t H' X (dj.at _ bg)
theorem mn.all(h:∀v H',Ext H H'->h3 H' d v->Q v H'):mn aE cB l H Q E (.ok d []):=by
 unfold mn
 dsimp only
 rw[if_pos rfl];exact fun v H' X bg=>h v H' X (dj.at _ bg)
structure ni(K:bN)(C:ae):Prop where
 e6:ExcC K C
 hd:va K C=ah
 jV:d4 K (.ref C) "place"=J aw
def xE(g:bF)(l:List Bool):Prop:=(∃k,bT 302 ag g l=.no ag k)/\∃d z,bT 302 ah g l=.ok d []/\c4 jK g d=ah/\cb dw g d=l++z/\z≠[]/\z.length<=560*c0 g
theorem NZ{g:bF}(aH:fq g)(h:bT 300 ag g l=.no ag k):xE g l:=by
 have aq:bT 302 ag g l=.no ag k:=by rw[BZ 300 2 g l (by rw[h];exact fun z=>(nomatch z)),h]
 obtain⟨d,z,dh,de,g8⟩:=(wd (N:=300) (by decide) g aH).kZ l k h
 obtain⟨a1,a2⟩:=tT (Dt (by decide)) g aH de
 rw[List.append_nil]at a2
 refine⟨⟨k,aq⟩,d,z,dh,a1,a2.symm,fun bC=>?_,g8⟩
 rw[bC,List.append_nil]at de
 have de:bT 302 ag g l=_:=de
 rw[aq]at de;cases de
theorem ai7{g:bF}(aH:fq g)(aB:l.length<=500):
  (∃d r,l=cb dw g d++r/\c4 jK g d=ah/\∀e z,bT 302 e g (cb dw g d++z)=.ok d z)\/xE g l\/
  ∃x b z,l=x++b::z/\(∀e,bT 302 e g l=.no ah z.length)/\xE g x/\(∃d,bT 302 ah g (x++[!b])=.ok d [])/\∀d t,c4 pM g d=ah->cb dw g d≠x++b::t:=by
 have E:=wd (N:=300) (by decide) g aH
 cases h:bT 300 ag g l with
 |ok d r =>
  obtain⟨a1,a2⟩:=tT (Dt (by decide)) g aH h
  obtain⟨y,e,f⟩:=qz 300 g l d r h
  have:y=cb dw g d:=List.append_cancel_right (e.symm.trans a2)
  subst this
  exact .inl ⟨d,r,a2,a1,fun e z=>E.ok _ _ _ (f z) e⟩
 | no w k =>
  cases w with
  |false=>exact .inr (.inl (NZ aH h))
  | true =>
   obtain⟨x,b,z,e,bC,⟨j,aj⟩,aq,bl⟩:=yn 300 g aH l k h
   refine .inr (.inr ⟨x,b,z,e,fun u=>by rw[bC];exact E.wr _ _ h u,NZ aH aj,?_,fun d t hd az=>?_⟩)
   ·rcases bl with⟨j,bl⟩|⟨a,bl⟩
    ·obtain⟨d,_,dh,_⟩:=E.kZ _ _ bl
     exact⟨d,dh⟩
    .exact⟨a,E.ok _ _ _ bl ah⟩
   ·have fO:=yu (e:=ag) (Qd (N:=300) (by decide)) g d [] aH hd
    have fh:=(rN 300 g).wr _ t _ aq
    rw[List.append_nil,az,show x++b::t=x++[b]++t by rw[e2];rfl,fh]at fO
    cases fO
 |st=>exact absurd h (B0 (by decide) g aH l (by omega))
noncomputable def xW(aE:Bool->ae)(h l:List Bool)(H:au)(Q:bB)(E:bR):R D->Prop
 |.ok d s=>∀v t H',Ext H H'->h3 H' d v->H' t=J (.tup [v,.int ((h.length+(l.length-s.length):Nat):Int)])->Q (.ref t) H'
 |.no w k=>∀d,H d=aw->E (.ref (aE w)) (J d) (upd H d (iI (jn (h++l) w k)))
 |.st=>False
theorem xW.imp{h:List Bool}(q:xW aE h l H Q E r)(k:∀v H',Q v H'->fT v H'):xW aE h l H fT E r:=by
 cases r with
 |ok d s=>exact fun v t H' X hd aT=>k _ _ (q v t H' X hd aT)
 |no w k=>exact q
 |st=>exact q
inductive Rl(aE:Bool->ae)(N:Nat)(has:eW->Bool)(c:dP)(n:Nat)(vs:List V)(H:au)(Q:bB)(E:bR):Prop where
 |mk (o:ae) (f:bF) (h l:List Bool) (bu:vs=[.ref o,.str (aV (h++l)),.int ((h.length:Nat):Int)]) (aj:b0 c [] H f o) (aq:ka has f) (bl:aT f<=n) (bW:(h++l).length<=16000000) (d0:xW aE h l H Q E (bT N ag f l)):Rl aE N has c n vs H Q E
def JL(aE:Bool->ae)(N:Nat)(has:eW->Bool)(c:dP)(n:Nat):b3:=fun vs H Q E=>Rl aE N has c n vs H Q E
theorem UO(h l:List Bool):sees (h++l) ag h.length=l:=by
 unfold sees
 have e:xor ag=(id:Bool->Bool):=by funext x;cases x<;>rfl
 rw[e,List.map_id,List.drop_left]
theorem Yn(T:pv K C)(F:c5 K "read" "Form.read" kL f fd)(n9:jc P w K mg base 1 "Source" C ["self","signs","at"] (zV C))(j0:m2 P w K mg base (2*n+7) "draw" ["self","source"] (eO c) (jx aE N has c C n)):cq P w K mg base (fH P w) (2*n+8) f fd ["self","signs","at"] (JL aE N has c n):=by
 refine F.iF Fi (fun bh A _ s H vs Q E az h=>?_)
 obtain⟨o,g,h,l,rfl,bx,aP,cu,aB,q⟩:=h
 refine⟨_,(aM (bS 3 Fi.bp (px n9 az (av (ai 1) (av (ai 2) aA)) (hk:=by omega)))
  (aM (bS 4 Fi.bp (rE j0 az gx.x (ai 0) (av (ai 3) aA) (hk':=by omega)))
  (aS (bG (jM (av (ai 4) (av (et (ai 3) rfl) aA))))))),?_⟩
 try dsimp only[cQ,cR,cS,cT]
 refine⟨_,I,_,I,fun x al nx zu zv=>?_⟩
 refine⟨x,al,_,_,I,aQ,I,?_⟩
 rw[iv]
 have fv:=Ext.made (C:=C) (fs:=uc (aV (h++l)) ((h.length:Nat):Int) ag ag) nx zu zv
 have b2:upd (upd H al (.own x)) x (.ins C al (uc (aV (h++l)) ((h.length:Nat):Int) ag ag)) x=J (g7 C al (h++l) h.length ag ag):=aQ
 generalize upd (upd H al (.own x)) x (.ins C al (uc (aV (h++l)) ((h.length:Nat):Int) ag ag))=H1 at fv b2 ⊢
 have r4:b0 c [x] H1 g o:=b0.keep (fun b u _ e=>fv.s b u e) g (b0.add nx g bx)
 obtain⟨fK,fM,e3,li⟩:=b0.draw g r4
 refine⟨_,I,o,slot g,fK,fM,I,e3,li,_,I,o,x,al,g,h++l,h.length,ag,ag,e7.rS x ⟨fun _=>False⟩,I,I,r4,aP,cu,b2,aB,by rw[cD];omega,e7.hd,?_,?_⟩
 ·rintro y (rfl|z)
  .exact⟨_,b2⟩
  .exact z.elim
 rw[UO]
 cases cJ:bT N ag g l with
 |ok d s =>
  rw[cJ]at q
  refine fun v H' j M hd cv hs kS=>?_
  have cL:=vt cv hs
  have uC:=(qz N g).len cJ
  have kv:j=h.length+(l.length-s.length):=by have:=cL.1;rw[cD]at this;omega
  have es:=b6.new fv nx M
  refine⟨_,I,_,I,x,C,al,_,_,I,kS,T.cl,T.q7,tk ..,iQ,fun r e4=>?_⟩
  have h7:=Ext.tup (xs:=[v,V.int ((j:Nat):Int)]) e4
  exact⟨_,(es.trans h7).sub,q v r _ (es.trans h7) (h3.same h7.s d (dj.at d hd)) (by rw[<-kv];exact aQ)⟩
 | no w k =>
  rw[cJ]at q
  exact fun o d H' M b2 hd=>by
   have es:=b6.new fv nx M
   exact⟨_,.new (es.s.free hd) (es.s.trans (dq hd)) aQ trivial,q d (es.s.free hd)⟩
 |st =>
  rw[cJ]at q
  exact q
theorem aax{c:dP}{C:ae}{n:Nat}{has:eW->Bool}(T:pv K C)(S:ph K c "read" (fun _=>"Form.read") (fun _=>kL) ["self","signs","at"])(n9:jc P w K mg base 1 "Source" C ["self","signs","at"] (zV C))(j0:m2 P w K mg base (2*n+7) "draw" ["self","source"] (eO c) (jx aE N has c C n)):m2 P w K mg base (2*n+8) "read" ["self","signs","at"] (eO c) (fun _=>JL aE N has c n):=fun i=>lR (S i) fun _ _ G=>Yn T G n9 j0
theorem b0.read{c:dP}(f:bF)(h:b0 c X H f o):∃al fs,H o=J (.ins (eO c (slot f)) al fs)/\fs.lookup (af.ofString "read")=aw :=
 b0.ins (m:=af.ofString "read") (by decide+kernel) (by decide+kernel) (by decide+kernel) (by decide+kernel) (by decide+kernel) (by decide+kernel) f h
theorem aao{X:bz}{K:bN}(h:X.K=K):jE X (.builtin "len") (fun xs H Q=>Ey K xs H fun n=>Q (.int n) H):=by subst h;exact d7
noncomputable def Tn(aE:Bool->ae)(h l:List Bool)(H:au)(Q:bB):R D->Prop
 |.ok d s=>∀v t u H',Ext H H'->h3 H' d v->H' t=J (.tup [v,.int ((h.length+(l.length-s.length):Nat):Int)])->H' u=J (.tup [.ref t,.bK])->Q (.ref u) H'
 |.no w k=>∀e cx t H',Ext H H'->H' e=J (iK e (aE w) (J cx))->H' cx=J (iI (jn (h++l) w k))->H' t=J (.tup [.bK,.ref e])->Q (.ref t) H'
 |.st=>False
inductive Q1(aE:Bool->ae)(N:Nat)(c:dP)(n:Nat)(vs:List V)(H:au)(Q:bB)(E:bR):Prop where
 |mk (o:ae) (g:bF) (h l:List Bool) (bu:vs=[.ref o,.str (aV h),.str (aV l)]) (aj:b0 c [] H g o) (aq:ka hasAll g) (bl:aT g<=n) (bW:(h++l).length<=16000000) (d0:Tn aE h l H Q (bT N ag g l)):Q1 aE N c n vs H Q E
def Q0(aE:Bool->ae)(N:Nat)(c:dP)(n:Nat):b3:=fun vs H Q E=>Q1 aE N c n vs H Q E
theorem XD{f:ae}{c:dP}{fd:fG}{n:Nat}(nb:dW mg)(l2:mg "RiseError"=J (.ref gr))(xu:ExcC K gr)(xv:rk K (.ref gr)=J (.type "type"))(wZ:∀w,kf K (aE w) (.ref gr)=J ah)
  (F:dx K mg "_law_read" FR ["_law_made_here","_law_head","_law_signs_here"] f fd) (D4:m2 P w K mg base (2*n+8) "read" ["self","signs","at"] (eO c) (fun _=>JL aE N hasAll c n)) :
  bD P w K mg base (2*n+10) "_law_read" ["_law_made_here","_law_head","_law_signs_here"] (Q0 aE N c n):=by
 refine F.fp vu (fun bh A _ s H vs Q E az h=>?_)
 obtain⟨o,g,h,l,rfl,bx,aP,cu,aB,q⟩:=h
 obtain⟨pb,yK⟩:∃pb:St->bR,pb=fun ab Hr d H'=>∃C z,Hr=.ref C/\kf K C (.ref gr)=J ah/\ab=[J (.ref o),J (.str (aV h)),J (.str (aV l)),J .bK,J .bK,z]/\Ext H H'/\∀e t ax,Ext H' ax->ax e=J (iK e C d)->ax t=J (.tup [.bK,.ref e])->Q (.ref t) ax:=⟨_,rfl⟩
 refine⟨_,(aM (bS 3 vu.bp lN)
  (aM (bS 4 vu.bp lN)
  (aM (Ld (i:=5) (Eh:=pb) (fun _=>(aS (bS 3 vu.bp (rE D4 az FZ (ai 0) (av (aO dr (ai 1) (ai 2)) (av (cy (aao (K:=K) rfl) rfl nb.d1 d2 (av (ai 1) aA)) aA)) (hk':=by omega)))))
   (fun _ _=>(aS (bS 4 vu.bp (ai 5)))) l2 xu xv vu.bp)
  (aS (bG (jM (av (ai 3) (av (ai 4) aA)))))))),?_⟩
 try dsimp only[cQ,cR,cS,cT]
 obtain⟨fK,fM,e3,li⟩:=b0.read g bx
 refine⟨?_,fun bU s9 d H' a gG bf=>?_⟩
 ·refine⟨_,I,o,slot g,fK,fM,I,e3,li,_,I,_,I,.inr ⟨_,_,I,I,gT (by rw[cF,cF];rw[cD]at aB;omega),_,I,_,_,I,⟨gT (by rw[cF];rw[cD]at aB;omega),I⟩,?_⟩⟩
  have cm:xW aE h l H (fun v H1=>∀r,H1 r=aw->gB H (upd H1 r (.tup [v,.bK])) (Q (.ref r))) (pb [J (.ref o),J (.str (aV h)),J (.str (aV l)),J .bK,J .bK,aw]) (bT N ag g l):=by
   revert q
   cases bT N ag g l with
   |ok d s =>
    intro q v t H1 fv bg aT r e4
    have es:=Ext.tup (xs:=[V.ref t,V.bK]) e4
    exact⟨_,(fv.trans es).sub,q v t r _ (fv.trans es) (h3.same es.s d bg) (es.s _ _ aT) aQ⟩
   |no w k =>
    intro q d hd
    subst yK
    exact⟨aE w,_,I,wZ w,I,Ext.z2 hd,fun e t ax es he aT=>q e d t ax ((Ext.z2 hd).trans es) he (es.s _ _ aQ) aT⟩
   |st=>exact fun q=>q
  exact⟨o,g,h,l,by rw[hN,cF],bx,aP,cu,aB,cm.imp fun v H1 k=>⟨_,rfl,_,rfl,iQ,k⟩⟩
 ·subst yK
  obtain⟨C,z,hc,hm,rfl,fv,q⟩:=gG
  injection hc with hc
  subst hc
  refine⟨hm,_,I,_,I,_,I,iQ,fun r e4=>?_⟩
  have es:=Ext.exc (C:=s9) (d:=d) bf
  have h7:=Ext.tup (xs:=[V.bK,.ref a]) e4
  exact⟨_,(fv.trans (es.trans h7)).sub,q a r _ (es.trans h7) (h7.s _ _ aQ) aQ⟩
noncomputable def kQ(k:Nat):List Bool:=(List.replicate 10 ag++[ah]).set k ah
inductive Rh(K:bN)(cs:nZ)(vs:List V)(H:au)(Q:bB)(E:bR):Prop where
 |mk (e C cx:ae) (i:Int) (k:Nat) (bu:vs=[.ref e,.int ((k:Nat):Int)]) (aj:H e=J (iK e C (J cx))) (aq:H cx=J (iI i)) (bl:k<10) (bW:na K cs C (kQ k)) (d0:ni K C) (jQ:Q (.int i) H):Rh K cs vs H Q E
def DA(K:bN)(cs:nZ):b3:=fun vs H Q E=>Rh K cs vs H Q E
theorem X7(nb:dW mg)(F:dx K mg "_law_place" Fw ["_law_kept","_law_way"] f fd)(Eg:bD P w K mg base 1 "_law_kinds" ["_law_kept"] (QY K cs)):bD P w K mg base 2 "_law_place" ["_law_kept","_law_way"] (DA K cs):=by
 refine F.fp L7 (fun bh A _ s H vs Q E az h=>?_)
 obtain⟨e,C,cx,i,k,rfl,he,ed,hk,ae3,pl,q⟩:=h
 refine⟨_,(aM (bS 2 L7.bp (aO P2 (aO agw (gC (av hy aA)) aD) (gC (av hy aA))))
  (aM (yo hy (VI (ai 2) (ai 1) TI))
  (aM (cW (g9.pt (jb (cd (VM (Qg az)) (cj Eg az (av (ai 0) aA)) (ai 2)) (jb (kp (iu (cy ot rfl nb.hC hz (av (yg (ai 0) rfl) (av (m9 (v :=.ty "int") rfl nb.qZ qA rfl) aA))))) (k6 (iu (cy ot rfl nb.hC hz (av (yg (ai 0) rfl) (av (m9 (v :=.ty "bool") rfl nb.N2 NR rfl) aA)))))))) (aS (bG (lh k5 aD))) cV)
  (aS (bG (yg (ai 0) rfl)))))),?_⟩
 try dsimp only[cQ,cR,cS,cT]
 refine eS fun N aX=>⟨B7,fun cm fO =>.inr ⟨cm,10,_,I,I,aQ,by decide,by decide,(by show 1*10<=bY;decide),fun cN fh=>⟨B7,fun gq iT=>?_⟩⟩⟩
 have sW:=dq (o:=c2.lst [V.aN ag]) fO
 have o2:=dq (o:=c2.lst (List.replicate (10:Int).toNat [V.aN ag]).flatten) fh
 have J1:=dq (o:=c2.lst [V.aN ah]) iT
 refine .inr ⟨cN,gq,_,_,I,I,J1 _ _ aQ,aQ,(by show 10+1<=bY;decide),fun mT w5=>aX _ _ ?_⟩
 have akq:=dq (o:=c2.lst ((List.replicate (10:Int).toNat [V.aN ag]).flatten++[V.aN ah])) w5
 have KQ:=(sW.trans o2).trans (J1.trans akq)
 have bW:upd (upd (upd (upd H cm (.lst [V.aN ag])) cN (.lst (List.replicate (10:Int).toNat [V.aN ag]).flatten)) gq (.lst [V.aN ah])) mT (.lst ((List.replicate (10:Int).toNat [V.aN ag]).flatten++[V.aN ah])) mT=J (.lst ((List.replicate 10 ag++[ah]).map V.aN)):=aQ
 have afZ:H mT=aw:=by
  cases z:H mT with
  |none=>rfl
  |some o=>have:=((sW.trans o2).trans J1) _ _ z;rw[w5]at this;cases this
 generalize upd (upd (upd (upd H cm (.lst [V.aN ag])) cN (.lst (List.replicate (10:Int).toNat [V.aN ag]).flatten)) gq (.lst [V.aN ah])) mT (.lst ((List.replicate (10:Int).toNat [V.aN ag]).flatten++[V.aN ah]))=hF at KQ bW ⊢
 refine eS fun N aX=>⟨_,I,_,I,mT,_,_,k,I,I,bW,Ve (by show k<11;omega),aX _ _ ?_⟩
 have AS:eD H (upd hF mT (.lst (((List.replicate 10 ag++[ah]).map V.aN).set k (.aN ah)))):=fun b u e=>by
  rw[bO (eN e afZ)];exact KQ _ _ e
 have d0:upd hF mT (.lst (((List.replicate 10 ag++[ah]).map V.aN).set k (.aN ah))) mT=J (.lst ((kQ k).map V.aN)):=by
  rw[aQ];unfold kQ;rw[List.map_set]
 generalize upd hF mT (.lst (((List.replicate 10 ag++[ah]).map V.aN).set k (.aN ah)))=gb at AS d0 ⊢
 refine eS fun N aX=>⟨_,I,_,I,.inr ⟨e,C,J cx,_,I,AS _ _ he,.inr ⟨cx,_,I,AS _ _ ed⟩,ae3,fun jW uy=>?_⟩⟩
 have RX:=dq (o:=c2.lst ((kQ k).map V.aN)) uy
 have tx:=AS.trans RX
 refine⟨_,I,jW,mT,kQ k,kQ k,I,I,aQ,RX _ _ d0,_,I,?_⟩
 rw[d6 rfl]
 have mQ:List.lookup (af.ofString "place") [((af.ofString "place":af),V.int i)]=J (.int i):=by simp[List.lookup]
 refine fb ⟨_,I,e,C,cx,_,_,I,tx _ _ he,tx _ _ ed,pl.e6,pl.hd,pl.jV,mQ,.inl ⟨_,"int",_,ah,I,.int _,BO K "int" (by decide) "int" (by decide),ah,I,fb ⟨_,I,e,C,cx,_,_,I,tx _ _ he,tx _ _ ed,pl.e6,pl.hd,pl.jV,mQ,.inl ⟨_,"bool",_,ag,I,.int _,BO K "int" (by decide) "bool" (by decide),ag,I,fb (aX _ _ ?_)⟩⟩⟩⟩
 exact⟨_,I,e,C,cx,_,_,I,tx _ _ he,tx _ _ ed,pl.e6,pl.hd,pl.jV,mQ,H,.refl tx,q⟩
inductive Qu(c:dP)(n:Nat)(vs:List V)(H:au)(Q:bB)(E:bR):Prop where
 |mk (o:ae) (g:bF) (l:List Bool) (bu:vs=[.ref o,.str (aV l)]) (aj:b0 c [] H g o) (aq:ka hasAll g) (bl:aT g<=n) (bW:l.length<=13600000) (d0:xE g l) (jQ:560*c0 g<=80000) (qL:Q (.aN ah) H):Qu c n vs H Q E
def Jy(c:dP)(n:Nat):b3:=fun vs H Q E=>Qu c n vs H Q E
theorem Yb{f:ae}(nb:dW mg)(F:dx K mg "_law_begun" FA ["_law_made_here","_law_signs_here"] f fd)(o9:bD P w K mg base 26 "_law_asked" ["_law_made_here","_law_signs_here","_law_fills"] (Dw aE cB 302 c 8))(m1:ij P w K mg base 21 "row" ["self","value"] (eO c) (fun _=>zU hasAll jK dw c 8))(iX:ij P w K mg base 20 "fits" ["self","value"] (eO c) (i8 hasAll jK c 8)):bD P w K mg base 27 "_law_begun" ["_law_made_here","_law_signs_here"] (Jy c 8):=by
 refine F.fp Bb (fun bh A _ s H vs Q E az h=>?_)
 obtain⟨o,g,l,rfl,bx,aP,cu,aB,⟨_,d,z,dh,f2,sX,akZ,Kd⟩,hs,q⟩:=h
 refine⟨_,(aM (yo (cj o9 az (av (ai 0) (av (ai 1) (av hy aA))) (hk:=by omega)) (pE rfl (ji (eF (i:=2) Bb.bp rfl (by exact Or.inl I)) (ji (eF (i:=3) Bb.bp rfl (by exact Or.inl I)) pk))))
  (aM (cW (g9.pt (jb (cd GN (ai 3) lN) (k6 (cd U1 (jh iX az (ai 0) (av (ai 2) aA) (hk:=by omega)) hy)))) (aS (bG hy)) cV)
  (aM (bS 4 Bb.bp (jh m1 az (ai 0) (av (ai 2) aA) (hk:=by omega)))
  (aS (bG (jl (jG PySem.F.plainAttrs_str PySem.F.slot_str_startswith PySem.F.type_str_startswith L3 (ai 4) (av (ai 1) aA)) (kq (gi kV (cy d7 rfl nb.d1 d2 (av (ai 4) aA)) (cy d7 rfl nb.d1 d2 (av (ai 1) aA)))))))))),?_⟩
 try dsimp only[cQ,cR,cS,cT]
 have kT:(aV l).length<=bY:=gT (by rw[cF];omega)
 refine eS fun N aX=>⟨_,I,_,I,o,g,l,ah,I,bx,aP,cu,by omega,?_⟩
 rw[dh]
 refine pj.all fun v t iq x2 bg aT=>⟨t,_,I,dk aT,I,_,_,I,_,_,I,I,aX _ _ ?_⟩
 have CA:b0 c [] iq g o:=b0.keep (fun b u _ e=>x2.s b u e) g bx
 obtain⟨Hu,HI,Hz,lf⟩:=b0.fits g CA
 obtain⟨wt,wC,i0,nD⟩:=b0.row g CA
 have ju:(cb dw g d).length<=14000000:=by rw[sX,cD];omega
 refine eS fun N aX=>⟨_,I,I,_,I,fb ⟨_,I,o,slot g,Hu,HI,I,Hz,lf,_,I,o,g,v,d,I,I,CA,aP,cu,bg,f2,ah,I,I,_,I,fb (aX _ _ ?_)⟩⟩
 refine eS fun N aX=>⟨_,I,o,slot g,wt,wC,I,i0,nD,_,I,slot g,o,g,v,d,I,I,CA,aP,cu,bg,f2,by omega,aX _ _ ?_⟩
 refine⟨_,I,I,_,I,_,_,I,I,?_⟩
 rw[Mq,d6 ⟨z,sX.symm⟩]
 refine⟨_,I,gQ ⟨_,I,_,_,I,⟨gT (by rw[cF];omega),I⟩,_,I,_,_,I,⟨kT,I⟩,_,_,I,I,H,.refl x2.s,?_⟩⟩
 have:0<z.length:=List.length_pos_iff.mpr akZ
 dsimp only
 rw[d6 (by rw[cF,cF,sX,cD];omega)]
 exact q
theorem I1{a b:V}(h:a=b)(k:B):if(!decide (a=b))=ah then A else B:=by
 rw[d6 h];exact k
inductive RF(aE:Bool->ae)(c:dP)(n:Nat)(vs:List V)(H:au)(Q:bB)(E:bR):Prop where
 |mk (o:ae) (g:bF) (x z:List Bool) (b:Bool) (bu:vs=[.ref o,.str (aV (x++b::z)),.int ((x.length:Nat):Int)]) (aj:b0 c [] H g o) (aq:ka hasAll g) (bl:aT g<=n) (bW:(x++b::z).length<=500) (d0:xE g x) (jQ:(∀e,bT 302 e g (x++b::z)=.no ah z.length)) (qL:(∃d,bT 302 ah g (x++[!b])=.ok d [])) (yI:560*c0 g<=80000) (r2:Q (.aN ah) H):RF aE c n vs H Q E
def RE(aE:Bool->ae)(c:dP)(n:Nat):b3:=fun vs H Q E=>RF aE c n vs H Q E
theorem X5{f:ae}(nb:dW mg)(q3:na K cs (aE ah) (kQ 2))(p0:ni K (aE ah))(F:dx K mg "_law_wrong" Fu ["_law_made_here","_law_signs_here","_law_place_here"] f fd)(o9:bD P w K mg base 26 "_law_asked" ["_law_made_here","_law_signs_here","_law_fills"] (Dw aE cB 302 c 8))(vg:bD P w K mg base 27 "_law_begun" ["_law_made_here","_law_signs_here"] (Jy c 8))(n2:bD P w K mg base 2 "_law_place" ["_law_kept","_law_way"] (DA K cs)):bD P w K mg base 28 "_law_wrong" ["_law_made_here","_law_signs_here","_law_place_here"] (RE aE c 8):=by
 refine F.fp Fh (fun bh A _ s H vs Q E az h=>?_)
 obtain⟨o,g,x,z,b,rfl,bx,aP,cu,aB,nw,hw,⟨d,hd⟩,hs,q⟩:=h
 refine⟨_,(aM (cW (g9.pt (jb (cd mR (ai 2) aD) (jb (cd zz (ai 2) (cy d7 I nb.d1 d2 (av (ai 1) aA))) (k6 (kp (iu (cj vg az (av (ai 0) (av (iw iG (ai 1) iP (h8 (ai 2))) aA)) (hk:=by omega)))))))) (aS (bG hy)) cV)
  (aM (cW (cd sz (cj n2 az (av (cP cU (cj o9 az (av (ai 0) (av (ai 1) (av hy aA))) (hk:=by omega)) aD) (av aD aA)) (hk:=by omega)) (ai 2)) (aS (bG hy)) cV)
  (aM (bS 3 Fh.bp (aO P2 (iw iG (ai 1) iP (h8 (ai 2))) (cP cU (gC (av cw (av cw aA))) (qu tw rfl nb.qZ qA (av (gi da (cP cU (ai 1) (ai 2)) cw) aA)))))
  (aM (bS 4 Fh.bp (cP cU (cj o9 az (av (ai 0) (av (ai 3) (av hy aA))) (hk:=by omega)) aD))
  (aS (bG (gi yr (ai 4) lN))))))),?_⟩
 try dsimp only[cQ,cR,cS,cT]
 have kT:(aV (x++b::z)).length<=bY:=gT (by rw[cF];omega)
 have ay:x.length<(x++b::z).length:=by rw[cD,dZ];omega
 have ex:(x++b::z).take x.length=x:=List.take_left
 refine eS fun N aX=>⟨_,I,.inl ⟨_,_,I,I,_,I,gg (by omega) ⟨_,I,_,I,_,_,I,⟨kT,I⟩,_,_,I,I,_,I,gg (by rw[cF];omega) ⟨_,I,_,I,_,I,_,I,.inr ⟨_,I,kT,?_⟩⟩⟩⟩⟩
 rw[rF _ _ (by omega),ex]
 refine⟨o,g,x,I,bx,aP,cu,by omega,nw,hs,ah,rfl,fb (aX _ _ ?_)⟩
 refine eS fun N aX=>⟨_,I,_,I,o,g,x++b::z,ah,I,bx,aP,cu,by omega,?_⟩
 rw[hw ah]
 refine fun e cx t H1 fv he ed aT =>.inl (.inr ⟨_,_,_,_,I,I,dk aT,dA (j:=1) I,?_⟩)
 refine⟨e,aE ah,cx,_,2,I,he,ed,by decide,q3,p0,?_⟩
 have fE:jn (x++b::z) ah z.length=((x.length:Nat):Int):=by
  show(((x++b::z).length-z.length:Nat):Int)-1=_
  rw[cD,dZ];omega
 rw[fE]
 refine⟨_,I,I,_,I,I1 I (aX _ _ ?_)⟩
 have r4:b0 c [] H1 g o:=b0.keep (fun b u _ e=>fv.s b u e) g bx
 refine eS fun N aX=>⟨_,I,_,I,_,I,.inr ⟨_,I,kT,?_⟩⟩
 rw[rF _ _ (by omega),ex]
 have ar:(x++b::z)[x.length]?=J b:=by rw[List.getElem?_append_right (cE _),Nat.sub_self];rfl
 refine⟨iQ,fun cm fO=>⟨_,I,_,I,.inr ⟨_,_,pH b,I,I,kT,dA (M6 ar),I,.inl (.inr ⟨_,I,.inl (.inl ⟨cm,_,_,.str (aV [!b]),I,I,b1 aQ,?_,?_⟩)⟩)⟩⟩⟩
 ·cases b
  .rw[gu (by decide+kernel)];exact congrArg (fun y=>J (V.str y)) s1
  .rw[d6 (by decide+kernel)];exact congrArg (fun y=>J (V.str y)) s0
 have es:=fv.trans (Ext.lst (xs:=[V.str (af.ofString "1"),V.str (af.ofString "0")]) fO)
 refine .inl (.inr ⟨_,_,I,I,gT (by rw[cF,cF];show _+1<=_;omega),aX _ _ ?_⟩)
 refine⟨_,I,_,I,o,g,x++[!b],ah,by rw[hN];rfl,b0.keep (fun b u _ e=>es.s b u e) g bx,aP,cu,by rw[cD];show _+1<=_;omega,?_⟩
 rw[hd]
 refine pj.all fun v t bA h7 bg aT =>.inl (.inr ⟨_,_,_,_,I,I,dk aT,dA (j:=1) I,?_⟩)
 refine⟨_,I,I,H,.refl (es.trans h7).s,?_⟩
 rw[d6 rfl];exact q
noncomputable def xR(aE:Bool->ae)(cB:ae)(l:List Bool)(H:au)(i6:V):R D->Prop
 |.ok _ s=>if s=[]then i6=.bK else ∃e cx,i6=.ref e/\H e=J (iK e cB (J cx))/\H cx=J (iI ((l.length-s.length:Nat):Int))
 |.no w k=>∃e cx,i6=.ref e/\H e=J (iK e (aE w) (J cx))/\H cx=J (iI (jn l w k))
 |.st=>False
inductive Qp(aE:Bool->ae)(cB:ae)(c:dP)(n:Nat)(vs:List V)(H:au)(Q:bB)(E:bR):Prop where
 |mk (o:ae) (g:bF) (h l:List Bool) (i6:V) (bu:vs=[.ref o,.str (aV h),.str (aV l),i6]) (aj:b0 c [] H g o) (aq:ka hasAll g) (bl:aT g<=n) (bW:(h++l).length<=600) (d0:xR aE cB l H i6 (bT 302 ag g l)) (jQ:(∀d r,bT 302 ag g l=.ok d r->c4 jK g d=ah/\l=cb dw g d++r)) (qL:Q (.aN ah) H):Qp aE cB c n vs H Q E
def Qo(aE:Bool->ae)(cB:ae)(c:dP)(n:Nat):b3:=fun vs H Q E=>Qp aE cB c n vs H Q E
theorem Yc{f:ae}(nb:dW mg)(gP:∀w,dn K (.ref (aE w)) (.ref cB)=J ag)(H4:dn K (.ref cB) (.ref cB)=J ah)(l6:∀w,dn K (.ref (aE w)) (.ref (aE ah))=J w)(qJ:ej mg "Left" (.ref cB))(wI:ej mg "Wrong" (.ref (aE ah)))(q3:na K cs (aE ah) (kQ 2))(w6:na K cs (aE ag) (kQ 1))(p0:ni K (aE ah))(uP:ni K (aE ag))(pZ:ni K cB)(F:dx K mg "_law_alike" FD ["_law_made_here","_law_head","_law_signs_here","_law_kept"] f fd)(Ej:bD P w K mg base 26 "_law_read" ["_law_made_here","_law_head","_law_signs_here"] (Q0 aE 302 c 8))(n2:bD P w K mg base 2 "_law_place" ["_law_kept","_law_way"] (DA K cs))(m1:ij P w K mg base 21 "row" ["self","value"] (eO c) (fun _=>zU hasAll jK dw c 8)):bD P w K mg base 27 "_law_alike" ["_law_made_here","_law_head","_law_signs_here","_law_kept"] (Qo aE cB c 8):=by
 refine F.fp vP (fun bh A _ s H vs Q E az h=>?_)
 obtain⟨o,g,h,l,i6,rfl,bx,aP,cu,aB,hk,aG,q⟩:=h
 refine⟨_,(aM (yo (cj Ej az (av (ai 0) (av (ai 1) (av (ai 2) aA))) (hk:=by omega)) (pE rfl (ji (eF (i:=4) vP.bp rfl (by exact Or.inl I)) (ji (eF (i:=5) vP.bp rfl (by exact Or.inl I)) pk))))
  (aM (cW (g9.pt (jb (cd yr (ai 3) lN) (k6 (iu (cy k9 rfl nb.hC hz (av (ai 3) (av (hv qJ) aA))))))) (aM (bS 6 vP.bp (cy d7 rfl nb.d1 d2 (av (ai 2) aA)))
   (aM (cW (cd GN (ai 3) lN) (aS (bS 6 vP.bp (yg (ai 3) rfl))) cV)
   (aM (cW (g9.pt (jb (cd GN (ai 5) lN) (jb (kp (iu (cy ot rfl nb.hC hz (av (ai 4) (av (m9 (v :=.ty "tuple") rfl nb.uY tL rfl) aA))))) (jb (cd sz (cy d7 rfl nb.d1 d2 (av (ai 4) aA)) aD) (k6 (cd sz (cP cU (ai 4) aD) (aO dr (cy d7 rfl nb.d1 d2 (av (ai 1) aA)) (ai 6)))))))) (aS (bG hy)) cV)
   (aS (bG (gi da (jh m1 az (ai 0) (av (cP cU (ai 4) aD) aA) (hk:=by omega)) (iw iG (ai 2) iP (h8 (ai 6))))))))) cV)
  (aM (bS 7 vP.bp (aO dr aD (qu tw rfl nb.qZ qA (av (cy k9 rfl nb.hC hz (av (ai 3) (av (hv wI) aA))) aA))))
  (aS (bG (gi da (cj n2 az (av (ai 5) (av (ai 7) aA)) (hk:=by omega)) (aO dr (cy d7 rfl nb.d1 d2 (av (ai 1) aA)) (yg (ai 3) rfl)))))))),?_⟩
 try dsimp only[cQ,cR,cS,cT]
 have amd:l.length<=600:=by rw[cD]at aB;omega
 have amb:h.length<=600:=by rw[cD]at aB;omega
 have uC:(aV l).length<=bY:=gT (by rw[cF];omega)
 have C0:(aV h).length<=bY:=gT (by rw[cF];omega)
 refine eS fun N aX=>⟨_,I,_,I,_,I,o,g,h,l,I,bx,aP,cu,by omega,?_⟩
 cases cJ:bT 302 ag g l with
 |st=>rw[cJ]at hk;exact hk
 | no w k =>
  rw[cJ]at hk
  obtain⟨e,cx,rfl,he,ed⟩:=hk
  refine fun aL abj t H1 fv CK ac6 aT=>⟨t,_,I,dk aT,I,_,_,I,_,_,I,I,aX _ _ ?_⟩
  have mG:=fv.s _ _ he
  have wU:=fv.s _ _ ed
  have nL:ni K (aE w):=by cases w<;>assumption
  have aeS:∃j:Nat,(1+(if w=ah then(1:Int)else 0))=((j:Nat):Int)/\j<10/\na K cs (aE w) (kQ j):=by
   cases w
   .exact⟨1,I,by decide,w6⟩
   .exact⟨2,I,by decide,q3⟩
  obtain⟨j,kv,cv,ae1⟩:=aeS
  have i5:∀{D:ae}{b:Bool},dn K (.ref (aE w)) (.ref D)=J b->∀hp,RelV (.ref D) hp->dn K (.ref (aE w)) hp=J b:=fun{D b}h hp r=>by
   obtain rfl:hp=.ref D:=r
   exact h
  have mQ:∀i:Int,List.lookup (af.ofString "place") [((af.ofString "place":af),V.int i)]=J (.int i):=fun i=>by simp[List.lookup]
  have abQ:jn (h++l) w k=((h.length:Nat):Int)+jn l w k:=by
   cases w
   ·show(((h++l).length:Nat):Int)=_+((l.length:Nat):Int)
    rw[cD];omega
   ·obtain⟨x,b,z,e,bC,_⟩:=yn 302 g aP.1 l k cJ
    have:=congrArg List.length e
    rw[cD,dZ]at this
    show(((h++l).length-k:Nat):Int)-1=_+((((l.length-k:Nat):Int))-1)
    rw[cD];omega
  refine eS fun N aX=>⟨_,I,I,_,I,gg (fun z=>nomatch z) ⟨_,I,e,aE w,J cx,_,ag,I,mG,nL.e6,.inr ⟨cx,_,I,wU⟩,i5 (gP w),ag,I,fb (aX _ _ ?_)⟩⟩
  refine eS fun N aX=>⟨_,I,e,aE w,J cx,_,w,I,mG,nL.e6,.inr ⟨cx,_,I,wU⟩,i5 (l6 w),.inl (.inr ⟨w,I,.inl ⟨_,_,I,I,aX _ _ ?_⟩⟩)⟩
  refine⟨_,I,_,I,aL,aE w,abj,_,j,by dsimp only;rw[kv];rfl,CK,ac6,cv,ae1,nL,?_⟩
  refine⟨_,I,_,_,I,⟨C0,I⟩,_,I,e,aE w,cx,_,_,I,mG,wU,nL.e6,nL.hd,nL.jV,mQ _,.inl ⟨_,_,I,I,I,H,.refl fv.s,?_⟩⟩
  dsimp only
  rw[cF,abQ,d6 rfl];exact q
 | ok d s =>
  rw[cJ]at hk
  obtain⟨f2,gZ⟩:=aG d s cJ
  have IU:l.length-s.length=(cb dw g d).length:=by
   have:=congrArg List.length gZ
   rw[cD]at this
   omega
  have ll:l.take (cb dw g d).length=cb dw g d:=by rw[gZ];exact List.take_left
  have oI:(cb dw g d).length<=l.length:=by omega
  refine fun v md t H1 fv bg sk aT=>⟨t,_,I,dk aT,I,_,_,I,_,_,I,I,aX _ _ ?_⟩
  rw[IU]at sk
  have r4:b0 c [] H1 g o:=b0.keep (fun b u _ e=>fv.s b u e) g bx
  obtain⟨wt,wC,i0,nD⟩:=b0.row g r4
  have i5:∀hp,RelV (.ref cB) hp->dn K (.ref cB) hp=J ah:=fun hp r=>by
   obtain rfl:hp=.ref cB:=r
   exact H4
  have mQ:∀i:Int,List.lookup (af.ofString "place") [((af.ofString "place":af),V.int i)]=J (.int i):=fun i=>by simp[List.lookup]
  refine eS fun N aX=>?_
  have hk:(if s=[]then i6=.bK else ∃e cx,i6=.ref e/\H e=J (iK e cB (J cx))/\H cx=J (iI ((l.length-s.length:Nat):Int))):=hk
  rw[IU]at hk
  by_cases z:s=[]
  rw[if_pos z]at hk
  subst hk
  have eP:l.length=(cb dw g d).length:=by rw[z,List.length_nil]at IU;omega
  refine⟨_,I,I,_,I,jw I (gQ ?_)⟩
  refine eS fun N aX=>⟨_,I,_,_,I,⟨uC,I⟩,aX _ _ ?_⟩
  refine eS fun N aX=>⟨_,I,I,_,I,fb (aX _ _ ?_)⟩
  rw[cF,eP]
  rotate_left
  rw[if_neg z]at hk
  obtain⟨e,cx,rfl,he,ed⟩:=hk
  have mG:=fv.s _ _ he
  have wU:=fv.s _ _ ed
  refine⟨_,I,I,_,I,gg (fun z=>nomatch z) ⟨_,I,e,cB,J cx,_,ah,I,mG,pZ.e6,.inr ⟨cx,_,I,wU⟩,i5,ah,I,gQ ?_⟩⟩
  refine eS fun N aX=>⟨_,I,_,_,I,⟨uC,I⟩,aX _ _ ?_⟩
  refine eS fun N aX=>⟨_,I,I,_,I,gQ ⟨_,I,e,cB,cx,_,_,I,mG,wU,pZ.e6,pZ.hd,pZ.jV,mQ _,aX _ _ ?_⟩⟩
  all_goals
   refine eS fun N aX=>⟨_,I,I,_,I,fb ⟨_,I,.inl ⟨_,"tuple",_,ah,I,.tup sk,BO K "tuple" (by decide) "tuple" (by decide),ah,I,fb ⟨_,I,_,_,I,.inr ⟨_,dk sk,I⟩,I,_,I,I1 I ⟨_,I,.inl (.inr ⟨_,_,_,_,I,I,dk sk,dA (j:=1) I,_,I,_,_,I,⟨C0,I⟩,_,I,.inl ⟨_,_,I,I,I,_,I,I1 (by rw[cF];rfl) (aX _ _ ?_)⟩⟩)⟩⟩⟩⟩⟩
   refine⟨_,I,o,slot g,wt,wC,I,i0,nD,_,I,.inl (.inr ⟨_,_,_,_,I,I,dk sk,dA (j:=0) I,slot g,o,g,v,d,I,I,r4,aP,cu,bg,f2,by omega,?_⟩)⟩
   refine⟨_,I,_,I,_,I,.inr ⟨_,I,uC,?_⟩⟩
   rw[rF _ _ oI,ll]
   refine⟨I,H,.refl fv.s,?_⟩
   rw[d6 rfl];exact q
theorem slice_le(l:List Bool)(lo aC:Option Int):∃kA,Txt.slice (aV l) lo aC=aV kA/\kA.length<=l.length:=⟨_,vU l lo aC,by rw[hb,kn];omega⟩
theorem Mz(r:List Bool)(k:Nat)(h:k<=r.length):Txt.slice (aV r) (J (k:Int)) aw=aV (r.drop k):=by
 rw[vU]
 congr 1
 have aI:ek.fi r.length 0 (J (k:Int))=k:=by
  unfold ek.fi
  show(if(k:Int)<0 then _ else _)=_
  rw[if_neg (by omega)]
  omega
 have aL:ek.fi r.length r.length aw=r.length:=rfl
 rw[aI,aL,UV (by rw[kn];omega)]
theorem Y3(l:List Bool)(k:Nat):∃kA,Txt.slice (aV l) aw (J (k:Int))=aV kA/\kA.length<=k:=by
 rcases Nat.le_total k l.length with h|h
 .exact⟨_,rF l k h,by rw[hb];omega⟩
 ·obtain⟨kA,e,aB⟩:=slice_le l aw (J (k:Int))
  exact⟨kA,e,by omega⟩
inductive Qr(K:bN)(vs:List V)(H:au)(Q:bB)(E:bR):Prop where
 |mk (a p:ae) (ns:List Int) (R:List Bool) (bu:vs=[.ref a,.ref p,.str (aV R)]) (aj:(∀H',dy p H H'->dE K H' a (ns.map V.int))) (aq:ns.length<=63) (bl:lM p H) (bW:R.length<=14000000) (d0:∀l H',dy p H H'->l.length<=400->Q (.str (aV l)) H'):Qr K vs H Q E
def Qq(K:bN):b3:=fun vs H Q E=>Qr K vs H Q E
theorem Zf(nb:dW mg)(F:dx K mg "_law_any" F6 ["_law_script","_law_pool_here","_law_row"] f fd)(hh:bD P w K mg base 1 "_law_next" ["_law_pool_here"] uW)(vh:bD P w K mg base 1 "_law_digits" ["_law_number"] JB):bD P w K mg base 2 "_law_any" ["_law_script","_law_pool_here","_law_row"] (Qq K):=by
 refine F.fp tj (fun bh A _ s H vs Q E az h=>?_)
 obtain⟨a,p,ns,R,rfl,b2,bo,ck,cJ,q⟩:=h
 refine⟨_,(aM (bS 3 tj.bp (cj hh az (av (ai 1) aA)))
  (aM (bS 4 tj.bp cw)
  (aM (cW (cd da (aO dG (ai 3) aD) aD) (aM (pD jC.never rfl (kb (iw iG (ai 0) iP (h8 aD))) (eF (i:=5) tj.bp rfl (by exact Or.inl I))
    (aS (bS 4 tj.bp (aO dr (ai 4) (iw iG (cj vh az (av (aO dr (aO dG (ai 5) aD) aD) aA)) (h8 aD) iP)))))
   (aS (bG (ai 4)))) cV)
  (aM (bS 2 tj.bp (iw iG (ai 2) iP (h8 aD)))
  (aM (bS 6 tj.bp (aO dG (aO hx (ai 3) aD) (aO dr (cy d7 rfl nb.d1 d2 (av (ai 2) aA)) aD)))
  (aM (cW (cd da (aO dG (ai 3) aD) aD) (aS (bG (aO dr (aO dr (iw iG (ai 2) iP (h8 (ai 6))) (cP cU (gC (av cw (av cw aA))) (aO dG (aO hx (ai 3) aD) aD))) (iw iG (ai 2) (h8 (ai 6)) iP)))) cV)
  (aM (cW (cd da (aO dG (ai 3) aD) aD) (aS (bG (aO dr (iw iG (ai 2) iP (h8 (ai 6))) (iw iG (ai 2) (h8 (aO dr (ai 6) aD)) iP)))) cV)
  (aS (bG (aO dr (aO dr (iw iG (ai 2) iP (h8 (ai 6))) (jG PySem.F.plainAttrs_str PySem.F.slot_str_join PySem.F.type_str_join tN cw (av (jj ["_law_sign"] [] rfl (by decide+kernel) trivial (kb (iw iG (ai 2) (h8 (ai 6)) (h8 (aO dr (ai 6) aD)))) (fun _ _ _ _ _=>(eF (i:=0) (show(["_law_sign"]:List af).Nodup by decide+kernel))) (fun _ _ _ _ _=>iN) (fun _ _ _ _ _=>(cP cU (gC (av cw (av cw aA))) (qu tw rfl nb.qZ qA (av (gi da (ai 0) cw) aA))))) aA))) (iw iG (ai 2) (h8 (aO dr (ai 6) aD)) iP))))))))))),?_⟩
 try dsimp only[cQ,cR,cS,cT]
 refine eS fun N aX=>⟨_,I,p,I,ck,fun ce fo oK=>aX _ _ ?_⟩
 have G1:=dy.pop ck oK
 generalize upd H p (.lst (fo.map V.int))=H1 at G1 ⊢
 refine eS fun N aX=>aX _ _ ?_
 refine eS fun N aX=>⟨_,I,_,_,I,I,(by show(0:Int)<4;decide),I,_,I,e5 (fun lU=>?_) (fun lU=>aX _ _ ?_)⟩
 ·clear aX
  refine eS fun N aX =>.inl ⟨_,I,_,I,.inl ⟨a,_,I,b2 _ G1,fun L gP=>?_⟩⟩
  have es:Ext H1 (upd H1 L (.lst (kO (ns.map V.int) aw (J 63)))) :=.lst gP
  have rU:upd H1 L (.lst (kO (ns.map V.int) aw (J 63))) L=J (.lst (kO (ns.map V.int) aw (J 63))):=aQ
  generalize upd H1 L (.lst (kO (ns.map V.int) aw (J 63)))=ax at es rU ⊢
  have ie:∀y∈kO (ns.map V.int) aw (J 63),∃n,y=V.int n:=fun y bP=>by
   obtain⟨n,_,rfl⟩:=List.mem_map.mp (List.mem_of_mem_drop (List.mem_of_mem_take bP))
   exact⟨n,I⟩
  have hle:(kO (ns.map V.int) aw (J 63)).length<=63:=by
   unfold kO
   rw[hb,kn,cC];omega
  generalize kO (ns.map V.int) aw (J 63)=xs at rU ie hle ⊢
  refine⟨L,I,⟨_,b1 rU⟩,Ug (K:=K) (a:=L) (xs:=xs) (fun i ab H'=>H'=ax/\∃l rj s3,l.length<=5*i/\ab=[J (.ref a),J (.ref p),J (.str (aV R)),J (.int ce),J (.str (aV l)),rj,s3]) ⟨I,[],_,_,UF _,I⟩ ?_ ?_ ?_⟩
  ·rintro i ab H' aC ⟨rfl,_⟩
   exact b1 rU
  ·rintro i x ab H' ay ⟨rfl,l,rj,s3,aB,rfl⟩
   obtain⟨n,rfl⟩:=ie _ (kl ay)
   have aC:i<xs.length:=(km.mp ay).1
   obtain⟨m,hm,em⟩:=jL n 63 (by decide)
   have em:n%63=((m:Nat):Int):=em
   refine⟨_,I,_,I,_,_,I,I,(by show(0:Int)<63;decide),.inl ⟨_,_,I,I,m+1,by dsimp only;rw[em];rfl,fB (show m+1<2^10 by omega) (Nat.pow_le_pow_right (by decide) (by decide)),?_⟩⟩
   have hd:(j5 (m+1)).length<=6:=by rw[Bn];exact hn (by omega)
   refine⟨_,I,.inr ⟨_,I,gT (by rw[cF];omega),?_⟩⟩
   rw[Y2]
   have aT:(j5 (m+1)).tail.length<=5:=by rw[List.length_tail];omega
   refine .inr ⟨_,_,I,I,gT (by rw[cF,cF];omega),I,l++(j5 (m+1)).tail,_,_,by rw[cD];omega,by rw[hN];rfl⟩
  ·rintro ab H' ⟨rfl,l,rj,s3,aB,rfl⟩
   refine aX _ _ ⟨_,I,_,(G1.ext es).sub,q _ _ (G1.ext es) (by omega)⟩
 have kT:(aV R).length<=bY:=gT (by rw[cF];omega)
 refine eS fun N aX=>⟨_,I,_,I,.inr ⟨_,I,kT,aX _ _ ?_⟩⟩
 obtain⟨r,i0,amn⟩:=Y3 R 379
 have i0:Txt.slice (aV R) aw (J 379)=aV r:=i0
 rw[i0]
 have sj:(aV r).length<=bY:=gT (by rw[cF];omega)
 refine eS fun N aX=>⟨_,I,_,_,I,I,⟨by decide,by decide⟩,_,rfl,_,_,rfl,⟨sj,rfl⟩,.inl ⟨_,_,rfl,rfl,_,_,rfl,rfl,(by rw[cF];omega),aX _ _ ?_⟩⟩
 obtain⟨j,cv,kv⟩:=jL (ce/4) (r.length+1) (by omega)
 have kv:ce/4%((((aV r).length:Nat):Int)+1)=((j:Nat):Int):=by rw[cF];exact kv
 dsimp only
 rw[kv]
 have ret:∀l:List Bool,l.length<=400->∀H',Ext H1 H'->gB H H' (Q (V.str (aV l))):=fun l aB H' X=>⟨_,(G1.ext X).sub,q _ _ (G1.ext X) aB⟩
 have IW:=rF r j (by omega)
 have lx:=Mz r j (by omega)
 have Pc:∃kA,Txt.slice (aV r) (J (((j:Nat):Int)+1)) aw=aV kA/\kA.length<=r.length-j:=by
  rcases j4 j r.length with z|z
  .exact⟨_,Mz r (j+1) (by omega),by rw[kn];omega⟩
  ·refine⟨_,vU r _ _,?_⟩
   have aI:r.length<=ek.fi r.length 0 (J (((j:Nat):Int)+1)):=by
    unfold ek.fi
    show _<=(if(((j:Nat):Int)+1)<0 then _ else _)
    rw[if_neg (by omega)]
    omega
   rw[hb,kn];omega
 refine eS fun N aX=>⟨_,I,_,_,I,I,(by show(0:Int)<4;decide),I,_,I,e5 (fun lU=>?_) (fun lU=>aX _ _ ?_)⟩
 ·refine⟨_,I,_,I,_,I,.inr ⟨_,I,sj,?_⟩⟩
  rw[IW]
  obtain⟨u,dY,yF⟩:=jL (ce/2000) 2 (by decide)
  have yF:ce/2000%2=((u:Nat):Int):=yF
  refine⟨iQ,fun cm fO=>⟨_,I,_,_,I,I,⟨by decide,by decide⟩,_,_,rfl,rfl,(by show(0:Int)<2;decide),.inl (.inl ⟨cm,_,_,.str (aV [decide (u=1)]),rfl,rfl,b1 aQ,?_,?_⟩)⟩⟩
  ·rw[yF]
   have:u=0\/u=1:=by omega
   rcases this with rfl|rfl
   .exact congrArg (fun y=>J (V.str y)) s0
   .exact congrArg (fun y=>J (V.str y)) s1
  refine .inr ⟨_,_,I,I,gT (by rw[cF,cF,hb];show _+1<=_;omega),_,I,_,I,_,I,.inr ⟨_,I,sj,?_⟩⟩
  rw[lx]
  refine .inr ⟨_,_,I,I,gT (by rw[hN,cF,cF,cD,hb,kn];show _+1+_<=_;omega),?_⟩
  rw[hN,hN]
  exact ret _ (by rw[cD,cD,hb,kn];show _+1+_<=_;omega) _ (Ext.lst fO)
 refine eS fun N aX=>⟨_,I,_,_,I,I,(by show(0:Int)<4;decide),I,_,I,e5 (fun lU=>?_) (fun lU=>aX _ _ ?_)⟩
 ·refine⟨_,I,_,I,_,I,.inr ⟨_,I,sj,?_⟩⟩
  rw[IW]
  obtain⟨kA,e',y1⟩:=Pc
  refine⟨_,I,_,I,.inl ⟨_,_,I,I,_,I,.inr ⟨_,I,sj,?_⟩⟩⟩
  dsimp only
  rw[e']
  refine .inr ⟨_,_,I,I,gT (by rw[cF,cF,hb];omega),?_⟩
  rw[hN]
  exact ret _ (by rw[cD,hb];omega) _ (Ext.refl _)
 refine⟨_,I,_,I,_,I,.inr ⟨_,I,sj,?_⟩⟩
 rw[IW]
 obtain⟨kA,e',y1⟩:=Pc
 obtain⟨b,hf,ar⟩:∃b,Txt.slice (aV r) (J ((j:Nat):Int)) (J (((j:Nat):Int)+1))=aV b/\b.length<=1:=by
  refine⟨_,vU r _ _,?_⟩
  have aI:ek.fi r.length 0 (J (j:Int))=j:=by
   unfold ek.fi
   show(if(j:Int)<0 then _ else _)=_
   rw[if_neg (by omega)];omega
  have aL:ek.fi r.length r.length (J ((j:Int)+1))<=j+1:=by
   unfold ek.fi
   show(if(j:Int)+1<0 then _ else _)<=_
   rw[if_neg (by omega)];omega
  rw[hb,aI];omega
 refine⟨I,.inr ⟨_,I,_,I,_,I,_,I,.inl ⟨_,_,I,I,_,I,.inr ⟨_,I,sj,?_⟩⟩⟩⟩
 dsimp only
 rw[hf]
 refine⟨_,I,fun D dH=>?_⟩
 refine Nu b.length (fun i =>.str (aV [b.getD i ag])) (fun i bb H'=>Ext H1 H'/\bb=(List.range i).map fun k=>V.str (aV [!b.getD k ag])) (fun ab=>ab.length=1) (by omega) I ?_ ?_ ?_ ⟨Ext.lst dH,I⟩ ?_ ?_
 .intro i H1 aC;show i<(aV b).cps.size;simpa [aV] using aC
 .intro H1;show(aV b).cps.size<=b.length;simp[aV]
 ·rintro i H1 x ax aC ⟨rfl,c,hc,rfl⟩
  exact⟨I,M5 hc⟩
 ·rintro i aC bb cz ax i2 ⟨es,rfl⟩ mC _ R cJ
  obtain⟨z,rfl⟩:=BC i2
  refine⟨iQ,fun cm fO=>⟨_,I,I,.inl (.inr ⟨_,I,.inl (.inl ⟨cm,_,_,.str (aV [!b.getD i ag]),I,I,b1 aQ,?_,?_⟩)⟩)⟩⟩
  ·cases b.getD i ag
   .rw[gu (by decide+kernel)];exact congrArg (fun y=>J (V.str y)) s1
   .rw[d6 (by decide+kernel)];exact congrArg (fun y=>J (V.str y)) s0
  have h7:=Ext.lst (xs:=[V.str (af.ofString "1"),V.str (af.ofString "0")]) fO
  refine cJ _ _ _ I (h7.s _ _ mC) ⟨Ext.set dH (es.trans h7) (h7.s _ _ mC),?_⟩
  rw[List.range_succ,fk];rfl
 rintro bb ax _ mC ⟨es,rfl⟩
 refine⟨_,D,(b.map (!·)).map fun b=>aV [b],I,I,b1 ?_,?_,?_⟩
 .rw[mC];exact congrArg (fun x=>J (c2.lst x)) (Nb b (!·) fun i _=>I)
 .rw[Gs,cC];omega
 rw[Zip]
 refine .inr ⟨_,_,I,I,gT (by rw[cF,cF,cC,hb];omega),_,I,_,I,.inl ⟨_,_,I,I,_,I,.inr ⟨_,I,sj,?_⟩⟩⟩
 dsimp only
 rw[e']
 refine .inr ⟨_,_,I,I,gT (by rw[hN,cF,cF,cD,cC,hb];omega),?_⟩
 rw[hN,hN]
 exact ret _ (by rw[cD,cD,cC,hb];omega) _ es
theorem dE.keep{K:bN}{a:ae}(h:dE K H a xs)(k:∀u,H a=J u->H' a=J u):dE K H' a xs:=by
 rcases h with(h|⟨o,h⟩)|h
 .exact .inl (.inl (k _ h))
 .exact .inl (.inr ⟨o,k _ h⟩)
 .exact .inr h
theorem pj.ae2(jT:r≠.st)(h:∀wD i6 t H',Ext H H'->xR aE cB l H' i6 r->(∀d,r=.ok d []->dj (e7.of H) H' d wD)->H' t=J (.tup [wD,i6])->Q (.ref t) H'):pj aE cB l H Q r:=by
 cases r with
 | ok d s =>
  show if s=[]then _ else _
  by_cases z:s=[]
  ·rw[if_pos z]
   refine fun v t H' X bg aT=>h v .bK t H' X (by show if s=[]then _ else _;rw[if_pos z]) (fun d' e=>by cases e;exact bg) aT
  ·rw[if_neg z]
   refine fun e cx t H' X he ed aT=>h .bK (.ref e) t H' X (by show if s=[]then _ else _;rw[if_neg z];exact⟨e,cx,rfl,he,ed⟩) (fun d' e=>by cases e;exact absurd I z) aT
 |no w k=>exact fun e cx t H' X he ed aT=>h .bK (.ref e) t H' X ⟨e,cx,I,he,ed⟩ (fun d' e=>by cases e) aT
 |st=>exact absurd I jT
theorem dy.exc{e C cx:ae}{i:Int}(bj:lM p H)(g:dy p H H')(he:H e=J (iK e C (J cx)))(ed:H cx=J (iI i)):H' e=J (iK e C (J cx))/\H' cx=J (iI i):=by
 obtain⟨ns,h,_⟩:=bj
 exact⟨g.k _ _ (fun z=>by rw[z,h]at he;cases he) he,g.k _ _ (fun z=>by rw[z,h]at ed;cases ed) ed⟩
theorem xR.grow{i6:V}(bj:lM p H)(g:dy p H H')(h:xR aE cB l H i6 r):xR aE cB l H' i6 r:=by
 cases r with
 | ok d s =>
  have h:if s=[]then _ else _:=h
  show if s=[]then _ else _
  by_cases z:s=[]
  .rw[if_pos z]at h ⊢;exact h
  ·rw[if_neg z]at h ⊢
   obtain⟨e,cx,rfl,he,ed⟩:=h
   obtain⟨a,b⟩:=dy.exc bj g he ed
   exact⟨e,cx,I,a,b⟩
 |no w k =>
  obtain⟨e,cx,rfl,he,ed⟩:=h
  obtain⟨a,b⟩:=dy.exc bj g he ed
  exact⟨e,cx,I,a,b⟩
 |st=>exact h
set_option maxHeartbeats 4000000 in
theorem T2{f:ae}{c:dP}{fd:fG}(nb:dW mg)(F:c5 K "law" "law" EZ f fd)(I5:na K cs cB (kQ 3))(w6:na K cs (aE ag) (kQ 1))(q3:na K cs (aE ah) (kQ 2))(pZ:ni K cB)(uP:ni K (aE ag))(p0:ni K (aE ah))(gP:∀w,dn K (.ref (aE w)) (.ref cB)=J ag)(H4:dn K (.ref cB) (.ref cB)=J ah)(CD:∀w,dn K (.ref (aE w)) (.ref (aE ag))=J (!w))(qJ:ej mg "Left" (.ref cB))(wH:ej mg "Short" (.ref (aE ag)))
  (Ei:bD P w K mg base 1 "_law_pool" ["_law_script"] (Rj K)) (hh:bD P w K mg base 1 "_law_next" ["_law_pool_here"] uW) (Ef:bD P w K mg base 12 "_law_drawn" ["_law_pool_here"] QC) (ql:bD P w K mg base 15 "_law_made" ["_law_form_here"] (Dz c 8)) (pa:bD P w K mg base 11 "_law_value" ["_law_pool_here","_law_form_here"] (DD 8))
  (vh:bD P w K mg base 1 "_law_digits" ["_law_number"] JB) (Ee:bD P w K mg base 2 "_law_any" ["_law_script","_law_pool_here","_law_row"] (Qq K)) (o9:bD P w K mg base 26 "_law_asked" ["_law_made_here","_law_signs_here","_law_fills"] (Dw aE cB 302 c 8)) (Ed:bD P w K mg base 27 "_law_alike" ["_law_made_here","_law_head","_law_signs_here","_law_kept"] (Qo aE cB c 8)) (n2:bD P w K mg base 2 "_law_place" ["_law_kept","_law_way"] (DA K cs)) (vg:bD P w K mg base 27 "_law_begun" ["_law_made_here","_law_signs_here"] (Jy c 8)) (El:bD P w K mg base 28 "_law_wrong" ["_law_made_here","_law_signs_here","_law_place_here"] (RE aE c 8))
  (m1:ij P w K mg base 21 "row" ["self","value"] (eO c) (fun _=>zU hasAll jK dw c 8)) (iX:ij P w K mg base 20 "fits" ["self","value"] (eO c) (i8 hasAll jK c 8)) (Sl:bD P w K mg base 25 "read_all" ["form","signs"] (fun vs H Q _=>zT aE cB 302 hasAll ag c 8 vs H Q fun _ _ _=>False)):cq P w K mg base dv 29 f fd ["_law_script"] (Dy K):=by
 refine F.hV pC (fun bh A _ s H vs Q E az h=>?_)
 obtain⟨a,ns,rfl,b2,aB,q⟩:=h
 refine⟨_,(aM (bS 1 pC.bp (cj Ei az (av (ai 0) aA) (hk:=by omega)))
  (aM (bS 2 pC.bp (cj Ef az (av (ai 1) aA) (hk:=by omega)))
  (aM (bS 3 pC.bp (cj ql az (av (ai 2) aA) (hk:=by omega)))
  (aM (bS 4 pC.bp (cj Ee az (av (ai 0) (av (ai 1) (av (jh m1 az (ai 3) (av (cj pa az (av (ai 1) (av (ai 2) aA)) (hk:=by omega)) aA) (hk:=by omega)) aA))) (hk:=by omega)))
  (aM (bS 5 pC.bp (jh m1 az (ai 3) (av (cj pa az (av (ai 1) (av (ai 2) aA)) (hk:=by omega)) aA) (hk:=by omega)))
  (aM (yo (cj o9 az (av (ai 3) (av (ai 4) (av hy aA))) (hk:=by omega)) (pE rfl (ji (eF (i:=6) pC.bp rfl (by exact Or.inl I)) (ji (eF (i:=7) pC.bp rfl (by exact Or.inl I)) pk))))
  (aM (cW (kp (iu (cj Ed az (av (ai 3) (av (cj vh az (av (aO dG (cj hh az (av (ai 1) aA) (hk:=by omega)) aD) aA) (hk:=by omega)) (av (ai 4) (av (ai 7) aA)))) (hk:=by omega)))) (aS (bG hy)) cV)
  (aM (cW (cd yr (ai 7) lN) (aS (bG (jl (gi Hc (jh iX az (ai 3) (av (ai 6) aA) (hk:=by omega)) hy) (kq (gi da (jh m1 az (ai 3) (av (ai 6) aA) (hk:=by omega)) (ai 4)))))) cV)
  (aM (cW (iu (cy k9 rfl nb.hC hz (av (ai 7) (av (hv qJ) aA)))) (aM (bS 8 pC.bp (cj n2 az (av (ai 7) (av aD aA)) (hk:=by omega)))
   (aM (cW (g9.pt (jb (cd mR (ai 8) aD) (k6 (cd zz (ai 8) (cy d7 rfl nb.d1 d2 (av (ai 4) aA)))))) (aS (bG hy)) cV)
   (aS (bG (gi da (jh m1 az (ai 3) (av (cj Sl az (av (ai 3) (av (iw iG (ai 4) iP (h8 (ai 8))) aA)) (hk:=by omega)) aA) (hk:=by omega)) (iw iG (ai 4) iP (h8 (ai 8)))))))) cV)
  (aM (cW (iu (cy k9 rfl nb.hC hz (av (ai 7) (av (hv wH) aA)))) (aS (bG (jl (gi da (cj n2 az (av (ai 7) (av aD aA)) (hk:=by omega)) (cy d7 rfl nb.d1 d2 (av (ai 4) aA))) (kq (cj vg az (av (ai 3) (av (ai 4) aA)) (hk:=by omega)))))) cV)
  (aM (bS 8 pC.bp (cj n2 az (av (ai 7) (av aD aA)) (hk:=by omega)))
  (aS (bG (jl (cj El az (av (ai 3) (av (ai 4) (av (ai 8) aA))) (hk:=by omega)) (kq (GK (jG PySem.F.plainAttrs_str PySem.F.slot_str_startswith PySem.F.type_str_startswith L3 (ai 5) (av (iw iG (ai 4) iP (h8 (aO dr (ai 8) aD))) aA)))))))))))))))))),?_⟩
 try dsimp only[cQ,cR,cS,cT]
 refine eS fun N aX=>⟨_,I,a,ns,I,b2,aB,fun p ms bj hm=>aX _ _ ?_⟩
 have AR:=dq (o:=c2.lst (ms.map V.int)) bj
 have gk:upd H p (.lst (ms.map V.int)) p=J (.lst (ms.map V.int)):=aQ
 have H6:lM p (upd H p (.lst (ms.map V.int))):=⟨ms,aQ,hm⟩
 generalize upd H p (.lst (ms.map V.int))=H1 at AR gk H6 ⊢
 have oF:nc [p] H1:=fun x ay=>by rw[fU.mp ay];exact⟨_,gk⟩
 have nL:p∈[p]:=fU.mpr rfl
 have l3:∀H',dy p H1 H'->dE K H' a (ns.map V.int):=fun H' G=>dE.keep b2 fun u e=>G.k _ _ (eN e bj) (AR _ _ e)
 have OV:∀H',dy p H1 H'->eD H H':=fun H' G b u e=>G.k _ _ (eN e bj) (AR _ _ e)
 refine eS fun N aX=>⟨_,I,p,[p],I,H6,nL,oF,fun v ax g eC cf=>aX _ _ ?_⟩
 have fN:=cf.h
 have hs:=cf.s
 have aP:=cf.o
 have oG:ki [p] ax:=fun x ay=>by rw[fU.mp ay];obtain⟨n,e,_⟩:=eC.l;exact⟨_,e⟩
 refine eS fun N aX=>⟨_,I,v,g,[p],I,oG,cf.d,cf.o,by omega,fun o bA ml Cz=>aX _ _ ?_⟩
 have fR:=eC.ext ml
 have mF:=cf.d.same ml.s
 have yO:=oG.ext ml.s
 have Pk:pl bA p<=90:=by obtain⟨n,e,bo⟩:=fR.l;rw[tU e,cC];exact bo
 have g4:=GO g aP
 have cu:aT g<=8:=by omega
 have f5:560*c0 g<=80000:=by omega
 have ua:∀{H'},dy p bA H'->b0 c [] H' g o:=fun G=>b0.weak (fun x(ay:x∈([]:List ae))=>nomatch ay) _ (b0.keep (fun b u nb e=>G.k b u (fun z=>nb (by rw[z];exact nL)) e) _ Cz)
 have N1:∀{m b8 k:Nat},m<=90->lO m b8 k (c0 g)->k<=13600000:=fun{m b8 k}hm cJ=>by
  obtain⟨a1,a2⟩:=cJ
  have a5:300*c0 g<=300*141:=Nat.mul_le_mul_left _ hs
  omega
 obtain⟨al,fs,rV,lo⟩:=b0.row g (ua (dy.refl fR.l))
 refine eS fun N aX=>⟨_,I,_,I,_,I,o,slot g,al,fs,I,rV,lo,_,I,_,I,p,v,g,[p],I,nL,fR.l,yO,mF,aP,by omega,by omega,fun v1 eY hF qp r7 adg al3 yN=>?_⟩
 have alV:=N1 Pk yN
 refine⟨slot g,o,g,v1,eY,I,I,ua qp,g4,cu,dj.at _ r7,(Qe g4.1 adg).2.1,by omega,a,p,ns,cb dw g eY,rfl,fun H' G=>l3 _ ((fR.trans qp).trans G),aB,qp.l,by omega,fun l gb Kv IG=>aX _ _ ?_⟩
 have tg:=qp.trans Kv
 have OZ:=yO.grow tg
 have Ip:=dj.grow nL tg mF
 have IJ:pl gb p<=90:=by obtain⟨n,e,bo⟩:=tg.l;rw[tU e,cC];exact bo
 obtain⟨al,fs,rV,lo⟩:=b0.row g (ua tg)
 refine eS fun N aX=>⟨_,I,o,slot g,al,fs,I,rV,lo,_,I,_,I,p,v,g,[p],I,nL,tg.l,OZ,Ip,aP,by omega,by omega,fun v2 iY fS Kw O4 Pb al4 OT=>?_⟩
 have CG:=N1 IJ OT
 have xK:=tg.trans Kw
 refine⟨slot g,o,g,v2,iY,I,I,ua xK,g4,cu,dj.at _ O4,(Qe g4.1 Pb).2.1,by omega,aX _ _ ?_⟩
 have C:=ai7 g4.1 (l:=l) (by omega)
 have P0:bT 302 ag g l≠.st:=fun z=>by
  rcases C with⟨d,r,e,_,k⟩|⟨⟨k,e⟩,_⟩|⟨x,b,t,_,k,_⟩
  .rw[e,k]at z;cases z
  .rw[e]at z;cases z
  .rw[k]at z;cases z
 have P7:∀d r,bT 302 ag g l=.ok d r->c4 jK g d=ah/\l=cb dw g d++r:=fun d r z=>by
  rcases C with⟨d',fe,e,aj,k⟩|⟨⟨k,e⟩,_⟩|⟨x,b,t,_,k,_⟩
  .rw[e,k]at z;cases z;exact⟨aj,e⟩
  .rw[e]at z;cases z
  .rw[k]at z;cases z
 refine eS fun N aX=>⟨_,I,_,I,o,g,l,ag,I,ua xK,g4,cu,by omega,pj.ae2 P0 fun wD i6 t iq x2 hk bg aT=>⟨t,_,rfl,dk aT,rfl,_,_,rfl,_,_,rfl,rfl,aX _ _ ?_⟩⟩
 have xM:=xK.ext x2
 refine eS fun N aX=>⟨_,I,_,I,p,I,xM.l,fun ce zp adH=>?_⟩
 have xN:=dy.pop xM.l adH
 have mI:=hk.grow xM.l xN
 have Pw:∀d,bT 302 ag g l=.ok d []->h3 (upd iq p (.lst (zp.map V.int))) d wD:=fun d e=>dj.at _ (dj.keep (fun b u nb e=>xN.k b u (fun z=>nb (by obtain⟨n,e,_⟩:=xK.l;exact⟨_,by rw[z];exact e⟩)) e) _ (bg d e))
 generalize upd iq p (.lst (zp.map V.int))=m8 at xN mI Pw ⊢
 have Eo:=xM.trans xN
 have qO:=ua Eo
 have AU:=OV _ (fR.trans Eo)
 clear hk bg aT x2 xM xN OZ Ip O4 r7 yO mF rV lo l3 OV oG oF cf Pk IJ yN OT eC fR qp Kv Kw tg xK Eo ml ua Cz H6 gk AR
 obtain⟨zl,IJ,HA⟩:=jL ce 1000 (by decide)
 have HA:ce%1000=((zl:Nat):Int):=HA
 have Ip:(j5 zl).length<=10:=by rw[Bn];exact hn (by omega)
 refine⟨_,_,I,I,(by show(0:Int)<1000;decide),zl,by dsimp only;rw[HA];rfl,fB (show zl<2^10 by omega) (Nat.pow_le_pow_right (by decide) (by decide)),_,rfl,_,rfl,o,g,j5 zl,l,i6,rfl,qO,g4,cu,by rw[cD];omega,mI,P7,ah,rfl,fb (aX _ _ ?_)⟩
 have kT:(aV l).length<=bY:=gT (by rw[cF];omega)
 obtain⟨Hu,HI,Hz,lf⟩:=b0.fits g qO
 obtain⟨wt,wC,i0,nD⟩:=b0.row g qO
 have i5:∀{C D:ae}{b:Bool},dn K (.ref C) (.ref D)=J b->∀hp,RelV (.ref D) hp->dn K (.ref C) hp=J b:=fun{C D b}h hp r=>by
  obtain rfl:hp=.ref D:=r
  exact h
 clear aX P7 P0
 rcases C with⟨d,r,gZ,f2,cJ⟩|nw|⟨x,b,z,gZ,hw,nw,hd,y5⟩
 ·have yN:bT 302 ag g l=.ok d r:=by rw[gZ];exact cJ ag r
  rw[yN]at mI
  have mI:(if r=[]then i6=.bK else ∃e cx,i6=.ref e/\m8 e=J (iK e cB (J cx))/\m8 cx=J (iI ((l.length-r.length:Nat):Int))):=mI
  have amo:(cb dw g d).length+r.length=l.length:=by rw[gZ,cD]
  have ll:l.take (cb dw g d).length=cb dw g d:=by rw[gZ];exact List.take_left
  by_cases z4:r=[]
  ·rw[if_pos z4]at mI
   subst mI
   have bg:=Pw d (by rw[yN,z4])
   refine eS fun N aX=>⟨_,I,I,_,I,jw I ?_⟩
   refine⟨_,I,o,slot g,Hu,HI,I,Hz,lf,_,I,o,g,wD,d,I,I,qO,g4,cu,bg,f2,ah,I,I,_,I,gQ ⟨_,I,o,slot g,wt,wC,I,i0,nD,_,I,slot g,o,g,wD,d,I,I,qO,g4,cu,bg,f2,by omega,_,rfl,rfl,H,.refl AU,?_⟩⟩
   rw[d6 (by rw[gZ,z4,List.append_nil])]
   exact q _
  ·rw[if_neg z4]at mI
   obtain⟨e,cx,rfl,he,ed⟩:=mI
   have Pq:0<r.length:=List.length_pos_iff.mpr z4
   rw[show l.length-r.length=(cb dw g d).length by omega]at ed
   have OS:=cJ ag []
   rw[List.append_nil]at OS
   refine eS fun N aX=>⟨_,I,I,_,I,gg (fun z=>nomatch z) (aX _ _ ?_)⟩
   refine eS fun N aX=>⟨_,I,e,cB,J cx,_,ah,I,he,pZ.e6,.inr ⟨cx,_,I,ed⟩,i5 H4,ah,I,gQ ?_⟩
   refine eS fun N aX=>⟨_,I,e,cB,cx,_,3,I,he,ed,by decide,I5,pZ,aX _ _ ?_⟩
   refine eS fun N aX=>⟨_,I,.inl ⟨_,_,I,I,_,I,gg (by omega) ⟨_,I,_,I,_,_,I,⟨kT,I⟩,_,_,I,I,_,I,gg (by rw[cF];omega) (aX _ _ ?_)⟩⟩⟩
   refine⟨_,I,o,slot g,wt,wC,I,i0,nD,_,I,_,I,_,I,_,I,.inr ⟨_,I,kT,?_⟩⟩
   rw[rF _ _ (by omega),ll]
   refine⟨o,g,_,I,qO,g4,cu,by omega,?_⟩
   rw[OS]
   refine mn.all fun w Es K1 hw=>⟨slot g,o,g,w,d,I,I,b0.keep (fun b u _ e=>K1.s b u e) g qO,g4,cu,hw,f2,by omega,_,rfl,_,rfl,_,rfl,.inr ⟨_,rfl,kT,?_⟩⟩
   rw[rF _ _ (by omega),ll]
   refine⟨I,H,.refl (AU.trans K1.s),?_⟩
   rw[d6 rfl];exact q _
 ·obtain⟨⟨k,adx⟩,_⟩:=id nw
  rw[adx]at mI
  obtain⟨e,cx,rfl,he,ed⟩:=mI
  refine eS fun N aX=>⟨_,I,I,_,I,gg (fun z=>nomatch z) (aX _ _ ?_)⟩
  refine eS fun N aX=>⟨_,I,e,aE ag,J cx,_,ag,I,he,uP.e6,.inr ⟨cx,_,I,ed⟩,i5 (gP ag),ag,I,fb (aX _ _ ?_)⟩
  refine eS fun N aX=>⟨_,I,e,aE ag,J cx,_,ah,I,he,uP.e6,.inr ⟨cx,_,I,ed⟩,i5 (CD ag),ah,I,gQ ?_⟩
  refine⟨_,I,e,aE ag,cx,_,1,I,he,ed,by decide,w6,uP,_,rfl,_,_,rfl,⟨kT,rfl⟩,rfl,?_⟩
  rw[d6 (by rw[cF];rfl)]
  exact⟨_,I,gQ ⟨_,I,_,I,o,g,l,I,qO,g4,cu,by omega,nw,f5,H,.refl AU,q _⟩⟩
 ·subst gZ
  rw[hw ag]at mI
  obtain⟨e,cx,rfl,he,ed⟩:=mI
  have fE:jn (x++b::z) ah z.length=((x.length:Nat):Int):=by
   show(((x++b::z).length-z.length:Nat):Int)-1=_
   rw[cD,dZ];omega
  rw[fE]at ed
  have ay:x.length<(x++b::z).length:=by rw[cD,dZ];omega
  refine eS fun N aX=>⟨_,I,I,_,I,gg (fun z=>nomatch z) (aX _ _ ?_)⟩
  refine eS fun N aX=>⟨_,I,e,aE ah,J cx,_,ag,I,he,p0.e6,.inr ⟨cx,_,I,ed⟩,i5 (gP ah),ag,I,fb (aX _ _ ?_)⟩
  refine eS fun N aX=>⟨_,I,e,aE ah,J cx,_,ag,I,he,p0.e6,.inr ⟨cx,_,I,ed⟩,i5 (CD ah),ag,I,fb (aX _ _ ?_)⟩
  refine eS fun N aX=>⟨_,I,e,aE ah,cx,_,2,I,he,ed,by decide,q3,p0,aX _ _ ?_⟩
  refine⟨_,I,_,I,_,I,o,g,x,z,b,I,qO,g4,cu,by omega,nw,hw,hd,f5,ah,rfl,gQ ?_⟩
  refine⟨_,I,I,_,I,_,I,.inl ⟨_,_,I,I,_,I,.inr ⟨_,I,kT,?_⟩⟩⟩
  dsimp only
  rw[show((x.length:Nat):Int)+1=((x.length+1:Nat):Int) by omega,rF _ _ (by omega),show(x++b::z).take (x.length+1)=x++[b] by rw[List.take_append,UV (by omega),Nat.add_sub_cancel_left];rfl]
  refine⟨_,_,I,I,?_⟩
  rw[Mq,gu (fun bj=>by
   obtain⟨t,e⟩:=bj
   refine y5 iY t Pb ?_
   rw[<-e,e2];rfl)]
  exact⟨_,I,H,.refl AU,q _⟩
def s8(x q:af)(st:br)(ps:List af):Prop:=∀(gm doc pm:ao)(an:Option ae)(bh ct:ao)(us:List ao),us.length=ps.length->bindArgs (lE x q (lY st) (iz st) (bI st) .none gm doc pm an bh ct) ⟨us,[]⟩=pure (ps.zip us)
theorem gM{x:af}{st:br}(h:∀(gm doc pm:ao)(an:Option ae)(bh ct u:ao),bindArgs (lE x q (lY st) (iz st) (bI st) .none gm doc pm an bh ct) ⟨[u],[]⟩=pure [(a,u)]:=by intros;rfl):s8 x q st [a]:=fun _ _ _ _ _ _ us aB=>by
 rcases us with _|⟨_,_|⟨_,_⟩⟩<;>first|exact h .. |cases aB
theorem c8{x b:af}{st:br}(h:∀(gm doc pm:ao)(an:Option ae)(bh ct u v:ao),bindArgs (lE x q (lY st) (iz st) (bI st) .none gm doc pm an bh ct) ⟨[u,v],[]⟩=pure [(a,u),(b,v)]:=by intros;rfl):s8 x q st [a,b]:=fun _ _ _ _ _ _ us aB=>by
 rcases us with _|⟨_,_|⟨_,_|⟨_,_⟩⟩⟩<;>first|exact h .. |cases aB
theorem kr{x b c:af}{st:br}(h:∀(gm doc pm:ao)(an:Option ae)(bh ct u v y:ao),bindArgs (lE x q (lY st) (iz st) (bI st) .none gm doc pm an bh ct) ⟨[u,v,y],[]⟩=pure [(a,u),(b,v),(c,y)]:=by intros;rfl):s8 x q st [a,b,c]:=fun _ _ _ _ _ _ us aB=>by
 rcases us with _|⟨_,_|⟨_,_|⟨_,_|⟨_,_⟩⟩⟩⟩<;>first|exact h .. |cases aB
theorem aa2{x b c d:af}{st:br}(h:∀(gm doc pm:ao)(an:Option ae)(bh ct u v y z:ao),bindArgs (lE x q (lY st) (iz st) (bI st) .none gm doc pm an bh ct) ⟨[u,v,y,z],[]⟩=pure [(a,u),(b,v),(c,y),(d,z)]:=by intros;rfl):s8 x q st [a,b,c,d]:=fun _ _ _ _ _ _ us aB=>by
 rcases us with _|⟨_,_|⟨_,_|⟨_,_|⟨_,_|⟨_,_⟩⟩⟩⟩⟩<;>first|exact h .. |cases aB
structure lH(K:bN)(x:af)(C:ae):Prop where
 a:fy K eo x=J (J (.ref C))
 cl:fz K C
 zm:z6 K C=ah
 zj:kD K (.ref C)=ah
theorem cpMk{K:bN}{x:af}{C:ae}(a:fy K eo x=J (J (.ref C)))(jW:D2 K C af.empty=ah)(iU:va K C=ah)(agK:PySem.W.plainOver K C=ah)(agL:d4 K (.ref C) "__setattr__"=J (J (.builtin "object.__setattr__")))(agM:z6 K C=ah)(agN:kD K (.ref C)=ah):lH K x C:=⟨a,⟨jW,iU,agK,agL⟩,agM,agN⟩
def c3(K:bN)(C:ae)(x q:af)(st:br):Prop:=∃f fd,c5 K x q st f fd/\tp K C x f
def ei(K:bN)(x:af)(st:br):Prop:=∃f fd,c5 K x x st f fd/\fy K eo x=J (J (.ref f))
theorem mpMk{K:bN}{C f:ae}{x:af}{st:br}{gm:ao}(a:d4 K (.ref C) x=J (J (.ref f)))(i:Kg K (.ref f)=ah)(l:K.lookup f=J ⟨iE,od,.func (lE x q (lY st) (iz st) (bI st) .none gm doc pm an bh ct),mS⟩)(c:u9 K bh q=ah)(k:kD K (.ref f)=ah):c3 K C x q st:=⟨f,_,yt l c k,a,i,k⟩
theorem fpMk{K:bN}{f:ae}{x:af}{st:br}{gm:ao}(a:fy K eo x=J (J (.ref f)))(l:K.lookup f=J ⟨iE,od,.func (lE x x (lY st) (iz st) (bI st) .none gm doc pm an bh ct),mS⟩)(c:u9 K bh x=ah)(k:kD K (.ref f)=ah):ei K x st:=⟨f,_,yt l c k,a⟩
theorem c3.at{K:bN}{C:ae}{x:af}{st:br}(p:c3 K C x q st)(cl:fz K C)(b:s8 x q st ps):MethAt K C x q st ps:=by
 obtain⟨f,fd,F,m⟩:=p
 exact⟨⟨f,fd,F,F.binds b,m⟩,cl⟩
theorem ei.at{K:bN}{x:af}{st:br}{mg:af->Option ao}(X:K.In h)(G:h.Ns eo mg)(p:ei K x st)(b:s8 x x st ps):∃f fd,dx K mg x st ps f fd:=by
 obtain⟨f,fd,F,a⟩:=p
 exact⟨f,fd,F,F.binds b,gd X G a⟩
theorem c3.mk{x:af}{C:ae}{st:br}{sp:b3}(p:c3 K C "__init__" q st)(c:lH K x C)(m:mg x=J (.ref C))(b:s8 "__init__" q st ps)(h:∀f fd,c5 K "__init__" q st f fd->cq P w K mg base dv k f fd ps sp):jc P w K mg base k x C ps sp:=by
 obtain⟨f,fd,F,f6⟩:=p
 exact⟨f,fd,⟨c.zm,f6.at_,f6.fn,c.zj⟩,h f fd F,F.binds b,m⟩
set_option maxHeartbeats 16000000 in
theorem Xhw{l:PySem.W.OpenLaw}{w:cH}{K:bN}{mg:af->Option ao}(X:K.In h)(G:h.Ns eo mg)(adi:mg "law"=J (.ref fa))
  {j1 o6 o7 o8 o5 m5 mj nX nW nY m4 m3 qf qg qh qi qd qj qe wz wA wy:ae} {agB aaY:Option ae} {ajk:Array (Option ao)} {agy aeQ abh agT Oa abe:ao} {agC aaZ:Option ae} {ajl:Array (Option ao)} {agz aeR abi agU Ob abf:ao} {agA aaX:Option ae} {ajj:Array (Option ao)} {agx aeP abg agS N9 abd:ao} {akb:Tok} {aka:Tok} {akd:Tok} {aj9:Tok} {ake:Tok} {akc:Tok} {aj8:Tok} {akf:Tok} {aj7:Tok}
  (sI:lH K "Source" j1)
  (sG:lH K "Nothing" o6)
  (sL:lH K "Truth" o7)
  (sN:lH K "Whole" o8)
  (sD:lH K "Fraction" o5)
  (sJ:lH K "Span" m5)
  (q8:lH K "Letters" mj)
  (sF:lH K "Maybe" nX)
  (sE:lH K "Many" nW)
  (sM:lH K "Turned" nY)
  (sH:lH K "Record" m4)
  (sC:lH K "Choice" m3)
  (aaP:fy K eo "RiseError"=J (J (.ref gr)))
  (aaL:fy K eo "NoFit"=J (J (.ref qf)))
  (aaQ:fy K eo "Short"=J (J (.ref eT)))
  (aaS:fy K eo "Wrong"=J (J (.ref eU)))
  (aaK:fy K eo "Left"=J (J (.ref eK)))
  (aaM:fy K eo "NoForm"=J (J (.ref qg)))
  (aaN:fy K eo "NoText"=J (J (.ref qh)))
  (aaO:fy K eo "NotAhead"=J (J (.ref qi)))
  (aaI:fy K eo "BadPage"=J (J (.ref qd)))
  (aaR:fy K eo "Twice"=J (J (.ref qj)))
  (aaJ:fy K eo "Lacking"=J (J (.ref qe)))
  (agb:d4 K (.ref j1) "signs"=J aw)
  (aga:d4 K (.ref j1) "place"=J aw)
  (agc:d4 K (.ref j1) "turned"=J aw)
  (af9:d4 K (.ref j1) "endless"=J aw)
  (agd:d4 K (.ref j1) "wished"=J aw)
  (ahF:c3 K j1 "__init__" "Source.__init__" Fe)
  (ahD:c3 K j1 "draw" "Source.draw" AK)
  (ahH:c3 K j1 "turn" "Source.turn" AJ)
  (ahE:c3 K j1 "go_on" "Source.go_on" Ar)
  (ahI:c3 K j1 "wish" "Source.wish" AI)
  (ahG:c3 K j1 "refuse" "Source.refuse" Am)
  (aeA:d4 K (.ref o6) "__init__"=J (J (.builtin "object.__init__")))
  (aht:c3 K o6 "fits" "Nothing.fits" As)
  (ahw:c3 K o6 "written" "Nothing.written" A2)
  (ahs:c3 K o6 "draw" "Nothing.draw" Au)
  (ahv:c3 K o6 "row" "Form.row" kM)
  (ahu:c3 K o6 "read" "Form.read" kL)
  (aeB:d4 K (.ref o7) "__init__"=J (J (.builtin "object.__init__")))
  (ahQ:c3 K o7 "fits" "Truth.fits" Be)
  (ahT:c3 K o7 "written" "Truth.written" Al)
  (ahP:c3 K o7 "draw" "Truth.draw" Bf)
  (ahS:c3 K o7 "row" "Form.row" kM)
  (ahR:c3 K o7 "read" "Form.read" kL)
  (aeC:d4 K (.ref o8) "__init__"=J (J (.builtin "object.__init__")))
  (ah1:c3 K o8 "fits" "Whole.fits" Bc)
  (ah4:c3 K o8 "written" "Whole.written" Ak)
  (ah0:c3 K o8 "draw" "Whole.draw" Bd)
  (ah3:c3 K o8 "row" "Form.row" kM)
  (ah2:c3 K o8 "read" "Form.read" kL)
  (aez:d4 K (.ref o5) "__init__"=J (J (.builtin "object.__init__")))
  (ag5:c3 K o5 "fits" "Fraction.fits" Ao)
  (ag8:c3 K o5 "written" "Fraction.written" A9)
  (ag4:c3 K o5 "draw" "Fraction.draw" Ap)
  (ag7:c3 K o5 "row" "Form.row" kM)
  (ag6:c3 K o5 "read" "Form.read" kL)
  (agf:d4 K (.ref m5) "low"=J aw)
  (age:d4 K (.ref m5) "high"=J aw)
  (ahL:c3 K m5 "__init__" "Span.__init__" FI)
  (ahK:c3 K m5 "fits" "Span.fits" Bj)
  (ahO:c3 K m5 "written" "Span.written" Aq)
  (ahJ:c3 K m5 "draw" "Span.draw" Bk)
  (ahN:c3 K m5 "row" "Form.row" kM)
  (ahM:c3 K m5 "read" "Form.read" kL)
  (af4:d4 K (.ref mj) "signs"=J aw)
  (ahb:c3 K mj "__init__" "Letters.__init__" E9)
  (aha:c3 K mj "fits" "Letters.fits" AA)
  (ahf:c3 K mj "written" "Letters.written" A3)
  (ag9:c3 K mj "draw" "Letters.draw" AB)
  (ahc:c3 K mj "places" "Letters.places" A6)
  (ahe:c3 K mj "row" "Form.row" kM)
  (ahd:c3 K mj "read" "Form.read" kL)
  (af6:d4 K (.ref nX) "inner"=J aw)
  (aho:c3 K nX "__init__" "Maybe.__init__" Fs)
  (ahn:c3 K nX "fits" "Maybe.fits" Bg)
  (ahr:c3 K nX "written" "Maybe.written" An)
  (ahm:c3 K nX "draw" "Maybe.draw" Bh)
  (ahq:c3 K nX "row" "Form.row" kM)
  (ahp:c3 K nX "read" "Form.read" kL)
  (af5:d4 K (.ref nW) "inner"=J aw)
  (ahi:c3 K nW "__init__" "Many.__init__" FJ)
  (ahh:c3 K nW "fits" "Many.fits" Bl)
  (ahl:c3 K nW "written" "Many.written" Az)
  (ahg:c3 K nW "draw" "Many.draw" Bm)
  (ahk:c3 K nW "row" "Form.row" kM)
  (ahj:c3 K nW "read" "Form.read" kL)
  (agg:d4 K (.ref nY) "inner"=J aw)
  (ahW:c3 K nY "__init__" "Turned.__init__" Fd)
  (ahV:c3 K nY "fits" "Turned.fits" AG)
  (ahZ:c3 K nY "written" "Turned.written" A4)
  (ahU:c3 K nY "draw" "Turned.draw" AH)
  (ahY:c3 K nY "row" "Form.row" kM)
  (ahX:c3 K nY "read" "Form.read" kL)
  (af8:d4 K (.ref m4) "names"=J aw)
  (af7:d4 K (.ref m4) "forms"=J aw)
  (ahz:c3 K m4 "__init__" "Record.__init__" Ff)
  (ahy:c3 K m4 "fits" "Record.fits" AL)
  (ahC:c3 K m4 "written" "Record.written" A5)
  (ahx:c3 K m4 "draw" "Record.draw" AM)
  (ahB:c3 K m4 "row" "Form.row" kM)
  (ahA:c3 K m4 "read" "Form.read" kL)
  (af3:d4 K (.ref m3) "names"=J aw)
  (af2:d4 K (.ref m3) "forms"=J aw)
  (ag0:c3 K m3 "__init__" "Choice.__init__" Fg)
  (agZ:c3 K m3 "fits" "Choice.fits" AN)
  (ag3:c3 K m3 "written" "Choice.written" A7)
  (agY:c3 K m3 "draw" "Choice.draw" AO)
  (ag2:c3 K m3 "row" "Form.row" kM)
  (ag1:c3 K m3 "read" "Form.read" kL)
  (ae6:dn K (.ref eK) (.ref qf)=J ag)
  (afa:dn K (.ref eK) (.ref eT)=J ag)
  (afd:dn K (.ref eK) (.ref eU)=J ag)
  (ae7:dn K (.ref eK) (.ref qg)=J ag)
  (ae8:dn K (.ref eK) (.ref qh)=J ag)
  (ae9:dn K (.ref eK) (.ref qi)=J ag)
  (ae4:dn K (.ref eK) (.ref qd)=J ag)
  (afb:dn K (.ref eK) (.ref qj)=J ag)
  (ae5:dn K (.ref eK) (.ref qe)=J ag)
  (afc:dn K (.ref eK) (.type "ValueError")=J ah)
  (afh:dn K (.ref eT) (.ref qf)=J ag)
  (PI:dn K (.ref eT) (.ref eU)=J ag)
  (afg:dn K (.ref eT) (.ref eK)=J ag)
  (afi:dn K (.ref eT) (.ref qg)=J ag)
  (afj:dn K (.ref eT) (.ref qh)=J ag)
  (afk:dn K (.ref eT) (.ref qi)=J ag)
  (afe:dn K (.ref eT) (.ref qd)=J ag)
  (afl:dn K (.ref eT) (.ref qj)=J ag)
  (aff:dn K (.ref eT) (.ref qe)=J ag)
  (afm:dn K (.ref eT) (.type "ValueError")=J ah)
  (afq:dn K (.ref eU) (.ref qf)=J ag)
  (PJ:dn K (.ref eU) (.ref eT)=J ag)
  (afp:dn K (.ref eU) (.ref eK)=J ag)
  (afr:dn K (.ref eU) (.ref qg)=J ag)
  (afs:dn K (.ref eU) (.ref qh)=J ag)
  (aft:dn K (.ref eU) (.ref qi)=J ag)
  (afn:dn K (.ref eU) (.ref qd)=J ag)
  (afu:dn K (.ref eU) (.ref qj)=J ag)
  (afo:dn K (.ref eU) (.ref qe)=J ag)
  (afv:dn K (.ref eU) (.type "ValueError")=J ah)
  (akD:d4 K (.ref gr) "__getattribute__"=J (J (.builtin "BaseException.__getattribute__")))
  (akH:d4 K (.ref gr) "__getattr__"=J aw)
  (akz:d4 K (.ref gr) "__class__"=J (J (.builtin "object.__class__")))
  (akP:kf K gr (.type "object")=J ah)
  (akx:kf K gr (.type "BaseException")=J ah)
  (akL:Kf K gr=ah)
  (DU:Ki K (.builtin "object.__class__") "__get__"=J (J (.builtin "getset_descriptor.__get__")))
  (DV:PySem.W.takesIn K (.builtin "object.__class__")=J ah)
  (xv:rk K (.ref gr)=J (.type "type"))
  (akE:d4 K (.ref eT) "__getattribute__"=J (J (.builtin "BaseException.__getattribute__")))
  (akI:d4 K (.ref eT) "__getattr__"=J aw)
  (akA:d4 K (.ref eT) "__class__"=J (J (.builtin "object.__class__")))
  (akQ:kf K eT (.type "object")=J ah)
  (R4:kf K eT (.type "BaseException")=J ah)
  (akM:Kf K eT=ah)
  (akU:rk K (.ref eT)=J (.type "type"))
  (akF:d4 K (.ref eU) "__getattribute__"=J (J (.builtin "BaseException.__getattribute__")))
  (akJ:d4 K (.ref eU) "__getattr__"=J aw)
  (akB:d4 K (.ref eU) "__class__"=J (J (.builtin "object.__class__")))
  (akR:kf K eU (.type "object")=J ah)
  (R5:kf K eU (.type "BaseException")=J ah)
  (akN:Kf K eU=ah)
  (akV:rk K (.ref eU)=J (.type "type"))
  (akC:d4 K (.ref eK) "__getattribute__"=J (J (.builtin "BaseException.__getattribute__")))
  (akG:d4 K (.ref eK) "__getattr__"=J aw)
  (aky:d4 K (.ref eK) "__class__"=J (J (.builtin "object.__class__")))
  (akO:kf K eK (.type "object")=J ah)
  (R3:kf K eK (.type "BaseException")=J ah)
  (akK:Kf K eK=ah)
  (akT:rk K (.ref eK)=J (.type "type"))
  (t2:Ki K (.ref gr) "__getattribute__"=J (J (.builtin "type.__getattribute__")))
  (t4:PySem.W.readsIn K gr (.type "type")=ah)
  (tZ:PySem.W.findCls K (.ref gr) (.type "type") "__init__"=J (.val (.builtin "ValueError.__init__")))
  (alB:d4 K (.ref eT) "__init__"=J (J (.ref wz)))
  (afy:K.lookup wz=J ⟨agy,agB,.func (lE "__init__" "Short.__init__" (lY vQ) (iz vQ) (bI vQ) .none aeQ abh agT aaY Oa abe),ajk⟩)
  (aa7:u9 K Oa "Short.__init__"=ah)
  (aeU:kD K (.ref wz)=ah)
  (aj4:rk K (.ref wz)=J (.type "function"))
  (aeX:kD K (.ref eT)=ah)
  (ajg:d4 K (.ref eT) "__setattr__"=J (J (.builtin "object.__setattr__")))
  (O7:va K eT=ah)
  (akk:s5 K eT "place"=J aw)
  (agj:d4 K (.ref eT) "place"=J aw)
  (R8:pL K eT wz=ah)
  (agI:(PySem.W.clsIn K eT).any (fun c9=>xg c9.mro)=ah)
  (alC:d4 K (.ref eU) "__init__"=J (J (.ref wA)))
  (afz:K.lookup wA=J ⟨agz,agC,.func (lE "__init__" "Wrong.__init__" (lY Wp) (iz Wp) (bI Wp) .none aeR abi agU aaZ Ob abf),ajl⟩)
  (aa8:u9 K Ob "Wrong.__init__"=ah)
  (aeV:kD K (.ref wA)=ah)
  (aj5:rk K (.ref wA)=J (.type "function"))
  (aeY:kD K (.ref eU)=ah)
  (ajh:d4 K (.ref eU) "__setattr__"=J (J (.builtin "object.__setattr__")))
  (O8:va K eU=ah)
  (akl:s5 K eU "place"=J aw)
  (agk:d4 K (.ref eU) "place"=J aw)
  (R9:pL K eU wA=ah)
  (agJ:(PySem.W.clsIn K eU).any (fun c9=>xg c9.mro)=ah)
  (alA:d4 K (.ref eK) "__init__"=J (J (.ref wy)))
  (afx:K.lookup wy=J ⟨agx,agA,.func (lE "__init__" "Left.__init__" (lY vv) (iz vv) (bI vv) .none aeP abg agS aaX N9 abd),ajj⟩)
  (aa6:u9 K N9 "Left.__init__"=ah)
  (aeT:kD K (.ref wy)=ah)
  (aj3:rk K (.ref wy)=J (.type "function"))
  (aeW:kD K (.ref eK)=ah)
  (ajf:d4 K (.ref eK) "__setattr__"=J (J (.builtin "object.__setattr__")))
  (O6:va K eK=ah)
  (akj:s5 K eK "place"=J aw)
  (agi:d4 K (.ref eK) "place"=J aw)
  (R7:pL K eK wy=ah)
  (agH:(PySem.W.clsIn K eK).any (fun c9=>xg c9.mro)=ah)
  (afW:kf K eT (.ref gr)=J ah)
  (afX:kf K eU (.ref gr)=J ah)
  (afV:kf K eK (.ref gr)=J ah)
  (aiP:ei K "turned_row" Fj)
  (aiJ:ei K "lower_digits" E7)
  (aij:ei K "is_count" FW)
  (aii:ei K "has_whole_row" Aj)
  (ah8:ei K "count_row" FG)
  (aiR:ei K "whole_row" Ft)
  (aie:ei K "fixed_row" FF)
  (aic:ei K "draw_lower_digits" EO)
  (ah9:ei K "draw_count" Fq)
  (aid:ei K "draw_whole" Fo)
  (aia:ei K "draw_fixed" Fp)
  (aiO:ei K "steps_of" FO)
  (ah5:ei K "are_steps" FH)
  (aif:ei K "fraction_of" Fc)
  (ah7:ei K "common_divisor" EG)
  (aik:ei K "is_fraction" Fb)
  (aih:ei K "has_fraction_row" Eu)
  (aiN:ei K "row_of_steps" E6)
  (aib:ei K "draw_fraction" E3)
  (aim:ei K "is_number" FE)
  (aiK:ei K "made_of" F5)
  (ail:ei K "is_name" F7)
  (aiL:ei K "names_of" FQ)
  (aiQ:ei K "value_of" FN)
  (aiM:ei K "read_all" FP)
  (ah6:ei K "begun_by" FX)
  (aiC:ei K "_law_pool" FT)
  (aiA:ei K "_law_next" FU)
  (aiF:ei K "_law_signs" Fv)
  (aiy:ei K "_law_names" Fx)
  (aiG:ei K "_law_simple" Fl)
  (aiu:ei K "_law_form" Bq)
  (aix:ei K "_law_made" Bp)
  (aiz:ei K "_law_near" FV)
  (aiE:ei K "_law_signed" Fm)
  (aiv:ei K "_law_fraction" E8)
  (aiH:ei K "_law_value" Bi)
  (ait:ei K "_law_drawn" Fz)
  (aiw:ei K "_law_kinds" Fy)
  (ais:ei K "_law_digits" Fn)
  (aip:ei K "_law_any" F6)
  (aiq:ei K "_law_asked" FC)
  (aiB:ei K "_law_place" Fw)
  (air:ei K "_law_begun" FA)
  (aiI:ei K "_law_wrong" Fu)
  (aiD:ei K "_law_read" FR)
  (aio:ei K "_law_alike" FD)
  (ain:ei K "law" EZ)
  (ak7:fy K eo "len"=J aw)
  (ala:fy K eo "range"=J aw)
  (ak5:fy K eo "int"=J aw)
  (ald:fy K eo "str"=J aw)
  (ak3:fy K eo "bool"=J aw)
  (ale:fy K eo "tuple"=J aw)
  (ak6:fy K eo "isinstance"=J aw)
  (ak9:fy K eo "min"=J aw)
  (ak8:fy K eo "list"=J aw)
  (ak2:fy K eo "all"=J aw)
  (alb:fy K eo "reversed"=J aw)
  (ak4:fy K eo "enumerate"=J aw)
  (alf:fy K eo "zip"=J aw)
  (alc:fy K eo "set"=J aw)
  (ak1:fy K eo "abs"=J aw)
  (ak0:fy K eo "ValueError"=J aw)
  (acb:fy K eo "MOST_DIGITS"=J (J (.int 255 akb)))
  (aca:fy K eo "MOST_AHEAD"=J (J (.int 7 aka)))
  (ace:fy K eo "MOST_SIGNS"=J (J (.int 60 akd)))
  (ab9:fy K eo "LONGEST_TEXT"=J (J (.int 200 aj9)))
  (acf:fy K eo "MOST_VALUES"=J (J (.int 60 ake)))
  (acd:fy K eo "MOST_PARTS"=J (J (.int 20 akc)))
  (ab8:fy K eo "LONGEST_NAME"=J (J (.int 12 aj8)))
  (acg:fy K eo "SMALL_LETTERS"=J (J (.str "abcdefghijklmnopqrstuvwxyz" akf)))
  (ab7:fy K eo "LETTERS_AND_FIGURES"=J (J (.str "abcdefghijklmnopqrstuvwxyzABCDEFGHIJKLMNOPQRSTUVWXYZ0123456789" aj7)))
  : ∃fd:fG,(∀(s:aJ)(v:ao),BindsTo s fd ⟨[v],[]⟩ [("_law_script",v)])/\∀base:bc,K.In base->base.Ns eo mg->cq l.prog w K mg base dv 29 fa fd ["_law_script"] (Dy K):=by
 obtain⟨_,fd,Ku,aaT⟩:=ain
 have e:=adi.symm.trans (gd X G aaT)
 cases e
 have qC:=Ku.ex
 have afQ:=gd X G sI.a
 have w9:=gd X G sG.a
 have xa:=gd X G sL.a
 have xb:=gd X G sN.a
 have w8:=gd X G sD.a
 have afR:=gd X G sJ.a
 have afM:=gd X G q8.a
 have afO:=gd X G sF.a
 have afN:=gd X G sE.a
 have afS:=gd X G sM.a
 have afP:=gd X G sH.a
 have afL:=gd X G sC.a
 have l2:=gd X G aaP
 have alO:ej mg "RiseError" (.ref gr):=⟨_,l2,rfl⟩
 have acB:=gd X G aaL
 have HS:ej mg "NoFit" (.ref qf):=⟨_,acB,rfl⟩
 have OF:=gd X G aaQ
 have wH:ej mg "Short" (.ref eT):=⟨_,OF,rfl⟩
 have OG:=gd X G aaS
 have wI:ej mg "Wrong" (.ref eU):=⟨_,OG,rfl⟩
 have OE:=gd X G aaK
 have qJ:ej mg "Left" (.ref eK):=⟨_,OE,rfl⟩
 have acC:=gd X G aaM
 have HT:ej mg "NoForm" (.ref qg):=⟨_,acC,rfl⟩
 have acD:=gd X G aaN
 have HU:ej mg "NoText" (.ref qh):=⟨_,acD,rfl⟩
 have acE:=gd X G aaO
 have HV:ej mg "NotAhead" (.ref qi):=⟨_,acE,rfl⟩
 have acz:=gd X G aaI
 have HQ:ej mg "BadPage" (.ref qd):=⟨_,acz,rfl⟩
 have acF:=gd X G aaR
 have HW:ej mg "Twice" (.ref qj):=⟨_,acF,rfl⟩
 have acA:=gd X G aaJ
 have HR:ej mg "Lacking" (.ref qe):=⟨_,acA,rfl⟩
 have ajU:MethAt K j1 "draw" "Source.draw" AK ["self"]:=ahD.at sI.cl gM
 have ajX:MethAt K j1 "turn" "Source.turn" AJ ["self"]:=ahH.at sI.cl gM
 have ajV:MethAt K j1 "go_on" "Source.go_on" Ar ["self"]:=ahE.at sI.cl gM
 have ajY:MethAt K j1 "wish" "Source.wish" AI ["self","sign"]:=ahI.at sI.cl c8
 have ajW:MethAt K j1 "refuse" "Source.refuse" Am ["self"]:=ahG.at sI.cl gM
 have vy:lL K o6:=⟨sG.zm,aeA,sG.zj⟩
 have vz:lL K o7:=⟨sL.zm,aeB,sL.zj⟩
 have vA:lL K o8:=⟨sN.zm,aeC,sN.zj⟩
 have vx:lL K o5:=⟨sD.zm,aez,sD.zj⟩
 have ajT:MethAt K mj "places" "Letters.places" A6 ["self","text"]:=ahc.at q8.cl c8
 have xu:ExcC K gr:=⟨akD,akH,akz,akP,akx,akL,DU,DV⟩
 have J9:ExcC K eT:=⟨akE,akI,akA,akQ,R4,akM,DU,DV⟩
 have Ka:ExcC K eU:=⟨akF,akJ,akB,akR,R5,akN,DU,DV⟩
 have J8:ExcC K eK:=⟨akC,akG,aky,akO,R3,akK,DU,DV⟩
 have D5:z9 K mg "RiseError" gr:=⟨l2,t2,t4,tZ⟩
 have Kr:=yt (st:=vQ) afy aa7 aeU
 have ER:=Kr.binds (ps:=["self","place"]) c8
 have EX:tH K mg "Short" eT wz:=⟨R8,aj4,aeX,R4,akU,OF⟩
 have TC:qm K eT:={J9 with sa:=ajg,ov:=agI,hd:=O7}
 have Ks:=yt (st:=Wp) afz aa8 aeV
 have ES:=Ks.binds (ps:=["self","place"]) c8
 have EY:tH K mg "Wrong" eU wA:=⟨R9,aj5,aeY,R5,akV,OG⟩
 have TF:qm K eU:={Ka with sa:=ajh,ov:=agJ,hd:=O8}
 have Kq:=yt (st:=vv) afx aa6 aeT
 have EP:=Kq.binds (ps:=["self","place"]) c8
 have EW:tH K mg "Left" eK wy:=⟨R7,aj3,aeW,R3,akT,OE⟩
 have TB:qm K eK:={J8 with sa:=ajf,ov:=agH,hd:=O6}
 obtain⟨_,_,S9⟩:=aiP.at X G gM
 obtain⟨_,_,S3⟩:=aiJ.at X G c8
 obtain⟨_,_,SA⟩:=aij.at X G gM
 obtain⟨_,_,Kt⟩:=aii.at X G gM
 obtain⟨_,_,Sq⟩:=ah8.at X G gM
 obtain⟨_,_,Tb⟩:=aiR.at X G gM
 obtain⟨_,_,Sx⟩:=aie.at X G c8
 obtain⟨_,_,Sv⟩:=aic.at X G c8
 obtain⟨_,_,Sr⟩:=ah9.at X G gM
 obtain⟨_,_,Sw⟩:=aid.at X G gM
 obtain⟨_,_,Ss⟩:=aia.at X G c8
 obtain⟨_,_,S8⟩:=aiO.at X G gM
 obtain⟨_,_,Sn⟩:=ah5.at X G gM
 obtain⟨_,_,Sy⟩:=aif.at X G gM
 obtain⟨_,_,Sp⟩:=ah7.at X G c8
 obtain⟨_,_,SD⟩:=aik.at X G gM
 obtain⟨_,_,Sz⟩:=aih.at X G gM
 obtain⟨_,_,S7⟩:=aiN.at X G gM
 obtain⟨_,_,Su⟩:=aib.at X G gM
 obtain⟨_,_,SF⟩:=aim.at X G gM
 obtain⟨_,_,S4⟩:=aiK.at X G c8
 obtain⟨_,_,SE⟩:=ail.at X G gM
 obtain⟨_,_,S5⟩:=aiL.at X G gM
 obtain⟨_,_,Ta⟩:=aiQ.at X G c8
 obtain⟨_,_,S6⟩:=aiM.at X G c8
 obtain⟨_,_,So⟩:=ah6.at X G c8
 obtain⟨_,_,SW⟩:=aiC.at X G gM
 obtain⟨_,_,SU⟩:=aiA.at X G gM
 obtain⟨_,_,SZ⟩:=aiF.at X G gM
 obtain⟨_,_,SR⟩:=aiy.at X G c8
 obtain⟨_,_,S0⟩:=aiG.at X G c8
 obtain⟨_,_,SN⟩:=aiu.at X G c8
 obtain⟨_,_,SQ⟩:=aix.at X G gM
 obtain⟨_,_,SS⟩:=aiz.at X G gM
 obtain⟨_,_,SY⟩:=aiE.at X G gM
 obtain⟨_,_,SO⟩:=aiv.at X G c8
 obtain⟨_,_,S1⟩:=aiH.at X G c8
 obtain⟨_,_,SM⟩:=ait.at X G gM
 obtain⟨_,_,SP⟩:=aiw.at X G gM
 obtain⟨_,_,SK⟩:=ais.at X G gM
 obtain⟨_,_,SH⟩:=aip.at X G kr
 obtain⟨_,_,SI⟩:=aiq.at X G kr
 obtain⟨_,_,SV⟩:=aiB.at X G c8
 obtain⟨_,_,SJ⟩:=air.at X G c8
 obtain⟨_,_,S2⟩:=aiI.at X G kr
 obtain⟨_,_,SX⟩:=aiD.at X G kr
 obtain⟨_,_,SG⟩:=aio.at X G aa2
 have nb:dW mg:=⟨kK X G ak7,kK X G ala,kK X G ak5,kK X G ald,kK X G ak3,kK X G ale,kK X G ak6,kK X G ak9,kK X G ak8,kK X G ak2,kK X G alb,kK X G ak4,kK X G alf,kK X G alc,kK X G ak1⟩
 have Jb:=kK X G ak0
 have HM:ej mg "MOST_DIGITS" (.int 255):=⟨_,gd X G acb,⟨_,rfl⟩⟩
 have wG:ej mg "MOST_AHEAD" (.int 7):=⟨_,gd X G aca,⟨_,rfl⟩⟩
 have HO:ej mg "MOST_SIGNS" (.int 60):=⟨_,gd X G ace,⟨_,rfl⟩⟩
 have pO:ej mg "LONGEST_TEXT" (.int 200):=⟨_,gd X G ab9,⟨_,rfl⟩⟩
 have pP:ej mg "MOST_VALUES" (.int 60):=⟨_,gd X G acf,⟨_,rfl⟩⟩
 have HN:ej mg "MOST_PARTS" (.int 20):=⟨_,gd X G acd,⟨_,rfl⟩⟩
 have HL:ej mg "LONGEST_NAME" (.int 12):=⟨_,gd X G ab8,⟨_,rfl⟩⟩
 have HP:ej mg "SMALL_LETTERS" (.str kj):=⟨_,gd X G acg,⟨_,rfl⟩⟩
 have HK:ej mg "LETTERS_AND_FIGURES" (.str qr):=⟨_,gd X G ab7,⟨_,rfl⟩⟩
 refine⟨fd,fun s v=>?_,fun base _ _=>?_⟩
 ·obtain⟨_,_,_,_,_,_,_,_,_,rfl,_⟩:=qC
  exact .of_eq I
 have T:pv K j1:=⟨sI.cl,agb,aga,agc,af9,agd⟩
 have EU:=XI (P:=l.prog) (w:=w) (base:=base) R8 TC akk D5 Kr
 have EV:=XH (P:=l.prog) (w:=w) (base:=base) R9 TF akl D5 Ks
 have ET:=Yg (P:=l.prog) (w:=w) (base:=base) R7 TB akj D5 Kq
 obtain⟨aE,Ik,Ij⟩:∃aE:Bool->ae,aE ah=eU/\aE ag=eT:=⟨fun b=>bif b then eU else eT,rfl,rfl⟩
 have n4:=Xz (P:=l.prog) (w:=w) (base:=base) S9
 have te:=W0 (P:=l.prog) (w:=w) (base:=base) nb S3
 have n1:=Yd Sx te
 have m6:=YJ (P:=l.prog) (w:=w) (base:=base) HM SA
 have tc:=WI Kt m6
 have Sk:=Wt Kt m6
 have tb:=Ye wG Sq m6 te
 have rq:=X2 Tb tb n4
 have rp:=YC (P:=l.prog) (w:=w) (base:=base) S8
 have vf:=Yf (P:=l.prog) (w:=w) (base:=base) nb Sn
 have Ea:=Xm nb Sy vf
 have D9:=Wu (P:=l.prog) (w:=w) (base:=base) Sp
 have Eb:=Xl SD D9
 have xG:=Wk nb Sz Eb rp tc m6
 have xH:=WZ nb S7 rq tb n4
 have lK:=(ho (P:=l.prog) (w:=w) (mg:=mg) (base:=base) ajX fun _ _ G=>U6 T G).1
 have Aw:=(ho (P:=l.prog) (w:=w) (mg:=mg) (base:=base) ajY fun _ _ G=>U5 T G).1
 have EB:=(ho (P:=l.prog) (w:=w) (mg:=mg) (base:=base) ajV fun _ _ G=>T3 T G).1
 have gV:=(lR (P:=l.prog) (w:=w) (mg:=mg) (base:=base) ajU fun _ _ G=>Vo nb T Ij EX EU ER G).1
 have lJ:=(lR (P:=l.prog) (w:=w) (mg:=mg) (base:=base) ajW fun _ _ G=>aae T Ik EY EV ES G).1
 have n9:=ahF.mk (P:=l.prog) (w:=w) (base:=base) sI afQ (kr fun _ _ _ _ _ _ _ _ _=>rfl) fun _ _ G=>YD T G
 have Ad:=Wi nb T.cl Sv gV
 have ta:=XM wG T.cl Sr gV Ad
 have ro:=XJ T.cl Sw gV lK ta
 have n0:=XK nb T.cl Ss gV lJ
 have xF:=WM (N:=302) nb T.cl Su gV lK Aw lJ ro ta vf Ea
 have m7:=XG (P:=l.prog) (w:=w) (base:=base) nb SF
 have n3:=Ze (P:=l.prog) (w:=w) (base:=base) nb S4
 have Ec:=Zg nb HL HP SE n3
 have vm:=YF nb HN S5 Ec
 have e1:vN K m5:=⟨sJ.cl,agf,age⟩
 have EJ:tn K mj:=⟨q8.cl,af4⟩
 have Tw:og K m4:=⟨sH.cl,af8,af7⟩
 have Tu:og K m3:=⟨sC.cl,af3,af2⟩
 have Tv:kI K nX:=⟨sF.cl,af6⟩
 have Tx:kI K nW:=⟨sE.cl,af5⟩
 have hl:kI K nY:=⟨sM.cl,agg⟩
 have vG:=ahL.mk (P:=l.prog) (w:=w) (base:=base) sJ afR (kr fun _ _ _ _ _ _ _ _ _=>rfl) fun _ _ G=>X3 e1 G
 have vC:=ahb.mk (P:=l.prog) (w:=w) (base:=base) q8 afM (c8 fun _ _ _ _ _ _ _ _=>rfl) fun _ _ G=>YG nb HO HK EJ G n3
 have vF:=ahz.mk (P:=l.prog) (w:=w) (base:=base) sH afP (c8 fun _ _ _ _ _ _ _ _=>rfl) fun _ _ G=>YE nb Tw G vm
 have vB:=ag0.mk (P:=l.prog) (w:=w) (base:=base) sC afL (c8 fun _ _ _ _ _ _ _ _=>rfl) fun _ _ G=>YK nb Tu G vm
 have vE:=aho.mk (P:=l.prog) (w:=w) (base:=base) sF afO (c8 fun _ _ _ _ _ _ _ _=>rfl) fun _ _ G=>XA Tv G
 have vD:=ahi.mk (P:=l.prog) (w:=w) (base:=base) sE afN (c8 fun _ _ _ _ _ _ _ _=>rfl) fun _ _ G=>X4 Tx G
 have vH:=ahW.mk (P:=l.prog) (w:=w) (base:=base) sM afS (c8 fun _ _ _ _ _ _ _ _=>rfl) fun _ _ G=>Xj hl G
 obtain⟨c,hc⟩:∃c:dP,c=⟨fun k=>[o6,o7,o8,o5][k],m5,mj,fun k=>[nX,nW,nY][k],fun k=>[m4,m3][k]⟩:=⟨_,rfl⟩
 have abx:c.b 0=o6:=by rw[hc];rfl
 have abA:c.b 1=o7:=by rw[hc];rfl
 have abC:c.b 2=o8:=by rw[hc];rfl
 have abt:c.b 3=o5:=by rw[hc];rfl
 have abz:c.s=m5:=by rw[hc]
 have abu:c.l=mj:=by rw[hc]
 have abw:c.o 0=nX:=by rw[hc];rfl
 have abv:c.o 1=nW:=by rw[hc];rfl
 have abB:c.o 2=nY:=by rw[hc];rfl
 have aby:c.t 0=m4:=by rw[hc];rfl
 have abr:c.t 1=m3:=by rw[hc];rfl
 clear hc
 subst abx
 subst abA
 subst abC
 subst abt
 subst abz
 subst abu
 subst abw
 subst abv
 subst abB
 subst aby
 subst abr
 have EI:AW K c:=⟨e1,EJ,fun k=>by rcases rZ k with rfl|rfl|rfl<;>assumption,fun k=>by rcases wB k with rfl|rfl<;>assumption⟩
 have Tp:ph K c "fits" G8 Hi ["self","value"]:=rM (p:=fun i=>MethAt K (eO c i) "fits" (G8 i) (Hi i) ["self","value"]) (aht.at sG.cl c8) (ahQ.at sL.cl c8) (ah1.at sN.cl c8) (ag5.at sD.cl c8) (ahK.at sJ.cl c8) (aha.at q8.cl c8) (ahn.at sF.cl c8) (ahh.at sE.cl c8) (ahV.at sM.cl c8) (ahy.at sH.cl c8) (agZ.at sC.cl c8)
 have Ts:ph K c "written" F8 Gg ["self","value"]:=rM (p:=fun i=>MethAt K (eO c i) "written" (F8 i) (Gg i) ["self","value"]) (ahw.at sG.cl c8) (ahT.at sL.cl c8) (ah4.at sN.cl c8) (ag8.at sD.cl c8) (ahO.at sJ.cl c8) (ahf.at q8.cl c8) (ahr.at sF.cl c8) (ahl.at sE.cl c8) (ahZ.at sM.cl c8) (ahC.at sH.cl c8) (ag3.at sC.cl c8)
 have To:ph K c "draw" G9 Hj ["self","source"]:=rM (p:=fun i=>MethAt K (eO c i) "draw" (G9 i) (Hj i) ["self","source"]) (ahs.at sG.cl c8) (ahP.at sL.cl c8) (ah0.at sN.cl c8) (ag4.at sD.cl c8) (ahJ.at sJ.cl c8) (ag9.at q8.cl c8) (ahm.at sF.cl c8) (ahg.at sE.cl c8) (ahU.at sM.cl c8) (ahx.at sH.cl c8) (agY.at sC.cl c8)
 have Tr:ph K c "row" (fun _=>"Form.row") (fun _=>kM) ["self","value"]:=rM (p:=fun i=>MethAt K (eO c i) "row" ("Form.row") (kM) ["self","value"]) (ahv.at sG.cl c8) (ahS.at sL.cl c8) (ah3.at sN.cl c8) (ag7.at sD.cl c8) (ahN.at sJ.cl c8) (ahe.at q8.cl c8) (ahq.at sF.cl c8) (ahk.at sE.cl c8) (ahY.at sM.cl c8) (ahB.at sH.cl c8) (ag2.at sC.cl c8)
 have Tq:ph K c "read" (fun _=>"Form.read") (fun _=>kL) ["self","signs","at"]:=rM (p:=fun i=>MethAt K (eO c i) "read" ("Form.read") (kL) ["self","signs","at"]) (ahu.at sG.cl kr) (ahR.at sL.cl kr) (ah2.at sN.cl kr) (ag6.at sD.cl kr) (ahM.at sJ.cl kr) (ahd.at q8.cl kr) (ahp.at sF.cl kr) (ahj.at sE.cl kr) (ahX.at sM.cl kr) (ahA.at sH.cl kr) (ag1.at sC.cl kr)
 have xT:=(ho (P:=l.prog) (w:=w) (mg:=mg) (base:=base) ajT fun _ _ G=>Wy EJ G).1
 have iX:=aay (P:=l.prog) (w:=w) (base:=base) nb EI Tp pP pO m7 Sk n3 xG 8
 have k4:=YX nb EI Ts xT rq n1 n4 rp xH 8
 have m1:=Vy Tr iX k4
 have j0:=aaz (N:=302) (by decide) nb EI To T.cl pP pO gV lK lJ n0 ro xF 8
 have D4:=aax T Tq n9 j0
 have ve:=YQ nb T Ta j0 EW ET EP
 have Ae:=YR S6 n9 ve
 have D8:=YS T.cl So n9 EB ve
 have Ei:=YH (P:=l.prog) (w:=w) (base:=base) nb SW
 have Kl:=X8 (P:=l.prog) (w:=w) (base:=base) nb SU
 have hh:=bD.less Kl fun _ _ _ _ h=>ZU h
 have Ek:=X6 (P:=l.prog) (w:=w) (base:=base) nb SZ
 have vk:=X9 (P:=l.prog) (w:=w) (base:=base) nb SR
 have vl:=XB S0 hh Ek
 have vi:=L1 nb SN hh vk vl 8
 have Ef:=Ya SM hh vi
 have ql:=L0 nb SQ vy w9 vz xa vA xb vx w8 vG vC vF vB vE vD vH 8
 have Af:=YI (P:=l.prog) (w:=w) (base:=base) nb SS
 have td:=XC SY Af
 have vj:=W2 (P:=l.prog) (w:=w) (base:=base) nb SO
 have pa:=LV nb S1 Kl td vj 8
 have vh:=XF (P:=l.prog) (w:=w) (base:=base) SK
 have Ee:=Zf nb SH hh vh
 have Tj:KI mg ⟨qf,eT,eU,eK,qg,qh,qi,qd,qj,qe⟩:=⟨HS,wH,wI,qJ,HT,HU,HV,HQ,HW,HR⟩
 have I5:na K ⟨qf,eT,eU,eK,qg,qh,qi,qd,qj,qe⟩ eK (kQ 3):=⟨J8,_,_,_,_,_,_,_,_,_,_,rfl,ae6,afa,afd,rH ..,ae7,ae8,ae9,ae4,afb,ae5,afc⟩
 have w6:na K ⟨qf,eT,eU,eK,qg,qh,qi,qd,qj,qe⟩ eT (kQ 1):=⟨J9,_,_,_,_,_,_,_,_,_,_,rfl,afh,rH ..,PI,afg,afi,afj,afk,afe,afl,aff,afm⟩
 have q3:na K ⟨qf,eT,eU,eK,qg,qh,qi,qd,qj,qe⟩ eU (kQ 2):=⟨Ka,_,_,_,_,_,_,_,_,_,_,rfl,afq,PJ,rH ..,afp,afr,afs,aft,afn,afu,afo,afv⟩
 have Eg:=XE (P:=l.prog) (w:=w) (base:=base) nb Jb Tj SP
 have wZ:∀b,kf K (aE b) (.ref gr)=J ah:=fun b=>by
  cases b
  .rw[Ij];exact afW
  .rw[Ik];exact afX
 have o9:=Xk l2 xu xv wZ afV SI Ae D8
 subst Ik
 subst Ij
 have gP:∀w,dn K (.ref (aE w)) (.ref eK)=J ag:=fun w=>by cases w<;>assumption
 have l6:∀w,dn K (.ref (aE w)) (.ref (aE ah))=J w:=fun w=>by
  cases w
  .exact PI
  .exact rH ..
 have CD:∀w,dn K (.ref (aE w)) (.ref (aE ag))=J (!w):=fun w=>by
  cases w
  .exact rH ..
  .exact PJ
 have pZ:ni K eK:=⟨J8,O6,agi⟩
 have uP:ni K (aE ag):=⟨J9,O7,agj⟩
 have p0:ni K (aE ah):=⟨Ka,O8,agk⟩
 have Ej:=XD nb l2 xu xv wZ SX D4
 have n2:=X7 nb SV Eg
 have vg:=Yb nb SJ o9 m1 iX
 have El:=X5 nb q3 p0 S2 o9 vg n2
 have Ed:=Yc nb gP (rH ..) l6 qJ wI q3 w6 p0 uP pZ SG Ej n2 m1
 exact T2 nb Ku I5 w6 q3 pZ uP p0 gP (rH ..) CD qJ wH Ei hh Ef ql pa vh Ee o9 Ed n2 vg El m1 iX Ae.akh
theorem walk{l:PySem.W.OpenLaw}{q:c1}{d:DefRec}{K:Params->bN}(bo:l.most=J 63)(yP:d.params.defaults=[])
  (Ia:∀(w:cH)(h:bc),rC w h->(K w.params).In h)
  (F:∀(w:cH)(mg:af->Option ao)(fa:ae)(h:bc),(K w.params).In h->h.Ns eo mg->mg d.name=J (.ref fa)->
   ∃fd:fG,(∀(s:aJ)(u:ao),BindsTo s fd ⟨[u],[]⟩ [("_law_script",u)])/\∀base:bc,(K w.params).In base->base.Ns eo mg->cq l.prog w (K w.params) mg base dv 29 fa fd ["_law_script"] (Dy (K w.params))) :
  PySem.W.WalkO q loose vS rC l.row.toRowW d [] (fun f vs=>PySem.call f vs) :=
 dT.UI (n:=63) (k:=29) (x:="_law_script") (CX:=fun _=>dv) (sp:=fun w=>Dy (K w.params)) bo (by decide) yP ⟨rfl,by decide,by decide⟩ Ia F (fun _ _ a ns aB _ b2=>⟨a,ns,rfl,b2,aB,fun _=>rfl⟩) fun _ _ _ _ _ z=>z
end
end KR
end
open PySem PySem.W PyProof.Rows
set_option maxRecDepth 100000 in
set_option maxHeartbeats 0 in
theorem PySem.Challenge.cw_keyrise_k42_whole_any_signs_holds : PySem.Challenge.rw_keyrise_k42_whole_any_signs.Holds := by
 refine KR.GG.2 ?_
 delta KR.GG
 dsimp only
 k_fill
 refine KR.walk (l:=PySem.Challenge.rw_keyrise_k42_whole_any_signs) rfl rfl (fun w h Y=>PySem.W.kIn_of Y) ?F
 case F =>
  intro w mg fa h KX G hmg
  refine' KR.Xhw KX G hmg ?a0 ?a1 ?a2 ?a3 ?a4 ?a5 ?a6 ?a7 ?a8 ?a9 ?a10 ?a11 ?a12 ?a13 ?a14 ?a15 ?a16 ?a17 ?a18 ?a19 ?a20 ?a21 ?a22 ?a23 ?a24 ?a25 ?a26 ?a27 ?a28 ?a29 ?a30 ?a31 ?a32 ?a33 ?a34 ?a35 ?a36 ?a37 ?a38 ?a39 ?a40 ?a41 ?a42 ?a43 ?a44 ?a45 ?a46 ?a47 ?a48 ?a49 ?a50 ?a51 ?a52 ?a53 ?a54 ?a55 ?a56 ?a57 ?a58 ?a59 ?a60 ?a61 ?a62 ?a63 ?a64 ?a65 ?a66 ?a67 ?a68 ?a69 ?a70 ?a71 ?a72 ?a73 ?a74 ?a75 ?a76 ?a77 ?a78 ?a79 ?a80 ?a81 ?a82 ?a83 ?a84 ?a85 ?a86 ?a87 ?a88 ?a89 ?a90 ?a91 ?a92 ?a93 ?a94 ?a95 ?a96 ?a97 ?a98 ?a99 ?a100 ?a101 ?a102 ?a103 ?a104 ?a105 ?a106 ?a107 ?a108 ?a109 ?a110 ?a111 ?a112 ?a113 ?a114 ?a115 ?a116 ?a117 ?a118 ?a119 ?a120 ?a121 ?a122 ?a123 ?a124 ?a125 ?a126 ?a127 ?a128 ?a129 ?a130 ?a131 ?a132 ?a133 ?a134 ?a135 ?a136 ?a137 ?a138 ?a139 ?a140 ?a141 ?a142 ?a143 ?a144 ?a145 ?a146 ?a147 ?a148 ?a149 ?a150 ?a151 ?a152 ?a153 ?a154 ?a155 ?a156 ?a157 ?a158 ?a159 ?a160 ?a161 ?a162 ?a163 ?a164 ?a165 ?a166 ?a167 ?a168 ?a169 ?a170 ?a171 ?a172 ?a173 ?a174 ?a175 ?a176 ?a177 ?a178 ?a179 ?a180 ?a181 ?a182 ?a183 ?a184 ?a185 ?a186 ?a187 ?a188 ?a189 ?a190 ?a191 ?a192 ?a193 ?a194 ?a195 ?a196 ?a197 ?a198 ?a199 ?a200 ?a201 ?a202 ?a203 ?a204 ?a205 ?a206 ?a207 ?a208 ?a209 ?a210 ?a211 ?a212 ?a213 ?a214 ?a215 ?a216 ?a217 ?a218 ?a219 ?a220 ?a221 ?a222 ?a223 ?a224 ?a225 ?a226 ?a227 ?a228 ?a229 ?a230 ?a231 ?a232 ?a233 ?a234 ?a235 ?a236 ?a237 ?a238 ?a239 ?a240 ?a241 ?a242 ?a243 ?a244 ?a245 ?a246 ?a247 ?a248 ?a249 ?a250 ?a251 ?a252 ?a253 ?a254 ?a255 ?a256 ?a257 ?a258 ?a259 ?a260 ?a261 ?a262 ?a263 ?a264 ?a265 ?a266 ?a267 ?a268 ?a269 ?a270 ?a271 ?a272 ?a273 ?a274 ?a275 ?a276 ?a277 ?a278 ?a279 ?a280 ?a281 ?a282 ?a283 ?a284 ?a285
  (case a0 | a1 | a2 | a3 | a4 | a5 | a6 | a7 | a8 | a9 | a10 | a11=>apply KR.cpMk<;>k_is)
  (case a12 | a13 | a14 | a15 | a16 | a17 | a18 | a19 | a20 | a21 | a22 | a23 | a24 | a25 | a26 | a27=>k_is)
  (case a28 | a29 | a30 | a31 | a32 | a33=>apply KR.mpMk<;>k_is)
  (case a34=>k_is)
  (case a35 | a36 | a37 | a38 | a39=>apply KR.mpMk<;>k_is)
  (case a40=>k_is)
  (case a41 | a42 | a43 | a44 | a45=>apply KR.mpMk<;>k_is)
  (case a46=>k_is)
  (case a47 | a48 | a49 | a50 | a51=>apply KR.mpMk<;>k_is)
  (case a52=>k_is)
  (case a53 | a54 | a55 | a56 | a57=>apply KR.mpMk<;>k_is)
  (case a58 | a59=>k_is)
  (case a60 | a61 | a62 | a63 | a64 | a65=>apply KR.mpMk<;>k_is)
  (case a66=>k_is)
  (case a67 | a68 | a69 | a70 | a71 | a72 | a73=>apply KR.mpMk<;>k_is)
  (case a74=>k_is)
  (case a75 | a76 | a77 | a78 | a79 | a80=>apply KR.mpMk<;>k_is)
  (case a81=>k_is)
  (case a82 | a83 | a84 | a85 | a86 | a87=>apply KR.mpMk<;>k_is)
  (case a88=>k_is)
  (case a89 | a90 | a91 | a92 | a93 | a94=>apply KR.mpMk<;>k_is)
  (case a95 | a96=>k_is)
  (case a97 | a98 | a99 | a100 | a101 | a102=>apply KR.mpMk<;>k_is)
  (case a103 | a104=>k_is)
  (case a105 | a106 | a107 | a108 | a109 | a110=>apply KR.mpMk<;>k_is)
  (case a111 | a112 | a113 | a114 | a115 | a116 | a117 | a118 | a119 | a120 | a121 | a122 | a123 | a124 | a125 | a126 | a127 | a128 | a129 | a130 | a131 | a132 | a133 | a134 | a135 | a136 | a137 | a138 | a139 | a140=>kit_is)
  (case a141 | a142 | a143 | a144 | a145 | a146 | a147 | a148 | a149 | a150 | a151 | a152 | a153 | a154 | a155 | a156 | a157 | a158 | a159 | a160 | a161 | a162 | a163 | a164 | a165 | a166 | a167 | a168 | a169 | a170 | a171 | a172 | a173 | a174 | a175 | a176 | a177 | a178 | a179 | a180 | a181 | a182 | a183=>k_is)
  (case a184 | a185=>kernel_rfl)
  (case a186 | a187 | a188 | a189 | a190 | a191 | a192 | a193 | a194 | a195=>k_is)
  (case a196 | a197=>kernel_rfl)
  (case a198 | a199 | a200 | a201 | a202 | a203 | a204 | a205 | a206 | a207=>k_is)
  (case a208 | a209=>kernel_rfl)
  (case a210 | a211 | a212=>k_is)
  (case a213 | a214 | a215 | a216 | a217 | a218 | a219 | a220 | a221 | a222 | a223 | a224 | a225 | a226 | a227 | a228 | a229 | a230 | a231 | a232 | a233 | a234 | a235 | a236 | a237 | a238 | a239 | a240 | a241 | a242 | a243 | a244 | a245 | a246 | a247 | a248 | a249 | a250 | a251 | a252 | a253 | a254 | a255 | a256 | a257 | a258 | a259 | a260=>apply KR.fpMk<;>k_is)
  (case a261 | a262 | a263 | a264 | a265 | a266 | a267 | a268 | a269 | a270 | a271 | a272 | a273 | a274 | a275 | a276 | a277 | a278 | a279 | a280 | a281 | a282 | a283 | a284 | a285=>k_is)
