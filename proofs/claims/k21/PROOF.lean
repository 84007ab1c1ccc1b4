import PyProof.Rows.All
import Wide.Line
import Wide.Once
import Wide.FinOn
import OpenK.KLine
import OpenK.KOwn
import Open.Pieces
import KE.RegKIsAll
import KE.KIntText
import KE.KFromBytes
import KE.KItem
import KE.KxBytes
import KE.KRevIter
import KE.KUnpack
import KE.KIsAll
import KE.BitLaws
import PyProof.EqAt
import PyProof.EqKinds
import PyProof.TupleCall
import PySem.Challenge.RW_keyrise_k21_fits
set_option Elab.async false
set_option compiler.extract_closed false
set_option linter.all false
section KRGG
namespace PySem.W.Fast
abbrev N:=Nat
def tw4377796739810814904:=N
def tw15420957878489767483:=N
def tw11585820088235539203:=N
def tw12176634488416654693:=N
def tw15221356573953635632:=N
def tw4210279587345264495:=N
def tw7740457478382488547:=N
def tw11375397204414390104:=N
def tw3468280096674682527:=N
def tw4982380842031824420:=N
def tw9752715208664976440:=N
def tw16756160407241000680:=N
def tw15167037725776151354:=N
def tw17527709794185761711:=N
def tw17715639390264956534:=N
def tw2748281033721510175:=N
def tw15632092000759084696:=N
def tw4080867525882056291:=N
def tw1100888106301612729:=N
def tw14176907207384734371:=N
def tw10030045036231790362:=N
def tw12338731306399610732:=N
def tw4491618654965065638:=N
def tw5648489958724953144:=N
def tw15533998144886071929:=N
def tw12582712669163675217:=N
def tw8776824803471081383:=N
def tw16147437075745093082:=N
def tw363084935823045115:=N
def tw15910941506268454745:=N
def tw11862118076589711337:=N
def tw10589895672166167321:=N
def tw17464368548865840442:=N
def tw2767560431810904921:=N
def tw3193033804058433642:=N
def tw10523096160501485240:=N
def tw17410833354666351251:=N
def tw7932079643575695470:=N
def tw15592975627571476468:=N
def tw4662783460083576117:=N
def tw12295976438304774567:=N
def tw9583891939944680207:=N
def tw1626862263513390308:=N
def tw59811380343621150:=N
def tw3967614042749497994:=N
def tw3151220729681740994:=N
def tw6554162301221471647:=N
def tw10459804482560722591:=N
def tw4061077487453956855:=N
def tw17120498824481485391:=N
def tw17364153854445751430:=N
def tw3324397886060182399:=N
def tw13374544680982064503:=N
def tw16484119908903571367:=N
def tw156149520175217139:=N
def tw7284162543557964647:=N
def tw13211948107722105406:=N
def tw2168364763308362422:=N
def tw1134655106439458485:=N
def tw6860461710019951264:=N
def tw17616338392604889931:=N
def tw8388922687962770720:=N
def tw67406586872617160:=N
def tw16952133794870281701:=N
def tw13769963041230472250:=N
def tw3798184086160737800:=N
def tw12039447747258871975:=N
def tw3473390170391611746:=N
def tw4252857034286630899:=N
def tw13876677068707418433:=N
def tw17579133096032489793:=N
def tw15622670680577595694:=N
def tw5619161020702665785:=N
def tw9648316306815926608:=N
def tw13955634912675928384:=N
def tw4576315731270293460:=N
def tw13588645552305048559:=N
def tw10442144552470483292:=N
def tw7318715738153841418:=N
def tw16140187015021976088:=N
def tw12054435875594549233:=N
def tw8581601229135160683:=N
def tw10516400517630954349:=N
def tw5487931154079388545:=N
def tw4641394605618007983:=N
def tw15413663042336620902:=N
def tw3691978746555784895:=N
def tw13993301158048199439:=N
def tw4227695563549641563:=N
def tw5887721364580149307:=N
def tw9538779685996785805:=N
def tw6857345925398412229:=N
def tw8357698792682681021:=N
def tw2339693917918074106:=N
def tw9753993077850775713:=N
def tw6034421294495436054:=N
def tw17945978012991258357:=N
def tw15713461617544865694:=N
def tw18200283393036968579:=N
def tw600094365901446370:=N
def tw15098504102513207355:=N
def tw6686654764211167731:=N
def tw3301051832626021737:=N
def tw5428722359339429757:=N
def tw8122002547685245051:=N
def tw4606617000839895423:=N
def tw1742812687610674024:=N
def tw6500090671323327410:=N
def tw9566490970318289016:=N
def tw17084728044919191291:=N
def tw8276171030340466950:=N
def tw16301991351855385982:=N
def tw11665902751623663616:=N
def tw6098659767726216361:=N
def tw4976572293424302378:=N
def tw4308588477966451417:=N
def tw11897515941300561919:=N
def tw5719801896669120749:=N
def tw7217249279796847936:=N
def tw14641339888127758868:=N
def tw6871276426354219617:=N
def tw9765147763995856214:=N
def tw16838272940492964509:=N
def tw18388189172343605309:=N
def tw816734528976144541:=N
def tw3324379312574851677:=N
def tw7308547379783275242:=N
def tw3719888233041684198:=N
def tw14242560256056461168:=N
def tw5482354944553638106:=N
def tw5522783929872431188:=N
def tw3008913778080488652:=N
def tw6872114993801400214:=N
def tw7285346259865308067:=N
def tw8817192047158859978:=N
def tw4747768754058777414:=N
def tw7123498627849649531:=N
def tw9350186808880309483:=N
def tw9883805332369111915:=N
def tw11133438181240629187:=N
def tw6201339668011388419:=N
def tw2800585891069229834:=N
def tw10513268369172877236:=N
def tw1275257110926951038:=N
def tw15086960929366060980:=N
def tw4409281312679245962:=N
def tw14139846279560748415:=N
def tw1703405274936547888:=N
def tw4970587566243318818:=N
def tw15095628436726586926:=N
def tw13681822730537243968:=N
def tw13580950089111385650:=N
def tw17299388237897513563:=N
def tw12873611715896670451:=N
def tw17850173974805905482:=N
def tw1380846671116394420:=N
def tw3005220699597455267:=N
def tw13662227704465424337:=N
def tw4219902721350324374:=N
def tw5419849810686911744:=N
def tw6552876503142814833:=N
def tw4818913205879617479:=N
def tw4930923093125057211:=N
def tw6035763669239987994:=N
def tw1810377461874654782:=N
def tw14999110250244190938:=N
def tw7641655053804212922:=N
def tw1975577276892351770:=N
def tw10927012228346408387:=N
def tw4351482846669877855:=N
def tw1893180900136571975:=N
def tw6071942007055993045:=N
def tw5475056159660899074:=N
def tw11168179901394604869:=N
def tw16259544666408414002:=N
def tw10778787267180771653:=N
def tw787527674274854660:=N
def tw167458290919640474:=N
def tw13921122628923294719:=N
def tw11517462308131404032:=N
def tw10047506461416862307:=N
def tw9192277505359059759:=N
def tw6337713443890597172:=N
def tw8939485117305501957:=N
def tw2215496166454336605:=N
def tw17250912240178406716:=N
def tw4520213468680950720:=N
def tw14050698129869525258:=N
def tw10158336275623736203:=N
def tw12280679657130569303:=N
def tw9076782597863702263:=N
def tw4186730007351689598:=N
def tw8412283242119140128:=N
def tw8888416945669570296:=N
def tw688874846632351730:=N
def tw10112420771419729407:=N
def tw2338737941685589406:=N
def tw5374606955664723296:=N
def tw15588205095233233077:=N
def tw14078645116044926508:=N
def tw11219020470312370625:=N
def tw592467075874626222:=N
def tw13886555343375192851:=N
def tw17112542740825578585:=N
def tw13307943328657033795:=N
def tw10802145475942141591:=N
def tw1524005133238918559:=N
def tw13283503453711509244:=N
def tw16659497228760137281:=N
def tw9711470040948127819:=N
def tw2578170860629377882:=N
def tw8386617910859450585:=N
def tw18167427246844881695:=N
def tw9597278942339295915:=N
def tw8703407867313422419:=N
def tw16472916588937435213:=N
def tw15923608028967281112:=N
def tw12318685703403614474:=N
def tw14746202844245116054:=N
def tw307999330539363400:=N
def tw16923895863266855850:=N
def tw7878770984980282356:=N
def tw7493996154002994169:=N
def tw1003149137011667297:=N
def tw5174226388960520170:=N
def tw12486050373300252547:=N
def tw8621317247060433837:=N
def tw1182114722231220499:=N
def tw11402974833285460077:=N
def tw9620705151605917508:=N
def tw10753135177541634534:=N
def tw5010497432521878995:=N
def tw9803114728891638789:=N
def tw2718285584478994749:=N
def tw15574360059542611966:=N
def tw13125263547112173446:=N
def tw779942709315496868:=N
def tw6367764892505456789:=N
def tw13520827445979581888:=N
def tw13801227716348152048:=N
def tw11150490072903442251:=N
def tw9579416360768656751:=N
def tw9826546625141217055:=N
def tw14230275996196522006:=N
def tw2972111521326798826:=N
def tw5170958262818132753:=N
def tw5822436449353180372:=N
def tw100798088378390084:=N
def tw12543672211948628030:=N
def tw12266725156936384947:=N
def tw17871124736394266738:=N
def tw15870710386854363096:=N
def tw6397855274030963072:=N
def tw11040889805774676696:=N
def tw3574387170936441329:=N
def tw9460176623380664215:=N
def tw6213527012700526873:=N
def tw8389789286539519038:=N
def tw2230059553479939978:=N
def tw11662415655306234687:=N
def tw5966552685120622305:=N
def tw3004425059709038798:=N
def tw918859620620758905:=N
def tw2755113537372302902:=N
def tw7091010090385736588:=N
def tw8405495039745342860:=N
def tw16711357431634272400:=N
def tw2611257597888772518:=N
def tw1744729047450273221:=N
def tw14410754344454446675:=N
def tw7451852833576886472:=N
def tw5156755168053986824:=N
def tw13032363166590408091:=N
def tw4603138725126698966:=N
def tw5426791105708701701:=N
def tw15669449428810770344:=N
def tw3621199119798838764:=N
def tw8296829768672560329:=N
def tw1952033518263371900:=N
def tw8083762859954685763:=N
def tw15622618165169982945:=N
def tw8069550894762769096:=N
def tw6804708784231499328:=N
def tw16267289327600288432:=N
def tw865383717961641771:=N
def tw8156058656153023530:=N
def tw15427728950514136953:=N
def tw17054272909408094977:=N
def tw14320370996805796159:=N
def tw15038175829335665188:=N
def tw13506178423422554491:=N
def tw13814925961453674011:=N
def tw5301597959401532501:=N
def tw10250282241524925770:=N
def tw17086452943708960654:=N
def tw6182810032598951256:=N
def tw8077606180856153581:=N
def tw7173941513611111938:=N
def tw545694091170230544:=N
def tw12174880794736873308:=N
def tw6338767469802934988:=N
def tw3688482757296409856:=N
def tw15684369583256266333:=N
def tw17736870672931732487:=N
def tw9088653932521492465:=N
def tw14767093692687825724:=N
def tw12508157939111785315:=N
def tw5868471191974999324:=N
def tw17080913723084128808:=N
def tw10598918385338248321:=N
def tw9585503120782033261:=N
def tw18154886300135633729:=N
def tw5423630399285905547:=N
def tw3410883945061593800:=N
def tw9905309056465499203:=N
def tw2339302741944197588:=N
def tw5876046195037782208:=N
def tw4994165712736455737:=N
def tw12819475122750050310:=N
def tw4622184844143317426:=N
def tw4673674355661221612:=N
def tw663874864441383083:=N
def tw14358508515638068354:=N
def tw4790876236763424128:=N
def tw14262057899353484803:=N
def tw3253009079431714487:=N
def tw12556626980593034391:=N
def tw4996744375845929692:=N
def tw4854614600241232282:=N
def tw17679914534594612874:=N
def tw8384627691495929323:=N
def tw17811459885418963503:=N
def tw3004133718110596237:=N
def tw13028857157572905579:=N
def tw4625087306586311813:=N
def tw13341459520901514397:=N
def tw10476848886335871533:=N
def tw5857324816172056594:=N
def tw18198497722935045927:=N
def tw15640997312728440644:=N
def tw8538783234635623263:=N
def tw2615724900306367522:=N
def tw583529700378162008:=N
def tw1339800756775419369:=N
def tw6875064437359988900:=N
def tw9408438521046710718:=N
def tw10651346142352792667:=N
def tw8511000120112713901:=N
def tw17837685765009922398:=N
def tw3657432456943387068:=N
def tw2817057100412788862:=N
def tw5560505710024145231:=N
def tw7846696577272434524:=N
def tw6227144357259257822:=N
def tw3248518227374567338:=N
def tw6047365563440725995:=N
def tw16028206069690098778:=N
def tw13129246335879660292:=N
def tw11027099917682085862:=N
def tw10955000621894857645:=N
def tw11947710737887398020:=N
def tw11374688868214678212:=N
def tw13797597059912455681:=N
def tw14643422397578818263:=N
def tw2810738922951890913:=N
def tw16077111964291814735:=N
def tw17332772269390453123:=N
def tw13129039268555917738:=N
def tw17591334716521158057:=N
def tw11182743537742748127:=N
def tw18294366780566654445:=N
def tw91669134438186925:=N
def tw16648134937706268778:=N
def tw12902971461651080511:=N
def tw15647223806808119926:=N
def tw12680321045046194154:=N
def tw15868514606335890740:=N
def tw17894273356272673395:=N
def tw15527354920134424983:=N
def tw15667407400155148432:=N
def tw320424620841066448:=N
def tw3245945380238426713:=N
def tw9292938760831656154:=N
def tw7522298405516248640:=N
def tw4189817837058066142:=N
def tw7660669157457225853:=N
def tw18210239727384044819:=N
def tw6892704869417354911:=N
def tw5572739267495530028:=N
def tw10953808662954112860:=N
def tw3949414701339205955:=N
def tw10100761419291335208:=N
def tw11702609862152744402:=N
def tw13528607096364979331:=N
def tw5200655645281074041:=N
def tw4361216740525674223:=N
def tw3061525793939889061:=N
def tw17260468763849885766:=N
def tw13544216107996279232:=N
def tw2548765905597629124:=N
def tw6155672485113672935:=N
def tw7078482656081952796:=N
def tw15041709281646791633:=N
def tw16509436510223861176:=N
def tw11464128483427994138:=N
def tw7374328954933208216:=N
def tw7591010384188692707:=N
def tw6797845994565971972:=N
def tw14012168891128000251:=N
def tw9800307579766259036:=N
def tw8243622923282002968:=N
def tw1573561428423211625:=N
def tw12043623347634212221:=N
def tw13588561820411570963:=N
def tw648222273322864865:=N
def tw4999732139247144656:=N
def tw13441299419454870634:=N
def tw10112532522902597213:=N
def tw8890686966309901619:=N
def tw3735632711852036394:=N
def tw8615362643284489445:=N
def tw4857428018390631631:=N
def tw1109581682223159220:=N
def tw8988689811685476287:=N
def tw9437761156204692261:=N
def tw2314970905242281209:=N
def tw904113871397063810:=N
def tw9054662325665689622:=N
def tw7108571479440204893:=N
def tw7263168193567996609:=N
def tw17530066289364983234:=N
def tw399178502347227471:=N
def tw12233575507938454776:=N
def tw464401457136662524:=N
def tw9833077695379936569:=N
def tw1463621254008839983:=N
def tw2456828797039359063:=N
def tw14459743502021417964:=N
def tw5096652759602350242:=N
def tw8753408649774026001:=N
def tw14333587435439405887:=N
def tw9979343769789745053:=N
def tw17078115314212131868:=N
def tw13955121062881812861:=N
def tw17716783065658325425:=N
def tw10278444759952635615:=N
def tw6560831341857405188:=N
def tw2957610391716988187:=N
def tw2906411361143026621:=N
def tw17634687179499029151:=N
def tw18230730500156482402:=N
def tw12046717356344364200:=N
def tw6286770148483206755:=N
def tw11510448295517971925:=N
def tw4929986449012584819:=N
def tw8241414290369838734:=N
def tw2067323549077388404:=N
def tw17538397194584653577:=N
def tw224699819037663685:=N
def tw7448722249883384235:=N
def tw12098942765511562078:=N
def tw6998213161938522900:=N
def tw4326610084274348958:=N
def tw500264313278707665:=N
def tw7550994457270199423:=N
def tw8107812869155963119:=N
def tw14078468628056549199:=N
def tw4143383846426395767:=N
def tw7448958730700202012:=N
def tw12132233692589687852:=N
def tw9188348782090363411:=N
def tw2337358290234106804:=N
def tw17511720933109403388:=N
def tw3420983218328878144:=N
def tw3362710214939488542:=N
def tw13111808831187420105:=N
def tw18373710971657219128:=N
def tw15931482030086905401:=N
def tw8842269932181521606:=N
def tw459511253726657811:=N
def tw9394217582556762757:=N
def tw7069800380616614578:=N
def tw12701133670860617530:=N
def tw4158992602462401241:=N
def tw18021965825034534713:=N
def tw15164148665579101172:=N
def tw12929076898859708914:=N
def tw5964635586218475779:=N
def tw13789403778097080889:=N
def tw15862007220055102708:=N
def tw5497800362559160020:=N
def tw8672561264062896372:=N
def tw18198888816517795396:=N
def tw14294035148547663238:=N
def tw12185258897099281719:=N
def tw3882034941659532078:=N
def tw1815682602482062989:=N
def tw11898332335971079515:=N
def tw14322279581885105354:=N
def tw7743186908624475474:=N
def tw16527489470595277796:=N
def tw16123982690064747684:=N
def tw8047446833730659992:=N
def tw17027689684337937673:=N
def tw12121202963626943655:=N
def tw14518810652206154297:=N
def tw10174590756279268134:=N
def tw16178946059861808372:=N
def tw10133396611602707605:=N
def tw15208580336717222264:=N
def tw5736512806383798623:=N
def tw1824554848002302309:=N
def tw7105366617641684569:=N
def tw17386352565408714812:=N
def tw5560259449715100679:=N
def tw7268284582052399196:=N
def tw15979864177956746166:=N
def tw12472250882228931938:=N
def tw10448524509423960937:=N
def tw4190311713925731062:=N
def tw6509975396172466417:=N
def tw5905286947574413289:=N
def tw5701255106099306050:=N
def tw17619121035282065317:=N
def tw508075586028171355:=N
def tw9582087359850456495:=N
def tw15158552974777916586:=N
def tw10512294984984993137:=N
def tw921317336057122304:=N
def tw6028266773615531204:=N
def tw4479592329572115768:=N
def tw16795871792338483165:=N
def tw4681019145591326456:=N
def tw2828588286600598667:=N
def tw387827332641408909:=N
def tw4320472122146082050:=N
def tw7141624208154999189:=N
def tw15913506877699003418:=N
def tw8330085448033618806:=N
def tw14286331109891190077:=N
def tw18059028215923703730:=N
def tw4469125762781307192:=N
def tw15472867694328970971:=N
def tw5453223609955664266:=N
def tw8906014716154353783:=N
def tw15162926072850965159:=N
def tw4641582201713315045:=N
def tw2680865047131953590:=N
def tw5994684331937527369:=N
def tw9830962003465313867:=N
def tw11541354546285360923:=N
def tw1984902579716283286:=N
def tw8046835009148069343:=N
def tw5997419971334671823:=N
def tw4725929788801361432:=N
def tw1363467034960690244:=N
def tw17760976073967452093:=N
def tw16036781868990451057:=N
def tw2371096712172120119:=N
def tw15844524063230519634:=N
def tw13801390525527750239:=N
def tw12098585196044787596:=N
def tw2247836410817055445:=N
def tw12024721771578041517:=N
def tw9693927262274845679:=N
def tw10686885503460674277:=N
def tw847313969998217118:=N
def tw4916794747413300625:=N
def tw1617080565462713869:=N
def tw5409529122524549651:=N
def tw4716010135325677215:=N
def tw16881965283324733064:=N
def tw7837726169097371360:=N
def tw1481096749480145279:=N
def tw11784968669742351399:=N
def tw1450804371557022064:=N
def tw409204755122330365:=N
def tw7556898640887410492:=N
def tw5659045528833179970:=N
def tw3444120816966035124:=N
def tw10372223938963170680:=N
def tw12897999774961528697:=N
def tw9548098706868647723:=N
def tw11365895800290552305:=N
def tw4891695780009816298:=N
def tw3111434803037931979:=N
def tw11008215195473078809:=N
def tw8162471356493224114:=N
def tw15786042982653418144:=N
def tw6339234522221171901:=N
def tw6113064460759774997:=N
def tw2534874433586660358:=N
def tw5105101979040554145:=N
def tw7346845486541174555:=N
def tw10133578096267568170:=N
def tw9144377942991122172:=N
def tw16404211833539216600:=N
def tw8589798970158192905:=N
def tw15812157963002547977:=N
def tw6815142648354499339:=N
def tw10563427844632195498:=N
def tw10129147000763743623:=N
def tw17717966824309803867:=N
def tw9714933536607092876:=N
def tw5264867637441864490:=N
def tw1505055579107857380:=N
def tw10163691430736294714:=N
def tw12594488240037905245:=N
def tw4756286275375306377:=N
def tw6728589716699561297:=N
def tw14726202185129308621:=N
def tw14604035597513782624:=N
def tw9231317475302567606:=N
def tw12397081740008094995:=N
def tw6771092188161812869:=N
def tw75201182070074883:=N
def tw17278935798399966792:=N
def tw14571174642705885520:=N
def tw15131063527250869514:=N
def tw10583840195713265866:=N
def tw9954726010325826161:=N
def tw6463001881697687860:=N
def tw10881543602385495940:=N
def tw7446499572085334658:=N
def tw182808291194091155:=N
def tw14406599974565239766:=N
def tw14748629417386118103:=N
def tw14933559853624519671:=N
def tw1441722060164921042:=N
def tw16055892861650129573:=N
def tw3811007826317078804:=N
def tw12615686369584142623:=N
def tw17317105283661751559:=N
def tw8912673900658571059:=N
def tw14207206061555126573:=N
def tw7654539787312603059:=N
def tw1280781523901410495:=N
def tw3786836310519754435:=N
def tw9540936698529228801:=N
def tw15413484284285294293:=N
def tw1060067606563671668:=N
def tw576437894364537234:=N
def tw167227094588277130:=N
def tw3559751388021001121:=N
def tw7451914778677147680:=N
def tw2401516932082720151:=N
def tw1327415967910556768:=N
def tw4684317719430989086:=N
def tw5805848659672292634:=N
def tw2590524081261994668:=N
def tw18190185204631001880:=N
def tw5955726635297372163:=N
def tw8158073586244320848:=N
def tw3544379311049912519:=N
def tw15493487831443393472:=N
def tw17982380966025259097:=N
def tw1121331771855970681:=N
def tw7264271350526374916:=N
def tw1969032208239417933:=N
def tw452480869414430431:=N
def tw17850470034659797324:=N
def tw6294919561818538912:=N
end PySem.W.Fast
theorem KR.absorb{G P:Prop}(_ _:G)(m:P):P:=m
open PySem PySem.W PyProof.Rows
set_option maxRecDepth 100000 in
set_option maxHeartbeats 0 in
noncomputable def KR.GG:{G:Prop // G→PySem.Challenge.rw_keyrise_k21_fits.Holds}:=⟨_,fun hG=>by
 refine KR.absorb hG ?hc ?main
 case main =>
  w_on;o_law;k_head
  case hw=>w_witness2
 case hc=>exact hG⟩
end KRGG
section
open Option renaming some → J,none → aw
open PySem renaming Str → af,Addr → ah,Value → al,Shared → aJ,Heap → bb,Obj → bo,Stmt → bG,wpAny → bK,wpAny_bind → bQ,sizeLine → bW,Expr → cq,World → cD,Program → cW,Around → c1,Builtin → dh,starEach → dN,mainGlobals → d3,wpAny_pure → eF,FuncData → hB,compareOp → hC,wpAny_field → iW,NameKind → je,bootBuiltins → jf,binaryOp → jT,wpAny_mono → jU,PassesOwn → lr,codeAny → lu,codeAny_mono → oQ,wpAny_seqItems → qZ,wpAny_Call_Name_kw → sT,wpAny_passesOwn → sU,wpAny_setField → sV,wpAny_setField_rec → vj,keywordEach → xW,wpAny_call → xX,wpAny_truthy_bool → xY,wpAny_getItem_str_slice → A5,codeAny_call_builtin → Gb,wpAny_loadPart_at → abw
open Bool renaming true → au,false → ay
open PySem.W renaming nsIn → e8,kitOne → fD,findIn → gc,emptyDict → l5,instObj → l6,fnOf → nN,keepIn → oO,kia_one → oP,mroIn → vi,makesIn → xV,callWith_K → A2,codeIn → A3,plainGet → A4,hasDictIn → F7,isFn → F8,lookIn → F9,typeIn → Ga
theorem I{α:Sort _}{a:α}:a=a:=rfl
set_option maxHeartbeats 4000000
abbrev bH:=@PySem.W.Frag
abbrev gk:=@Option.some.inj
abbrev fZ:=@PySem.W.mg_of
abbrev jD:=@PySem.W.mg_none_of
abbrev md:=@List.mem_append_right
abbrev Uf:=@Option.map_eq_some_iff
abbrev kk:=@Bool.and_eq_true_iff
abbrev e3:=@Ne.symm
abbrev cV:=@List.getElem?_eq_getElem
abbrev cI:=@List.length_map
abbrev eM:=@List.getD_eq_getElem?_getD
abbrev eo:=@List.mem_cons_of_mem
abbrev dy:=@List.mem_cons
abbrev eU:=@List.length_append
abbrev cQ:=@Nat.le_refl
abbrev ep:=@List.length_cons
abbrev gm:=@List.getElem?_map
abbrev fF:=@PySem.Heap.get?_push_of_some
abbrev eY:=@decide_eq_true
abbrev eV:=@List.size_toArray
abbrev iL:=@List.mem_of_getElem?
abbrev lE:=@List.getElem?_eq_some_iff
abbrev gU:=@List.mem_cons_self
abbrev ez:=@Nat.lt_of_lt_of_le
abbrev fo:=@decide_eq_false
abbrev dp:=@Nat.le_trans
abbrev hq:=@List.mem_singleton
abbrev ie:=@List.map_append
abbrev UF:=@Nat.zero_le
abbrev gZ:=@PySem.Heap.get?_push_size
abbrev rp:=@List.append_assoc
abbrev g0:=@Bool.false_ne_true
abbrev lD:=@of_decide_eq_true
abbrev fR:=@Int.emod_lt_of_pos
abbrev en:=@PySem.Heap.lt_size
abbrev hE:=@Array.length_toList
abbrev jA:=@Bool.and_eq_true
abbrev fp:=@Int.emod_nonneg
abbrev jB:=@List.map_cons
abbrev i1:=@List.length_singleton
abbrev fE:=@Nat.ne_of_lt
abbrev kj:=@List.length_take
abbrev yx:=@List.idxOf_lt_length_of_mem
abbrev i2:=@List.map_map
abbrev UV:=@List.take_of_length_le
abbrev mc:=@decide_eq_true_eq
abbrev m4:=@List.take_add_one
abbrev jC:=@Nat.lt_or_ge
abbrev rq:=@List.length_drop
abbrev kl:=@List.length_range
abbrev i3:=@List.getElem_map
abbrev ig:=@List.all_eq_true
abbrev o4:=@List.flatten_cons
abbrev o5:=@List.map_congr_left
abbrev yz:=@List.getElem?_eq_none
local macro_rules | `(tactic| omega) => `(tactic| first | (with_reducible first | assumption | exact Nat.le_of_succ_le_succ ‹_› | exact Nat.le_of_lt_succ ‹_› | exact Nat.le_of_lt ‹_› | exact Nat.sub_succ_lt_self _ _ ‹_› | exact Nat.succ_le_of_lt ‹_› | exact Nat.lt_of_lt_of_eq ‹_› ‹_› | exact Nat.lt_of_lt_of_eq ‹_› (Eq.symm ‹_›) | exact dp ‹_› (by decide) | exact Nat.add_le_add_right ‹_› _ | exact dp ‹_› ‹_› | exact Nat.lt_trans ‹_› ‹_› | exact Nat.le_add_right .. | exact Nat.le_add_left .. | exact ez ‹_› ‹_› | exact dp (Nat.sub_le ..) ‹_› | exact dp (dp (Nat.min_le_right ..) (Nat.sub_le ..)) ‹_› | exact dp (Nat.min_le_right ..) (Nat.sub_le ..) | exact ez ‹_› (Nat.min_le_right ..) | exact ez ‹_› (Nat.min_le_left ..) | exact Nat.max_le.mpr ⟨dp (Nat.le_max_left ..) ‹_›, ‹_›⟩ | exact (Int.toNat_of_nonneg ‹_›).symm | exact dp (Nat.le_max_right ..) ‹_› | exact Nat.sub_lt_sub_right ‹_› ‹_› | exact Nat.add_sub_of_le ‹_› | exact Nat.le_add_right_of_le ‹_› | exact dp (Nat.le_add_right ..) ‹_› | exact Nat.le_antisymm ‹_› (Nat.not_lt.mp ‹_›) | exact Nat.le_of_eq ‹_› | exact dp ‹_› (Nat.le_max_right ..) | exact Int.ofNat_lt.mpr ‹_› | exact Nat.lt_of_le_of_lt ‹_› (by decide) | exact Int.natCast_nonneg _ | exact dp (Nat.le_of_eq ‹_›) ‹_›) | lia | omega (config := {}))
set_option Elab.async false
set_option linter.all false
set_option maxRecDepth 100000
open PySem
variable {us aW vs:List al} {a it f C:ah} {P prog:cW} {w:cD} {h base:bb} {g':Array GenState} {t' i j k n:Nat} {d':Drawn} {ch bX:List ah} {x m dH:af} {e c ek l iter:cq} {N ns aI:List af} {M:Model} {A:c1} {E Q:al->aJ->Prop} {u doc pm bD ct h2:al} {aR s:aJ} {α:Type} {aX pos':Pos} {aj:List (ah×bo)} {K:bH} {aV:List cq} {body:List bG} {lo:Int} {op:CmpOp} {e6 mg:af->Option al} {expr:Bool} {pl:Sem Bool} {kw:List (af×al)} {env:Env} {fd:hB} {outer:List Env} {sc cX:Scope} {an od:Option ah} {lW:Array (Option al)}
namespace cM
open PySem PySem.Spec PyProof.Rows
noncomputable abbrev Key:=Sum Int af
noncomputable def Kz:Key->al->Bool
 |.inl k,v=>al.isInt k v
 |.inr x,v=>al.isStrOf x v
noncomputable def WZ(w:cD):Key->Int
 |.inl k=>hashInt k
 |.inr x=>hashStr w x
theorem o7:∀{k:Key}{v:al},Kz k v=au->(∃i t,k=Sum.inl i/\v=al.int i t)\/(∃x t,k=Sum.inr x/\v=al.str x t)
 |.inl i,v,h=>by
  obtain⟨t,e⟩:=al.isInt_shape (k:=i) (v:=v) h
  exact .inl ⟨i,t,I,e⟩
 |.inr x,v,h=>by
  obtain⟨t,e⟩:=al.isStrOf_shape (x:=x) (v:=v) h
  exact .inr ⟨x,t,I,e⟩
theorem S8(a b:Int):decide ((Sum.inl a:Key)=Sum.inl b)=(a == b):=by
 by_cases e:a=b
 .subst e;simp
 ·have h:¬(Sum.inl a:Key)=Sum.inl b:=fun q=>e (Sum.inl.inj q)
  rw[fo h]
  exact(beq_eq_false_iff_ne.mpr e).symm
theorem S5(a b:af):decide ((Sum.inr a:Key)=Sum.inr b)=decide (a=b):=by
 by_cases e:a=b
 .subst e;simp
 ·have h:¬(Sum.inr a:Key)=Sum.inr b:=fun q=>e (Sum.inr.inj q)
  rw[fo h,fo e]
theorem S7(a:Int)(b:af):decide ((Sum.inl a:Key)=Sum.inr b)=ay:=fo (fun q=>nomatch q)
theorem S6(a:af)(b:Int):decide ((Sum.inr a:Key)=Sum.inl b)=ay:=fo (fun q=>nomatch q)
noncomputable def KO(prog:cW)(w:cD):PySem.KeyKind prog w Key where
 is:=Kz
 hash:=WZ w
 inj:=fun v a b bz ao=>by
  rcases o7 bz with⟨i,t,rfl,rfl⟩|⟨x,t,rfl,rfl⟩
  ·rcases o7 ao with⟨j,u,rfl,e⟩|⟨y,u,rfl,e⟩
   .injection e with ba _;rw[ba]
   .exact nomatch e
  ·rcases o7 ao with⟨j,u,rfl,e⟩|⟨y,u,rfl,e⟩
   .exact nomatch e
   .injection e with ba _;rw[ba]
 byValue:=fun k v h=>by
  rcases o7 h with⟨i,t,rfl,rfl⟩|⟨x,t,rfl,rfl⟩<;>rfl
 pyHash:=fun bS h=>by
  rcases o7 bS with⟨i,t,rfl,rfl⟩|⟨x,t,rfl,rfl⟩
  .exact wpAny_pyHash_int h
  .exact wpAny_pyHash_str h
 eqBool:=fun dZ bS h=>by
  rcases o7 dZ with⟨i,t,rfl,rfl⟩|⟨x,t,rfl,rfl⟩
  ·rcases o7 bS with⟨j,u,rfl,rfl⟩|⟨y,u,rfl,rfl⟩
   .rw[S8]at h;exact wpAny_eqBool_int h
   .rw[S7]at h;exact SeqAt.EqAt.int_str i t y u _ _ _ _ h
  ·rcases o7 bS with⟨j,u,rfl,rfl⟩|⟨y,u,rfl,rfl⟩
   .rw[S6]at h;exact SeqAt.EqAt.str_int x t j u _ _ _ _ h
   .rw[S5]at h;exact wpAny_eqBool_str h
 «strs» := fun k x t v h=>by
  rcases o7 h with⟨i,u,rfl,e⟩|⟨y,u,rfl,e⟩
  .exact nomatch e
  ·injection e with ba _
   subst ba
   cases v<;>rfl
inductive V where
 |aK|aC (b:Bool)|int (i:Int)|str (x:af)|j1 (b:Array UInt8)|rN (b:UInt64)|ref (a:ah)|ty (n:String)
 deriving DecidableEq
noncomputable def RelV:V->al->Prop
 |.aK,u=>u=al.none
 |.aC b,u=>u=al.bool b
 |.int i,u=>∃t,u=al.int i t
 |.str x,u=>∃t,u=al.str x t
 |.j1 b,u=>∃t,u=al.bytes b t
 |.rN b,u=>∃t,u=al.float b t
 |.ref a,u=>u=al.ref a
 |.ty n,u=>u=al.type n
noncomputable abbrev Vals:List V->List al->Prop:=Paired RelV
theorem Vals.length{xs:List V}(r:Vals xs us):xs.length=us.length:=Paired.length r
theorem Vals.get:∀{xs:List V}{us:List al}{i:Nat}{x:V},Vals xs us->xs[i]?=J x->∃u,us[i]?=J u/\RelV x u
 |_,_,_,_,.nil,e=>by simp at e
 |_,_,0,_,.cons r _,e=>by simp at e;subst e;exact⟨_,I,r⟩
 |_,_,i+1,x,.cons _ t,e=>by
  obtain⟨u,aq,az⟩:=Vals.get (i:=i) (x:=x) t (by simpa using e)
  exact⟨u,by simpa using aq,az⟩
theorem Vals.set{x:V}{u:al}(r:RelV x u):∀{xs:List V}{us:List al}(i:Nat),Vals xs us->Vals (xs.set i x) (us.set i u)
 |_,_,_,.nil =>.nil
 |_,_,0,.cons _ t =>.cons r t
 |_,_,i+1,.cons q t =>.cons q (Vals.set r i t)
theorem Vals.append:∀{xs aM:List V}{us ws:List al},Vals xs us->Vals aM ws->Vals (xs++aM) (us++ws)
 |_,_,_,_,.nil,s=>s
 |_,_,_,_,.cons r t,s =>.cons r (Vals.append t s)
theorem Vals.take:∀{xs:List V}{us:List al}(n:Nat),Vals xs us->Vals (xs.take n) (us.take n)
 |_,_,0,_ =>.nil
 |_,_,_+1,.nil =>.nil
 |_,_,n+1,.cons r t =>.cons r (Vals.take n t)
theorem Vals.drop:∀{xs:List V}{us:List al}(n:Nat),Vals xs us->Vals (xs.drop n) (us.drop n)
 |_,_,0,r=>r
 |_,_,_+1,.nil =>.nil
 |_,_,n+1,.cons _ t=>Vals.drop n t
noncomputable def nV:Option V->Option al->Prop
 |some v,J u=>RelV v u
 |none,aw=>True
 |_,_=>False
noncomputable def Bw{sR:Type}:List (sR×V)->List (sR×al)->Prop:=Paired fun(p:sR×V)(q:sR×al)=>p.1=q.1/\RelV p.2 q.2
noncomputable def gq:Key->V
 |.inl i =>.int i
 |.inr x =>.str x
inductive dC where
  |lst (xs:List V)
  |tup (xs:List V)
  |lH (fB:List (Key×V))|ob (fB:List (List Key×V))
  |set (S:Int->Bool) (n:Nat)
  |ins (C aG:ah) (fs:List (af×V))
  |own (x:ah)
  |jS (fs:List (af×V))
  |met (f x:ah)
  |xx (lo aE:Int)
  |iO (o:bo) (u:dC)
  |p0 (aI:Array al)
  |ext (sS:bb->Prop)
noncomputable abbrev ar:=ah->Option dC
noncomputable def upd(H:ar)(a:ah)(o:dC):ar:=fun b=>if b=a then J o else H b
variable {H:ar}
theorem aP{o:dC}:upd H a o a=J o:=by unfold upd;rw[if_pos rfl]
theorem cn{b:ah}{o:dC}(h:b≠a):upd H a o b=H b:=by unfold upd;rw[if_neg h]
theorem gv{b:ah}{o:dC}(h:H a=J o)(h':H b=aw):a≠b:=by
 intro e;subst e;rw[h]at h';cases h'
section
variable (P:cW) (w:cD)
noncomputable def gY(H:ar)(h:bb)(a:ah):dC->Prop
 |.lst xs=>xs.length<=bW/\∃(aW:List al)(n:Nat),Vals xs aW/\h.get? a=J {cls :=.type "list",data :=.seq aW.toArray n}
 |.tup xs=>xs.length<=bW/\∃aW:List al,Vals xs aW/\IsTup h a aW.toArray
 |.lH fB=>fB.length<=bW/\(a == sysModules)=ay/\∃vs,Bw fB vs/\h.DictOf (KO P w) a vs
 |.ob _=>False
 |.set S n=>h.SetOf (intKind P w) a S n
 | .ins C aG fs=>H aG=J (.own a)/\fs.length<=1000/\aG≠a/\h.get? a=J (l6 C aG)/\
   ∃e6,h.Ns1 aG e6/\(∀f,nV (fs.lookup f) (e6 f))/\PySem.Within e6 (fs.map (·.1))
 |.own _=>∃o,h.get? a=J o
 |.jS fs=>∃e6,h.Ns1 a e6/\∀f,nV (fs.lookup f) (e6 f)
 |.xx lo aE=>∃t u v,h.get? a=J {cls :=.type "range",data :=.fields #[.int lo t,.int aE u,.int 1 v]}
 |.iO o u=>h.get? a=J o/\gY H h a u
 |.p0 aI=>h.get? a=J {cls :=.none,data :=.fields aI}
 |.met f x=>h.get? a=J (PySem.W.methodObj (.ref f) (.ref x))
 |.ext sS=>sS h/\(∃o,h.get? a=J o)/\∀aq az:bb,sS aq->(∀o,aq.get? a=J o->az.get? a=J o)->sS az
def fg(H:ar)(h:bb):Prop:=∀a o,H a=J o->gY P w H h a o
end
section
variable {P:cW} {w:cD} {H ai:ar} {h h':bb} {a:ah} {o:dC}
theorem gY.lt(x:gY P w H h a o):a<h.objs.size:=by
 cases o with
 |lst xs=>obtain⟨_,_,_,_,e⟩:=x;exact en e
 |tup xs=>obtain⟨_,_,_,p⟩:=x;exact p.lt
 |lH fB=>obtain⟨_,_,_,_,o,_,_,e,_⟩:=x;exact en e
 |ob fB=>exact(show False from x).elim
 |set S n=>obtain⟨o,_,_,_,e,_⟩:=x;exact en e
 |ins C aG fs=>obtain⟨_,_,_,e,_⟩:=x;exact en e
 |own y=>obtain⟨_,e⟩:=x;exact en e
 |jS fs=>obtain⟨_,⟨_,_,_,e,_⟩,_⟩:=x;exact en e
 |xx lo aE=>obtain⟨_,_,_,e⟩:=x;exact en e
 |iO dD u=>obtain⟨e,_⟩:=x;exact en e
 |p0 aI=>exact en (show h.get? a=J _ from x)
 |met f y=>exact en (show h.get? a=J _ from x)
 |ext sS=>obtain⟨_,⟨_,e⟩,_⟩:=x;exact en e
theorem gY.nG(x:gY P w H h a o)(k:∀b u,(b=a\/H b=J (.own a))->h.get? b=J u->h'.get? b=J u)
  (aD:∀b,H b=J (.own a)->ai b=J (.own a)) (aO:∀b xs,H b=J (.tup xs)->ai b=J (.tup xs)):gY P w ai h' a o:=by
 induction o with
 |lst xs=>obtain⟨z,aW,n,r,e⟩:=x;exact⟨z,aW,n,r,k _ _ (.inl I) e⟩
 |tup xs=>obtain⟨z,aW,r,dD,e,c⟩:=x;exact⟨z,aW,r,dD,k _ _ (.inl I) e,c⟩
 |lH fB=>obtain⟨z,y,vs,r,dD,aV,fK,e,c⟩:=x;exact⟨z,y,vs,r,dD,aV,fK,k _ _ (.inl I) e,c⟩
 |ob fB=>exact(show False from x).elim
 |set S n=>obtain⟨dD,aV,fK,t,e,c⟩:=x;exact⟨dD,aV,fK,t,k _ _ (.inl I) e,c⟩
 |ins C aG fs =>
  obtain⟨d,z,ne,e,e6,⟨od,aV,fK,bg,c⟩,r⟩:=x
  exact⟨aD _ d,z,ne,k _ _ (.inl I) e,e6,⟨od,aV,fK,k _ _ (.inr d) bg,c⟩,r⟩
 |own y=>obtain⟨dD,e⟩:=x;exact⟨dD,k _ _ (.inl I) e⟩
 |jS fs=>obtain⟨e6,⟨od,aV,fK,e,c⟩,r⟩:=x;exact⟨e6,⟨od,aV,fK,k _ _ (.inl I) e,c⟩,r⟩
 |xx lo aE=>obtain⟨t,u,v,e⟩:=x;exact⟨t,u,v,k _ _ (.inl I) e⟩
 |iO dD u cp=>obtain⟨e,q⟩:=x;exact⟨k _ _ (.inl I) e,cp q⟩
 |p0 aI =>
  have e:h.get? a=J {cls :=.none,data :=.fields aI}:=x
  show h'.get? a=J {cls :=.none,data :=.fields aI}
  exact k a _ (.inl I) e
 |met f y =>
  have e:h.get? a=J (PySem.W.methodObj (.ref f) (.ref y)):=x
  show h'.get? a=J (PySem.W.methodObj (.ref f) (.ref y))
  exact k a _ (.inl I) e
 |ext sS=>obtain⟨p,⟨o,e⟩,st⟩:=x;exact⟨st _ _ p fun o q=>k _ _ (.inl I) q,⟨o,k _ _ (.inl I) e⟩,st⟩
theorem fg.lt(x:fg P w H h)(e:H a=J o):a<h.objs.size:=(x a o e).lt
theorem fg.fresh(x:fg P w H h)(e:h.objs.size<=a):H a=aw:=by
 cases q:H a with
 |none=>rfl
 |some u=>exact absurd (ez (x.lt q) e) (Nat.lt_irrefl _)
theorem fg.kept(x:fg P w H h)(k:∀b u,h.get? b=J u->h'.get? b=J u):fg P w H h':=fun a o e =>
 (x a o e).nG (fun b u _ q=>k b u q) (fun _ q=>q) fun _ _ q=>q
theorem fg.laid(x:fg P w H h)(k:∀b u,h.get? b=J u->h'.get? b=J u)(bh:h.objs.size<=a)(new:gY P w (upd H a o) h' a o):fg P w (upd H a o) h':=fun b u e=>by
 have bf:=x.fresh bh
 by_cases ao:b=a
 .subst ao;rw[aP]at e;cases e;exact new
 ·rw[cn ao]at e
  exact(x b u e).nG (fun c v _ q=>k c v q) (fun c q=>by rw[cn (gv q bf)];exact q) fun c xs q=>by rw[cn (gv q bf)];exact q
end
def yu(H:ar)(a:ah)(u:dC):Prop:=H a=J u\/∃o,H a=J (.iO o u)
theorem yu.ok{u:dC}(r:yu H a u)(x:fg P w H h):gY P w H h a u:=by
 rcases r with r|⟨o,r⟩
 .exact x a u r
 ·obtain⟨_,q⟩:=x a _ r
  exact q
noncomputable def yn:Option dC->Prop
 |some (.lst _)=>True
 |some (.lH _)=>True
 |some (.ob _)=>True
 |some (.set _ _)=>True
 |some (.ins _ _ _)=>True
 |some (.ext _)=>True
 |_=>False
section
variable {P:cW} {w:cD} {H:ar} {h h':bb} {x e:ah} {eh:dC}
theorem fg.write(ok:fg P w H h)(mA:yn (H x))(he:e=x\/H e=J (.own x))(k:∀b u,b≠e->h.get? b=J u->h'.get? b=J u)(uv:∃u,h'.get? e=J u)
  (new:gY P w (upd H x eh) h' x eh):fg P w (upd H x eh) h':=fun b u q=>by
 have K2:∀c y,H c=J (.own y)->c≠x:=fun c y r z=>by subst z;rw[r]at mA;exact mA
 have XW:∀c xs,H c=J (.tup xs)->c≠x:=fun c xs r z=>by subst z;rw[r]at mA;exact mA
 by_cases ao:b=x
 .subst ao;rw[aP]at q;cases q;exact new
 ·rw[cn ao]at q
  by_cases lM:b=e
  ·have fw:H b=J (.own x):=by
    rcases he with z|z
    .exact absurd (lM.trans z) ao
    .rw[lM];exact z
   rw[q]at fw;cases fw
   obtain⟨v,bS⟩:=uv
   exact⟨v,by rw[lM];exact bS⟩
  ·refine(ok b u q).nG (fun c v hc r=>k c v ?_ r) (fun c r=>by rw[cn (K2 c b r)];exact r) fun c xs r=>by rw[cn (XW c xs r)];exact r
   rcases hc with rfl|hc
   .exact lM
   ·rintro rfl
    rcases he with z|z
    .exact K2 c b hc z
    .rw[hc]at z;cases z;exact ao I
end
structure fy(fs ex:List ah)(H ai:ar)(h h':bb):Prop where
 keep:∀b o,h.get? b=J o->H b=aw->b∉fs->b∉ex->h'.get? b=J o
 slot:∀b o,h.get? b=J o->H b=aw->b∈fs->b∉ex->∃dB,h'.get? b=J {o with slots:=dB}
 free:∀b o,h.get? b=J o->H b=aw->b∉ex->ai b=aw
 there:∀b o,h.get? b=J o->b∉ex->∃eh,h'.get? b=J eh
 lq:∀b xs,H b=J (.tup xs)->ai b=J (.tup xs)
 kq:∀b o u,H b=J (.iO o u)->ai b=J (.iO o u)
 lp:∀b aI,H b=J (.p0 aI)->∃more,ai b=J (.p0 (aI++more))
section
variable {fs Uz ex qv:List ah} {H H1 ax:ar} {h aq az h':bb} {a x e:ah} {o:dC}
theorem fy.any(u:fy fs ex H H1 h aq){b:ah}{dD:bo}(q:h.get? b=J dD)(n:H b=aw)(av:b∉ex):∃dB,aq.get? b=J {dD with slots:=dB}:=by
 by_cases ao:b∈fs
 .exact u.slot b dD q n ao av
 .exact⟨dD.slots,u.keep b dD q n ao av⟩
theorem fy.kept(k:∀b u,h.get? b=J u->h'.get? b=J u):fy fs ex H H h h' :=
 ⟨fun b dD q _ _ _=>k b dD q,fun b dD q _ _ _=>⟨dD.slots,k b dD q⟩,fun _ _ _ n _=>n,fun b dD q _=>⟨dD,k b dD q⟩,fun _ _ q=>q,fun _ _ _ q=>q,fun _ aI q=>⟨#[],by rw[q];simp⟩⟩
theorem fy.refl:fy fs ex H H h h:=fy.kept fun _ _ q=>q
theorem fy.laid(k:∀b u,h.get? b=J u->h'.get? b=J u)(bh:h.objs.size<=a)(bf:H a=aw):fy fs ex H (upd H a o) h h' where
 keep:=fun b u q _ _ _=>k b u q
 slot:=fun b u q _ _ _=>⟨u.slots,k b u q⟩
 free:=fun b u q n _=>by rw[cn (fE (ez (en q) bh))];exact n
 there:=fun b u q _=>⟨u,k b u q⟩
 lq:=fun b xs q=>by rw[cn (gv q bf)];exact q
 kq:=fun b u xs q=>by rw[cn (gv q bf)];exact q
 lp:=fun b aI q=>⟨#[],by rw[cn (gv q bf),q];simp⟩
theorem fy.write(mA:yn (H x))(he:e=x\/H e=J (.own x))(k:∀b u,b≠e->h.get? b=J u->h'.get? b=J u)(uv:∃u,h'.get? e=J u):fy fs ex H (upd H x o) h h':=by
 have av:∀b,H b=aw->b≠x:=fun b n z=>by subst z;rw[n]at mA;exact mA
 have ao:∀b,H b=aw->b≠e:=fun b n z=>by
  subst z
  rcases he with r|r
  .exact av b n r
  .rw[n]at r;cases r
 have hm:∀b u,H b=J u->¬yn (J u)->b≠x:=fun b u q nm z=>by subst z;rw[q]at mA;exact nm mA
 refine⟨fun b u q n _ _=>k b u (ao b n) q,fun b u q n _ _=>⟨u.slots,k b u (ao b n) q⟩,fun b u q n _=>by rw[cn (av b n)];exact n,fun b u q _=>?_,
  fun b xs q=>by rw[cn (hm b _ q fun z=>z)];exact q,fun b u xs q=>by rw[cn (hm b _ q fun z=>z)];exact q,fun b aI q=>⟨#[],by rw[cn (hm b _ q fun z=>z),q];simp⟩⟩
 by_cases lM:b=e
 .subst lM;exact uv
 .exact⟨u,k b u lM q⟩
end
noncomputable def AP(h:bb)(H:ar):List ah:=(List.range h.objs.size).filter fun a=>(H a).isSome
noncomputable def pF(h:bb)(H:ar):bb:=PySem.W.hideAll h (AP h H)
theorem Q2(h:bb)(H:ar):(pF h H).objs.size=h.objs.size:=PySem.W.hideAll_size _ _
variable {o:bo}
theorem RE{b:ah}(e:h.get? b=J o)(n:H b=aw):(pF h H).get? b=J o :=
 PySem.W.hideAll_get _ e fun hm=>by
  have q:(H b).isSome=au:=(List.mem_filter.mp hm).2
  rw[n]at q;simp at q
theorem Sl{b:ah}(e:(pF h H).get? b=J o):h.get? b=J o/\H b=aw:=by
 have cR:h.get? b=J o:=PySem.W.of_hideAll (AP h H) e
 refine⟨cR,?_⟩
 cases q:H b with
 |none=>rfl
 |some x =>
  have hm:b∈AP h H:=List.mem_filter.mpr ⟨List.mem_range.mpr (en cR),by simp[q]⟩
  have z:(pF h H).get? b=aw:=PySem.W.hideAll_none (AP h H) hm
  rw[z]at e;cases e
noncomputable def TL(g h:bb)(L:ah):List (ah×bo):=(List.range h.objs.size).filterMap fun a=>if a=L\/(g.get? a).isSome=au then aw else(h.get? a).map fun o=>(a,o)
noncomputable def rest(g h:bb)(L d:ah):List (ah×bo):=(TL g h L).filter fun p=>decide (p.1≠d)
structure Mod(K:bH)(mg:af->Option al)(base:bb):Prop where
 qH:K.In base
 glob:base.Ns d3 mg
 blt:∃mz,base.Ns builtinsNs mz/\∀x:af,x≠"__name__"->mz x=jf x
 nolimit:base.NoLimit
structure bj where
 prog:cW
 w:cD
 K:bH
 mg:af->Option al
 base:bb
 A:c1
 N:List af
 dq:aJ
 iu:ar
 env:Env
 outer:List Env
 stack:List Env
 ex:List ah
 fn:af->Bool
 calm:Bool
 pn:List (ah×bo)
 xe:al->aJ->Prop
noncomputable def ij(l:List Env):List ah:=l.filterMap (·.frame)
noncomputable abbrev bj.fs(X:bj):List ah:=ij X.outer
def yA(sc:Scope)(x:af):Prop:=sc.names.lookup x=J .local\/sc.names.lookup x=J .cell\/sc.names.lookup x=J .free
def Loc(sc:Scope)(x:af):Prop:=sc.names.lookup x=J .local\/sc.names.lookup x=J .cell
def Look(env:Env)(h:bb)(m:af->Option al)(x:af)(u:al):Prop :=
 (env.kindOf x=J .local/\m x=J u)\/((env.kindOf x=J .cell\/env.kindOf x=J .free)/\∃c,env.cells.lookup x=J c/\h.IsCell c (J u))
structure bj.Ok(X:bj):Prop where
 mod:Mod X.K X.mg X.base
 kind:X.env.scope.kind=.function
 glob:X.env.globals=d3
 blt:X.env.builtins=builtinsNs
 above:X.dq.heap.objs.size<=X.env.locals
 inj:∀x y c,X.env.cells.lookup x=J c->X.env.cells.lookup y=J c->x=y
 has:∀x,(X.env.kindOf x=J .cell\/X.env.kindOf x=J .free)->∃c,X.env.cells.lookup x=J c
 rG:∀x c,X.fn x=au->X.env.cells.lookup x=J c->X.dq.heap.objs.size<=c
 hd:X.calm=au->X.A.handled=aw
 frames:X.A.frames=J X.stack
 u1:X.stack=X.outer\/(X.stack=X.env::X.outer/\X.env.frame=J X.env.locals)
 zA:∀b∈X.ex,b≠X.env.locals/\∀x c,X.env.cells.lookup x=J c->c≠b
 bs:∀b o,X.base.get? b=J o->X.dq.heap.get? b=J o/\X.iu b=aw
 na:X.base.objs.size<=X.dq.heap.objs.size
 sl:∀b o,X.base.get? b=J o->b∉X.ex
 ud:∀b∈X.ex,b∉X.fs
 kS:X.dq.heap.FunFrames X.base X.outer
 pv:∀b∈X.fs,X.iu b=aw
structure Inv(X:bj)(aj:List (ah×bo))(ae:List (Option V))(H:ar)(s:aJ):Prop where
 ok:X.Ok
 os:s.os=X.dq.os
 bare:AllBare s.gens
 base:fy X.fs X.ex X.iu H X.dq.heap s.heap
 loc:∃m,s.heap.Ns X.env.locals m/\∀(i:Nat)(x:af)(v:V),X.N[i]?=J x->ae[i]?=J (J v)->yA X.env.scope x->∃u,RelV v u/\Look X.env s.heap m x u
 cell:∀x c,X.env.cells.lookup x=J c->∃v,s.heap.IsCell c v
 free:H X.env.locals=aw
 j4:∀x c,X.env.cells.lookup x=J c->H c=aw
 pin:∀p∈X.pn++aj,s.heap.get? p.1=J p.2/\H p.1=aw/\p.1≠X.env.locals/\p.1∉X.fs/\∀v,p.2.data≠.cell v
 aU:fg X.prog X.w H s.heap
 len:ae.length=X.N.length
variable {Q:Unit->aJ->Prop}
section
variable {X:bj} {aj:List (ah×bo)} {ae:List (Option V)} {H ai:ar} {s:aJ} {h':bb}
theorem bj.Ok.XP(ok:X.Ok){b:ah}(e:X.base.get? b=J o):b∉X.fs:=fun ao=>by
 have:=(ok.kS.mem ao).1
 rw[e]at this;cases this
theorem Inv.bs(aa:Inv X aj ae H s):∀b o,X.base.get? b=J o->s.heap.get? b=J o/\H b=aw:=fun b o e =>
 ⟨aa.base.keep b o (aa.ok.bs b o e).1 (aa.ok.bs b o e).2 (aa.ok.XP e) (aa.ok.sl b o e),aa.base.free b o (aa.ok.bs b o e).1 (aa.ok.bs b o e).2 (aa.ok.sl b o e)⟩
theorem Inv.bk(aa:Inv X aj ae H s):∀b o,X.base.get? b=J o->s.heap.get? b=J o:=fun b o e=>(aa.bs b o e).1
theorem Inv.mod(aa:Inv X aj ae H s):Mod X.K X.mg X.base:=aa.ok.mod
theorem Inv.gp(aa:Inv X aj ae H s):X.K.In s.heap:=aa.ok.mod.qH.keeps aa.bk
theorem Inv.lt(aa:Inv X aj ae H s):X.env.locals<s.heap.objs.size:=let ⟨_,bf,_⟩:=aa.loc;bf.lt
theorem Inv.cS(aa:Inv X aj ae H s):X.dq.heap.objs.size<=s.heap.objs.size:=dp aa.ok.above (Nat.le_of_lt aa.lt)
theorem Inv.XR(aa:Inv X aj ae H s)(h:s.heap.objs.size<=a):a∉X.fs:=fun ao=>by
 obtain⟨_,o,aD,_⟩:=aa.ok.kS.mem ao
 exact absurd (ez (en aD) (dp aa.cS h)) (Nat.lt_irrefl _)
theorem Inv.ph(aa:Inv X aj ae H s):∀x c,X.env.cells.lookup x=J c->c≠X.env.locals:=fun x c e z=>by
 obtain⟨v,o,aD,hd⟩:=aa.cell x c e
 obtain⟨m,⟨eh,aV,fK,nt,j6,_⟩,_⟩:=aa.loc
 rw[z,nt]at aD;cases aD;rw[j6]at hd;cases hd
theorem Inv.kS(aa:Inv X aj ae H s):s.heap.FunFrames X.base X.outer:=by
 have all:∀(l:List Env),(∀b∈ij l,b∈X.fs)->X.dq.heap.FunFrames X.base l->s.heap.FunFrames X.base l:=by
  intro l
  induction l with
  |nil=>intro _ _;trivial
  |cons env r cp =>
   intro hs aH
   obtain⟨hk,⟨L,o,aQ,bf,aD,hd⟩,aF⟩:=aH
   have hn:L∈X.fs:=hs L (by unfold ij;rw[List.filterMap_cons,aQ];exact gU)
   obtain⟨dB,e⟩:=aa.base.slot L o aD (aa.ok.pv L hn) hn fun z=>aa.ok.ud L z hn
   exact⟨hk,⟨L,_,aQ,bf,e,hd⟩,cp (fun b ao=>hs b (by unfold ij;rw[List.filterMap_cons,aQ];exact eo _ ao)) aF⟩
 exact all X.outer (fun _ ao=>ao) aa.ok.kS
theorem Inv.stack(aa:Inv X aj ae H s):s.heap.FunFrames X.base X.stack:=by
 rcases aa.ok.u1 with e|⟨e,aQ⟩
 .rw[e];exact aa.kS
 ·rw[e]
  obtain⟨m,bf,_⟩:=aa.loc
  refine .cons (by rw[aa.ok.kind];decide) aQ bf ?_ aa.kS
  exact bb.get?_none_of_le (dp aa.ok.na aa.ok.above)
theorem Inv.qS(aa:Inv X aj ae H s):∀b∈ij X.stack,b∈X.env.locals::X.fs:=fun b ao=>by
 rcases aa.ok.u1 with e|⟨e,aQ⟩
 .rw[e]at ao;exact eo _ ao
 ·rw[e]at ao
  unfold ij at ao
  rw[List.filterMap_cons,aQ]at ao
  exact ao
theorem Inv.xM(aa:Inv X aj ae H s):∀b∈ij X.stack,H b=aw:=fun b ao=>by
 rcases dy.mp (aa.qS b ao)with e|ao
 .rw[e];exact aa.free
 ·obtain⟨_,o,aD,_⟩:=aa.ok.kS.mem ao
  exact aa.base.free b o aD (aa.ok.pv b ao) fun z=>aa.ok.ud b z ao
theorem Inv.step(aa:Inv X aj ae H s)
  (mr:∀b∈ch,(b∈X.ex\/X.dq.heap.objs.size<=b)/\b≠X.env.locals/\(∀x c,X.env.cells.lookup x=J c->c≠b)/\∀p∈X.pn++aj,p.1≠b)
  (keep:∀b o,b≠X.env.locals->b∉X.fs->b∉ch->s.heap.get? b=J o->H b=aw->h'.get? b=J o)
  (slot:∀b o,b≠X.env.locals->b∈X.fs->b∉ch->s.heap.get? b=J o->H b=aw->∃dB,h'.get? b=J {o with slots:=dB}) (free:∀b o,b∉ch->s.heap.get? b=J o->H b=aw->ai b=aw)
  (there:∀b o,b∉ch->s.heap.get? b=J o->∃eh,h'.get? b=J eh)
  (lq:∀b xs,H b=J (.tup xs)->ai b=J (.tup xs)) (kq:∀b o u,H b=J (.iO o u)->ai b=J (.iO o u)) (lp:∀b aI,H b=J (.p0 aI)->∃more,ai b=J (.p0 (aI++more)))
  (ns:∀m,s.heap.Ns X.env.locals m->h'.Ns X.env.locals m) (aU:fg X.prog X.w ai h') (aN:AllBare g') :
  Inv X aj ae ai {s with heap:=h',gens:=g',drawn:=d',toks:=t'}:=by
 have qM:∀b o,X.dq.heap.get? b=J o->b≠X.env.locals:=fun b o e=>fE (ez (en e) aa.ok.above)
 have Ae:∀b o,X.dq.heap.get? b=J o->b∉X.ex->b∉ch:=fun b o e av ao=>by
  rcases(mr b ao).1 with z|z
  .exact av z
  .exact absurd (ez (en e) z) (Nat.lt_irrefl _)
 have cellK:∀x c,X.env.cells.lookup x=J c->∀v,s.heap.IsCell c v->h'.IsCell c v:=fun x c e v ⟨o,aD,hd⟩=>by
  have nA:c∉ch:=fun z=>(mr c z).2.2.1 x c e rfl
  by_cases hc:c∈X.fs
  ·obtain⟨dB,q⟩:=slot c o (aa.ph x c e) hc nA aD (aa.j4 x c e)
   exact⟨_,q,hd⟩
  .exact⟨o,keep c o (aa.ph x c e) hc nA aD (aa.j4 x c e),hd⟩
 refine⟨aa.ok,aa.os,aN,⟨fun b o e n ao av=>?_,fun b o e n ao av=>?_,fun b o e n av=>?_,fun b o e av=>?_,fun b xs e=>lq b xs (aa.base.lq b xs e),fun b o xs e=>kq b o xs (aa.base.kq b o xs e),fun b aI e=>?_⟩,?_,fun x c e=>?_,?_,fun x c e=>?_,fun p bh=>?_,aU,aa.len⟩
 .exact keep b o (qM b o e) ao (Ae b o e av) (aa.base.keep b o e n ao av) (aa.base.free b o e n av)
 ·obtain⟨dB,ba⟩:=aa.base.slot b o e n ao av
  obtain⟨ky,bg⟩:=slot b _ (qM b o e) ao (Ae b o e av) ba (aa.base.free b o e n av)
  exact⟨ky,bg⟩
 ·obtain⟨eh,ba⟩:=aa.base.there b o e av
  exact free b eh (Ae b o e av) ba (aa.base.free b o e n av)
 ·obtain⟨eh,ba⟩:=aa.base.there b o e av
  exact there b eh (Ae b o e av) ba
 ·obtain⟨jN,ba⟩:=aa.base.lp b aI e
  obtain⟨jr,bg⟩:=lp b _ ba
  exact⟨jN++jr,by rw[bg,Array.append_assoc]⟩
 ·obtain⟨m,bf,aH⟩:=aa.loc
  refine⟨m,ns m bf,fun i x v ba bg eZ=>?_⟩
  obtain⟨u,r,l⟩:=aH i x v ba bg eZ
  refine⟨u,r,?_⟩
  rcases l with l|⟨k,c,e,z⟩
  .exact .inl l
  .exact .inr ⟨k,c,e,cellK x c e _ z⟩
 ·obtain⟨v,z⟩:=aa.cell x c e
  exact⟨v,cellK x c e v z⟩
 ·obtain⟨m,⟨o,_,_,aD,_⟩,_⟩:=aa.loc
  exact free _ o (fun z=>(mr _ z).2.1 I) aD aa.free
 ·obtain⟨v,o,aD,hd⟩:=aa.cell x c e
  exact free c o (fun z=>(mr c z).2.2.1 x c e I) aD (aa.j4 x c e)
 ·obtain⟨e,n,ne,lU,d⟩:=aa.pin p bh
  have nA:p.1∉ch:=fun z=>(mr p.1 z).2.2.2 p bh rfl
  exact⟨keep p.1 p.2 ne lU nA e n,free p.1 p.2 nA e n,ne,lU,d⟩
theorem Inv.un(aa:Inv X aj ae H s)(u:fy X.fs [] H ai s.heap h')(aU:fg X.prog X.w ai h'):Inv X aj ae ai {s with heap:=h',toks:=t'}:=by
 obtain⟨m,⟨o,aV,fK,aD,r⟩,_⟩:=id aa.loc
 obtain⟨dB,hn⟩:=u.any aD aa.free (by simp)
 exact aa.step (g':=s.gens) (d':=s.drawn) (ch:=[]) (fun _ z=>nomatch z) (fun b o _ ao _ e n=>u.keep b o e n ao (by simp)) (fun b o _ ao _ e n=>u.slot b o e n ao (by simp)) (fun b o _ e n=>u.free b o e n (by simp)) (fun b o _ e=>u.there b o e (by simp)) u.lq u.kq u.lp (fun cv hm=>by
  obtain⟨eh,zy,Dy,nt,dE⟩:=hm
  rw[aD]at nt;cases nt
  exact⟨_,zy,Dy,hn,dE⟩) aU aa.bare
theorem Inv.call(aa:Inv X aj ae H s)(u:fy (ij X.stack) ch H ai s.heap h')(aU:fg X.prog X.w ai h')(aN:AllBare g')
  (mr:∀b∈ch,(b∈X.ex\/X.dq.heap.objs.size<=b)/\b≠X.env.locals/\(∀x c,X.env.cells.lookup x=J c->c≠b)/\∀p∈X.pn++aj,p.1≠b) :
  Inv X aj ae ai {s with heap:=h',gens:=g',drawn:=d',toks:=t'}:=by
 obtain⟨m,⟨o,aV,fK,aD,r⟩,_⟩:=id aa.loc
 obtain⟨dB,hn⟩:=u.any aD aa.free fun z=>(mr _ z).2.1 rfl
 exact aa.step (ch:=ch) mr (fun b o hn ao hc e n=>u.keep b o e n (fun z=>(dy.mp (aa.qS b z)).elim hn ao) hc) (fun b o _ _ hc e n=>u.any e n hc) (fun b o hc e n=>u.free b o e n hc) (fun b o hc e=>u.there b o e hc) u.lq u.kq u.lp (fun cv hm=>by
  obtain⟨eh,zy,Dy,nt,dE⟩:=hm
  rw[aD]at nt;cases nt
  exact⟨_,zy,Dy,hn,dE⟩) aU aN
theorem Inv.turned(aa:Inv X aj ae H s)(k:∀b o,b≠it->s.heap.get? b=J o->h'.get? b=J o)(bf:H it=aw)(hn:it≠X.env.locals)
  (aq:it∈X.ex\/X.dq.heap.objs.size<=it) (az:∀x c,X.env.cells.lookup x=J c->c≠it) (bE:∀p∈X.pn++aj,p.1≠it):Inv X aj ae H {s with heap:=h',toks:=t'}:=by
 have KW:∀b u,H b=J u->b≠it:=fun b u e z=>by rw[z,bf]at e;cases e
 refine aa.step (g':=s.gens) (d':=s.drawn) (ch:=[it]) (fun b ao=>?_) (fun b o _ _ hc e _=>k b o (fun z=>hc (by simp[z])) e) (fun b o _ _ hc e _=>⟨o.slots,k b o (fun z=>hc (by simp[z])) e⟩) (fun _ _ _ _ n=>n)
  (fun b o hc e=>⟨o,k b o (fun z=>hc (by simp[z])) e⟩) (fun _ _ e=>e) (fun _ _ _ e=>e) (fun b aI e=>⟨#[],by rw[e];simp⟩) (fun m hm=>?_) (fun b u e=>?_) aa.bare
 ·have e:b=it:=by simpa using ao
  subst e
  exact⟨aq,hn,az,bE⟩
 ·obtain⟨o,aV,fK,aD,r⟩:=hm
  exact⟨o,aV,fK,k _ o (e3 hn) aD,r⟩
 ·refine(aa.aU b u e).nG (fun c v hc q=>k c v ?_ q) (fun _ q=>q) fun _ _ q=>q
  rcases hc with z|z
  .rw[z];exact KW b u e
  .exact KW c _ z
theorem Inv.tok(aa:Inv X aj ae H s)(t:Nat):Inv X aj ae H {s with toks:=t}:=aa.un (h':=s.heap) (t':=t) fy.refl aa.aU
theorem Inv.kept(aa:Inv X aj ae H s)(k:∀b u,s.heap.get? b=J u->h'.get? b=J u):Inv X aj ae H {s with heap:=h',toks:=t'}:=aa.un (fy.kept k) (aa.aU.kept k)
theorem Inv.laid{o:dC}(aa:Inv X aj ae H s)(k:∀b u,s.heap.get? b=J u->h'.get? b=J u)(bh:s.heap.objs.size<=a)(new:gY X.prog X.w (upd H a o) h' a o):
  Inv X aj ae (upd H a o) {s with heap:=h',toks:=t'}:=aa.un (fy.laid k bh (aa.aU.fresh bh)) (aa.aU.laid k bh new)
theorem Inv.write{x e:ah}{o:dC}(aa:Inv X aj ae H s)(mA:yn (H x))(he:e=x\/H e=J (.own x))(k:∀b u,b≠e->s.heap.get? b=J u->h'.get? b=J u)(uv:∃u,h'.get? e=J u)
  (new:gY X.prog X.w (upd H x o) h' x o):Inv X aj ae (upd H x o) {s with heap:=h',toks:=t'}:=aa.un (fy.write mA he k uv) (aa.aU.write mA he k uv new)
theorem Inv.Fs{pins':List (ah×bo)}(aa:Inv X aj ae H s)(h:∀p∈pins',s.heap.get? p.1=J p.2/\H p.1=aw/\p.1≠X.env.locals/\p.1∉X.fs/\∀v,p.2.data≠.cell v):Inv X pins' ae H s :=
 ⟨aa.ok,aa.os,aa.bare,aa.base,aa.loc,aa.cell,aa.free,aa.j4,fun p bh=>(List.mem_append.mp bh).elim (fun z=>aa.pin p (List.mem_append_left _ z)) (h p),aa.aU,aa.len⟩
theorem CF(b9:N.Nodup)(a:N[i]?=J x)(b:N[j]?=J x):i=j:=by
 obtain⟨aq,ba⟩:=lE.mp a
 obtain⟨az,bg⟩:=lE.mp b
 exact(List.getElem_inj b9).mp (ba.trans bg.symm)
theorem HB{v:V}(aa:Inv X aj ae H s)(b9:X.N.Nodup)(aE:X.N[i]?=J x)(av:Loc X.env.scope x)(r:RelV v u)
  (h:∀aR,Inv X aj (ae.set i (J v)) H aR->(∃a,bb.SameBut a s.heap aR.heap/\(a=X.env.locals\/X.env.cells.lookup x=J a))->Q () aR) (aQ:X.fn x=au\/X.env.scope.names.lookup x=J .local:=by first|exact .inl I|exact .inr I|assumption):bK M A (storeName X.env x u) Q E s:=by
 obtain⟨m,bf,aH⟩:=id aa.loc
 have Ej:(X.env.scope.kind ==.class||(X.env.scope.kind ==.module&&X.env.locals != X.env.globals))=ay:=by rw[aa.ok.kind];rfl
 have zV:i<ae.length:=by rw[aa.len];exact(lE.mp aE).1
 have ph:=aa.ph
 have tracked:∀{a:ah}{h':bb},(∃o,s.heap.get? a=J o/\H a=aw)->bb.SameBut a s.heap h'->fg X.prog X.w H h':=fun{a h'}bz hs b dD e=>by
  obtain⟨_,_,wR⟩:=bz
  refine(aa.aU b dD e).nG (fun c hA hc q=>(hs.2 c ?_).trans q) (fun _ q=>q) fun _ _ q=>q
  rintro rfl
  rcases hc with rfl|hc
  .rw[wR]at e;cases e
  .rw[wR]at hc;cases hc
 rcases av with hk|hk
 ·refine wpAny_storeName_local hk bf (fun h' k8 hs=>?_) Ej
  obtain⟨K4,_,_,Kf,_⟩:=id bf
  refine h _ ⟨aa.ok,aa.os,aa.bare,⟨fun b o e n ao av=>?_,fun b o e n ao av=>?_,aa.base.free,fun b o e av=>?_,aa.base.lq,aa.base.kq,aa.base.lp⟩,⟨_,k8,fun j y df ba bg eZ=>?_⟩,fun y c e=>?_,aa.free,aa.j4,fun p bh=>?_,tracked ⟨K4,Kf,aa.free⟩ hs,by simpa using aa.len⟩ ⟨_,hs,.inl rfl⟩
  .exact(hs.2 b (fE (ez (en e) aa.ok.above))).trans (aa.base.keep b o e n ao av)
  ·obtain⟨dB,ba⟩:=aa.base.slot b o e n ao av
   exact⟨dB,(hs.2 b (fE (ez (en e) aa.ok.above))).trans ba⟩
  ·obtain⟨eh,ba⟩:=aa.base.there b o e av
   exact⟨eh,(hs.2 b (fE (ez (en e) aa.ok.above))).trans ba⟩
  ·by_cases c4:j=i
   ·subst c4
    rw[aE]at ba;cases ba
    rw[List.getElem?_set_self zV]at bg
    cases bg
    exact⟨u,r,.inl ⟨hk,by simp⟩⟩
   ·rw[List.getElem?_set_ne (e3 c4)]at bg
    obtain⟨qV,dE,q⟩:=aH j y df ba bg eZ
    refine⟨qV,dE,?_⟩
    rcases q with⟨k,e⟩|⟨k,c,e,z⟩
    ·refine .inl ⟨k,?_⟩
     have:y≠x:=fun e=>c4 (CF b9 ba (e ▸ aE))
     simp[this,e]
    .exact .inr ⟨k,c,e,z.sameBut hs (ph y c e)⟩
  ·obtain⟨hA,z⟩:=aa.cell y c e
   exact⟨hA,z.sameBut hs (ph y c e)⟩
  ·obtain⟨e,n,ne,lU,d⟩:=aa.pin p bh
   exact⟨(hs.2 p.1 ne).trans e,n,ne,lU,d⟩
 ·have Ep:X.fn x=au:=by
   rcases aQ with z|z
   .exact z
   .rw[z]at hk;cases hk
  obtain⟨c,hc⟩:=aa.ok.has x (.inl hk)
  obtain⟨hA,z⟩:=aa.cell x c hc
  refine wpAny_storeName_cell aa.ok.kind hk hc z (fun h' oo hs=>?_)
  obtain⟨h2,zX,EG⟩:=id z
  refine h {s with heap:=h'} ⟨aa.ok,aa.os,aa.bare,⟨fun b o e n ao av=>?_,fun b o e n ao av=>?_,aa.base.free,fun b o e av=>?_,aa.base.lq,aa.base.kq,aa.base.lp⟩,⟨m,bf.sameBut hs (e3 (ph x c hc)),fun j y df ba bg eZ=>?_⟩,fun y gw e=>?_,aa.free,aa.j4,fun p bh=>?_,tracked ⟨h2,zX,aa.j4 x c hc⟩ hs,by simpa using aa.len⟩ ⟨c,hs,.inr hc⟩
  .exact(hs.2 b (fE (ez (en e) (aa.ok.rG x c Ep hc)))).trans (aa.base.keep b o e n ao av)
  ·obtain⟨dB,ba⟩:=aa.base.slot b o e n ao av
   exact⟨dB,(hs.2 b (fE (ez (en e) (aa.ok.rG x c Ep hc)))).trans ba⟩
  ·obtain⟨eh,ba⟩:=aa.base.there b o e av
   exact⟨eh,(hs.2 b (fE (ez (en e) (aa.ok.rG x c Ep hc)))).trans ba⟩
  ·by_cases c4:j=i
   ·subst c4
    rw[aE]at ba;cases ba
    rw[List.getElem?_set_self zV]at bg
    cases bg
    exact⟨u,r,.inr ⟨.inl hk,c,hc,oo⟩⟩
   ·rw[List.getElem?_set_ne (e3 c4)]at bg
    obtain⟨qV,dE,q⟩:=aH j y df ba bg eZ
    refine⟨qV,dE,?_⟩
    rcases q with q|⟨k,gw,e,nM⟩
    .exact .inl q
    ·refine .inr ⟨k,gw,e,nM.sameBut hs ?_⟩
     rintro rfl
     exact c4 (CF b9 ba (aa.ok.inj _ _ _ e hc ▸ aE))
  ·by_cases zS:gw=c
   .subst zS;exact⟨_,oo⟩
   ·obtain⟨iU,el⟩:=aa.cell y gw e
    exact⟨iU,el.sameBut hs zS⟩
  ·obtain⟨e,n,ne,lU,d⟩:=aa.pin p bh
   refine⟨(hs.2 p.1 ?_).trans e,n,ne,lU,d⟩
   intro q
   rw[q,zX]at e
   have fw:h2=p.2:=gk e
   exact d hA (by rw[<-fw];exact EG)
theorem CA{v:V}(aa:Inv X aj ae H s)(b9:X.N.Nodup)(aE:X.N[i]?=J x)(av:Loc X.env.scope x)(r:RelV v u)
  (h:∀aR,Inv X aj (ae.set i (J v)) H aR->Q () aR) (aQ:X.fn x=au\/X.env.scope.names.lookup x=J .local:=by first|exact .inl I|exact .inr I|assumption):bK M A (storeName X.env x u) Q E s :=
 HB aa b9 aE av r (fun aR gF _=>h aR gF) aQ
theorem Inv.zk(aa:Inv X aj ae H s)(aD:aR.os=s.os)(u:fy (ij X.stack) ch H ai s.heap aR.heap)(aU:fg X.prog X.w ai aR.heap)(aN:AllBare aR.gens)
  (mr:∀b∈ch,(b∈X.ex\/X.dq.heap.objs.size<=b)/\b≠X.env.locals/\(∀x c,X.env.cells.lookup x=J c->c≠b)/\∀p∈X.pn++aj,p.1≠b):Inv X aj ae ai aR:=by
 obtain⟨h',g',d',t',eh⟩:=aR
 have e:eh=s.os:=aD
 subst e
 exact aa.call (g':=g') (t':=t') (d':=d') u aU aN mr
end
noncomputable abbrev cC:=al->Option ah->ar->Prop
noncomputable abbrev St:=List (Option V)
noncomputable abbrev bP:=V->ar->Prop
noncomputable abbrev TE:=St->ar->bP->Prop
noncomputable abbrev gH:=St->ar->(Bool->ar->Prop)->Prop
noncomputable abbrev hg:=St->ar->(List V->ar->Prop)->Prop
structure Ends where
 nx:St->ar->Prop
 rt:bP
 bk:St->ar->Prop:=fun _ _=>False
 ct:St->ar->Prop:=fun _ _=>False
noncomputable abbrev eG:=Ends->St->ar->Prop
def hN(X:bj)(aj:List (ah×bo))(ae:St)(Q:bP)(u:al)(aR:aJ):Prop:=∃v ai,Inv X aj ae ai aR/\RelV v u/\Q v ai
def yv(X:bj)(aj:List (ah×bo))(ae:St)(Q:Bool->ar->Prop)(b:Bool)(aR:aJ):Prop:=∃ai,Inv X aj ae ai aR/\Q b ai
def MV(X:bj)(aj:List (ah×bo))(ae:St)(Q:List V->ar->Prop)(us:List al)(aR:aJ):Prop:=∃vs ai,Inv X aj ae ai aR/\Vals vs us/\Q vs ai
def tK(X:bj)(aj:List (ah×bo))(D:Ends)(f:Flow)(aR:aJ):Prop :=
 match f with
 |.next=>∃bU ai,Inv X aj bU ai aR/\D.nx bU ai
 |.brk=>∃bU ai,Inv X aj bU ai aR/\D.bk bU ai
 |.cont=>∃bU ai,Inv X aj bU ai aR/\D.ct bU ai
 |.ret u=>∃v bU ai,Inv X aj bU ai aR/\RelV v u/\D.rt v ai
def b6(X:bj)(e:cq)(t:TE):Prop :=
 ∀(aj:List (ah×bo))(s:aJ)(ae:St)(H:ar)(Q:bP),Inv X aj ae H s->t ae H Q->bK (model X.prog X.w) X.A (eval e X.env) (hN X aj ae Q) X.xe s
def jY(X:bj)(e:cq)(t:gH):Prop :=
 ∀(aj:List (ah×bo))(s:aJ)(ae:St)(H:ar)(Q:Bool->ar->Prop),Inv X aj ae H s->t ae H Q->bK (model X.prog X.w) X.A (isTrue e X.env (eval e X.env)) (yv X aj ae Q) X.xe s
def e2(X:bj)(e:cq)(t:gH):Prop :=
 ∀(whole:Sem al)(aj:List (ah×bo))(s:aJ)(ae:St)(H:ar)(Q:Bool->ar->Prop),Inv X aj ae H s->t ae H Q->bK (model X.prog X.w) X.A (isTrue e X.env whole) (yv X aj ae Q) X.xe s
theorem e2.pt{X:bj}{t:gH}(h:e2 X e t):jY X e t:=h _
def ib(X:bj)(aV:List cq)(t:hg):Prop :=
 ∀(aX:Pos)(aj:List (ah×bo))(s:aJ)(ae:St)(H:ar)(Q:List V->ar->Prop),Inv X aj ae H s->t ae H Q->bK (model X.prog X.w) X.A (spliced (backTo aX (dN aV X.env))) (MV X aj ae Q) X.xe s
def jz(X:bj)(st:bG)(t:eG):Prop :=
 ∀(aj:List (ah×bo))(s:aJ)(ae:St)(H:ar)(D:Ends),Inv X aj ae H s->t D ae H->bK (model X.prog X.w) X.A (exec st X.env) (tK X aj D) X.xe s
def hD(X:bj)(st:List bG)(t:eG):Prop :=
 ∀(aj:List (ah×bo))(s:aJ)(ae:St)(H:ar)(D:Ends),Inv X aj ae H s->t D ae H->bK (model X.prog X.w) X.A (execs st X.env) (tK X aj D) X.xe s
theorem cO{t:Sem α}{Q jj:α->aJ->Prop}(h:bK M A t Q E s)(fV:∀a s,Q a s->jj a s):bK M A t jj E s:=jU h fV fun _ _ x=>x
section
variable {X:bj}
inductive G2(o:Option (Option V))(Q:V->Prop):Prop where
 |mk (v:V) (e:o=J (J v)) (h:Q v):G2 o Q
def kz(i:Nat):TE:=fun ae H Q=>G2 ae[i]? fun v=>Q v H
def iH(v:V):TE:=fun _ H Q=>Q v H
theorem SY(b9:X.N[i]?=J x)(bS:yA X.env.scope x)(hd:(x == ("__debug__":af))=ay:=by decide)(lO:(x == ("__classdict__":af))=ay:=by decide):b6 X (.Name x aX) (kz i):=by
 intro aj s ae H Q aa h
 obtain⟨v,e,h⟩:=h
 obtain⟨m,bf,aH⟩:=aa.loc
 obtain⟨u,r,l⟩:=aH i x v b9 e bS
 have aZ:hN X aj ae Q u s:=⟨v,H,aa,r,h⟩
 rcases l with⟨hk,hm⟩|⟨hk,c,hc,JQ⟩
 .exact wpAny_Name (wpAny_loadName_local aa.ok.kind hk bf hm aZ) hd
 ·rcases hk with hk|hk
  .exact wpAny_Name (wpAny_loadName_cell aa.ok.kind hk hc JQ aZ) hd
  .exact wpAny_Name (wpAny_loadName_free aa.ok.kind hk hc JQ aZ lO) hd
theorem aA{i j aX}:b6 X (.Constant (.int i) j aX) (iH (.int i)):=fun _ _ _ H _ aa h=>wpAny_Constant_int ⟨.int i,H,aa.tok _,⟨_,rfl⟩,h⟩
theorem gJ{b j aX}:b6 X (.Constant (.bool b) j aX) (iH (.aC b)):=fun _ _ _ H _ aa h=>Constant_bool ⟨.aC b,H,aa,rfl,h⟩
theorem km{j aX}:b6 X (.Constant .none j aX) (iH .aK):=fun _ _ _ H _ aa h=>Constant_none ⟨.aK,H,aa,rfl,h⟩
theorem b7{x j aX}:b6 X (.Constant (.str x) j aX) (iH (.str x)):=fun _ _ _ H _ aa h=>Calls.Constant_str ⟨.str x,H,aa.tok _,⟨_,rfl⟩,h⟩
def iI(X:bj)(x:af):Prop:=X.env.kindOf x=J .globalImplicit
theorem tY{ae:St}{Q:al->aJ->Prop}(aa:Inv X aj ae H s)(aN:iI X x)(hm:X.mg x=J u)(h:Q u s)
  (hd:(x == ("__debug__":af))=ay:=by decide):bK (model X.prog X.w) X.A (eval (.Name x aX) X.env) Q E s :=
 Calls.Name_function_global aa.ok.kind aN (Calls.loadGlobal_global (by rw[aa.ok.glob];exact aa.mod.glob.keeps aa.bk) hm h) hd
theorem pd{ae:St}{Q:al->aJ->Prop}(aa:Inv X aj ae H s)(aN:iI X x)(hm:X.mg x=aw)(bS:jf x=J u)(h:Q u s)
  (bf:x≠"__name__":=by decide) (hd:(x == ("__debug__":af))=ay:=by decide):bK (model X.prog X.w) X.A (eval (.Name x aX) X.env) Q E s:=by
 obtain⟨mz,aq,az⟩:=aa.mod.blt
 exact Calls.Name_function_global aa.ok.kind aN (Calls.loadGlobal_builtin (by rw[aa.ok.glob];exact aa.mod.glob.keeps aa.bk) hm (by rw[aa.ok.blt];exact aq.keeps aa.bk) ((az x bf).trans bS) h) hd
theorem Sg{v:V}(aN:iI X x)(hm:X.mg x=J u)(r:RelV v u)(hd:(x == ("__debug__":af))=ay:=by decide):b6 X (.Name x aX) (iH v) :=
 fun _ _ _ H _ aa h=>tY aa aN hm ⟨v,H,aa,r,h⟩ hd
theorem fz{v:V}(aN:iI X x)(hm:X.mg x=aw)(bS:jf x=J u)(r:RelV v u)(bf:x≠"__name__":=by decide)(hd:(x == ("__debug__":af))=ay:=by decide):b6 X (.Name x aX) (iH v) :=
 fun _ _ _ H _ aa h=>pd aa aN hm bS ⟨v,H,aa,r,h⟩ bf hd
variable {a b:cq} {cE de:TE} {aX:Pos}
def NN(X:bj)(op:CmpOp)(a b:cq)(t:TE):Prop :=
 ∀(aj:List (ah×bo))(s:aJ)(ae:St)(H:ar)(Q:bP),Inv X aj ae H s->t ae H Q->
  bK (model X.prog X.w) X.A (eval a X.env) (fun v dQ=>bK (model X.prog X.w) X.A (eval b X.env) (fun u mG=>bK (model X.prog X.w) X.A (hC op v u) (hN X aj ae Q) X.xe mG) X.xe dQ) X.xe s
variable {mJ AL:gH} {rest:List cq}
def Z0(t u:gH):gH:=fun ae H Q=>t ae H fun c H1=>if c=au then u ae H1 Q else Q ay H1
def FR(t u:gH):gH:=fun ae H Q=>t ae H fun c H1=>if c=au then Q au H1 else u ae H1 Q
def aac(t:gH):gH:=fun ae H Q=>t ae H fun c H1=>Q (!c) H1
theorem mX(bz:jY X a mJ):e2 X (.BoolOp .And [a] aX) mJ:=by
 intro xQ aj s ae H Q aa h
 refine isTrue_and (cO (bz aj s ae H Q aa h) fun c s1 e=>?_)
 cases c with
 |true=>exact isTrue_and_nil e
 |false=>exact e
theorem iM(bz:jY X a mJ):e2 X (.BoolOp .Or [a] aX) mJ:=by
 intro xQ aj s ae H Q aa h
 refine isTrue_or (cO (bz aj s ae H Q aa h) fun c s1 e=>?_)
 cases c with
 |false=>exact isTrue_or_nil e
 |true=>exact e
theorem mZ(bz:jY X a mJ)(ao:e2 X (.BoolOp .And (b::rest) aX) AL):e2 X (.BoolOp .And (a::b::rest) aX) (Z0 mJ AL):=by
 intro xQ aj s ae H Q aa h
 refine isTrue_and (cO (bz aj s ae H _ aa h) fun c s1 bJ=>?_)
 obtain⟨H1,bc,cA⟩:=bJ
 cases c with
 |true=>exact ao xQ aj s1 ae H1 Q bc cA
 |false=>exact⟨H1,bc,cA⟩
theorem ih(bz:jY X a mJ)(ao:e2 X (.BoolOp .Or (b::rest) aX) AL):e2 X (.BoolOp .Or (a::b::rest) aX) (FR mJ AL):=by
 intro xQ aj s ae H Q aa h
 refine isTrue_or (cO (bz aj s ae H _ aa h) fun c s1 bJ=>?_)
 obtain⟨H1,bc,cA⟩:=bJ
 cases c with
 |true=>exact⟨H1,bc,cA⟩
 |false=>exact ao xQ aj s1 ae H1 Q bc cA
theorem hS(bz:jY X a mJ):jY X (.UnaryOp .Not a aX) (aac mJ):=by
 intro aj s ae H Q aa h
 exact isTrue_not (bz aj s ae H (fun c H1=>Q (!c) H1) aa h)
def Mo(cE de:TE):TE:=fun ae H Q=>cE ae H fun x H1=>∃c,x=.aC c/\if c=au then de ae H1 Q else Q (.aC ay) H1
def aad(cE de:TE):TE:=fun ae H Q=>cE ae H fun x H1=>∃c,x=.aC c/\if c=au then Q (.aC au) H1 else de ae H1 Q
theorem hT{op}{t:TE}(h:b6 X a t):b6 X (.BoolOp op [a] aX) t:=fun aj s ae H Q aa hw=>BoolOp_one (h aj s ae H Q aa hw)
theorem gV(bz:b6 X a cE)(ao:b6 X (.BoolOp .And (b::rest) aX) de):b6 X (.BoolOp .And (a::b::rest) aX) (Mo cE de):=by
 intro aj s ae H Q aa h
 refine BoolOp_and (cO (bz aj s ae H _ aa h) fun v s1 bJ=>?_)
 obtain⟨x,H1,bc,b5,cA⟩:=bJ
 obtain⟨c,rfl,cA⟩:=cA
 cases b5
 refine xY ?_
 cases c with
 |true=>exact ao aj s1 ae H1 Q bc cA
 |false=>exact⟨.aC ay,H1,bc,I,cA⟩
theorem C8(bz:b6 X a cE)(ao:b6 X (.BoolOp .Or (b::rest) aX) de):b6 X (.BoolOp .Or (a::b::rest) aX) (aad cE de):=by
 intro aj s ae H Q aa h
 refine BoolOp_or (cO (bz aj s ae H _ aa h) fun v s1 bJ=>?_)
 obtain⟨x,H1,bc,b5,cA⟩:=bJ
 obtain⟨c,rfl,cA⟩:=cA
 cases b5
 refine xY ?_
 cases c with
 |false=>exact ao aj s1 ae H1 Q bc cA
 |true=>exact⟨.aC au,H1,bc,I,cA⟩
def Z7(t:gH)(cE de:TE):TE:=fun ae H Q=>t ae H fun c H1=>if c=au then cE ae H1 Q else de ae H1 Q
theorem nX(hc:jY X c mJ)(bz:b6 X a cE)(ao:b6 X b de):b6 X (.IfExp c a b aX) (Z7 mJ cE de):=by
 intro aj s ae H Q aa h
 refine wpAny_IfExp (cO (hc aj s ae H _ aa h) fun d s1 bJ=>?_)
 obtain⟨H1,bc,cA⟩:=bJ
 cases d with
 |true=>exact bz aj s1 ae H1 Q bc cA
 |false=>exact ao aj s1 ae H1 Q bc cA
end
def dr(K:bH)(H:ar)(a:ah)(xs:List V):Prop :=
 yu H a (.lst xs)\/
  ∃(o:bo)(aW:Array al)(n:Nat),K.lookup a=J o/\o.cls=.type "list"/\o.dict=aw/\o.data=.seq aW n/\aW.size<=bW/\Vals xs aW.toList
def fm(K:bH)(H:ar)(a:ah)(xs:List V):Prop :=
 yu H a (.tup xs)\/
  ∃(o:bo)(aW:Array al)(n:Nat),K.lookup a=J o/\o.cls=.type "tuple"/\o.data=.seq aW n/\aW.size<=bW/\Vals xs aW.toList
noncomputable def TJ:al->Option V
 |.none=>J .aK
 |.bool b=>J (.aC b)
 |.int i _=>J (.int i)
 |.str x _=>J (.str x)
 |.bytes b _=>J (.j1 b)
 |.float b _=>J (.rN b)
 |.ref a=>J (.ref a)
 |.type n=>J (.ty n)
 |_=>aw
theorem RelV.abs{x:V}(r:RelV x u):TJ u=J x:=by
 cases x with
 |aK=>cases r;rfl
 |aC _=>cases r;rfl
 |int _=>obtain⟨t,rfl⟩:=r;rfl
 |str _=>obtain⟨t,rfl⟩:=r;rfl
 |j1 _=>obtain⟨t,rfl⟩:=r;rfl
 |rN _=>obtain⟨t,rfl⟩:=r;rfl
 |ref _=>cases r;rfl
 |ty _=>cases r;rfl
theorem RelV.inj{x y:V}(r:RelV x u)(q:RelV y u):x=y:=gk (r.abs.symm.trans q.abs)
theorem Vals.inj:∀{xs aM:List V}{us:List al},Vals xs us->Vals aM us->xs=aM
 |_,_,_,.nil,.nil=>rfl
 |_,_,_,.cons r t,.cons dE t'=>by rw[r.inj dE,Vals.inj t t']
section
variable {X:bj} {aj:List (ah×bo)} {ae:St} {H:ar} {s:aJ} {a:ah} {xs aM:List V}
theorem dr.of(h:H a=J (.lst xs)):dr K H a xs :=.inl (.inl h)
theorem fm.of(h:H a=J (.tup xs)):fm K H a xs :=.inl (.inl h)
theorem Inv.list(aa:Inv X aj ae H s)(h:dr X.K H a xs):∃aW:List al,Vals xs aW/\PlainL s.heap a aW.toArray/\xs.length<=bW:=by
 rcases h with h|⟨o,aW,n,hk,hc,hd,hs,bw,r⟩
 ·obtain⟨z,aW,n,r,e⟩:=h.ok aa.aU
  exact⟨aW,r,⟨_,n,e,I,I,I⟩,z⟩
 ·refine⟨aW.toList,r,⟨o,n,aa.gp a o hk,hc,hd,by simpa using hs⟩,?_⟩
  have e:=r.length
  simp only[hE]at e
  omega
theorem Inv.tuple(aa:Inv X aj ae H s)(h:fm X.K H a xs):∃aW:List al,Vals xs aW/\IsTup s.heap a aW.toArray/\xs.length<=bW:=by
 rcases h with h|⟨o,aW,n,hk,hc,hs,bw,r⟩
 ·obtain⟨z,aW,r,p⟩:=h.ok aa.aU
  exact⟨aW,r,p,z⟩
 ·refine⟨aW.toList,r,⟨o,aa.gp a o hk,hc,n,by simpa using hs⟩,?_⟩
  have e:=r.length
  simp only[hE]at e
  omega
theorem Inv.Xh(aa:Inv X aj ae H s)(h:dr X.K H a xs)(h':dr X.K H a aM):xs=aM:=by
 obtain⟨aW,r,⟨o,n,e,_,_,d⟩,_⟩:=aa.list h
 obtain⟨its',dE,⟨eh,xi,cR,_,_,d'⟩,_⟩:=aa.list h'
 rw[e]at cR;cases cR
 rw[d]at d'
 injection d' with eW _
 have:aW=its':=by simpa using congrArg Array.toList eW
 subst this
 exact r.inj dE
theorem Inv.aaF(aa:Inv X aj ae H s)(h:fm X.K H a xs)(h':fm X.K H a aM):xs=aM:=by
 obtain⟨aW,r,⟨o,e,_,n,d⟩,_⟩:=aa.tuple h
 obtain⟨its',dE,⟨eh,cR,_,xi,d'⟩,_⟩:=aa.tuple h'
 rw[e]at cR;cases cR
 rw[d]at d'
 injection d' with eW _
 have:aW=its':=by simpa using congrArg Array.toList eW
 subst this
 exact r.inj dE
end
noncomputable abbrev bj.l2(X:bj)(E:al->aJ->Prop):bj:={X with xe:=E}
noncomputable abbrev bj.pO(X:bj):bj:=X.l2 fun _ _=>False
theorem bj.Ok.l2{X:bj}(ok:X.Ok)(E:al->aJ->Prop):(X.l2 E).Ok :=
 ⟨ok.mod,ok.kind,ok.glob,ok.blt,ok.above,ok.inj,ok.has,ok.rG,ok.hd,ok.frames,ok.u1,ok.zA,ok.bs,ok.na,ok.sl,ok.ud,ok.kS,ok.pv⟩
theorem bj.Ok.l0{X:bj}(ok:(X.l2 E).Ok):X.Ok :=
 ⟨ok.mod,ok.kind,ok.glob,ok.blt,ok.above,ok.inj,ok.has,ok.rG,ok.hd,ok.frames,ok.u1,ok.zA,ok.bs,ok.na,ok.sl,ok.ud,ok.kS,ok.pv⟩
section
variable {X:bj} {aj:List (ah×bo)} {ae:St} {H:ar} {s:aJ} {E:al->aJ->Prop}
theorem Inv.l2(aa:Inv X aj ae H s)(E:al->aJ->Prop):Inv (X.l2 E) aj ae H s:=⟨aa.ok.l2 E,aa.os,aa.bare,aa.base,aa.loc,aa.cell,aa.free,aa.j4,aa.pin,aa.aU,aa.len⟩
theorem Inv.l0(aa:Inv (X.l2 E) aj ae H s):Inv X aj ae H s:=⟨aa.ok.l0,aa.os,aa.bare,aa.base,aa.loc,aa.cell,aa.free,aa.j4,aa.pin,aa.aU,aa.len⟩
theorem tK.l0{D:Ends}{f:Flow}(h:tK (X.l2 E) aj D f aR):tK X aj D f aR:=by
 cases f with
 |next=>obtain⟨bU,ai,aa,q⟩:=h;exact⟨bU,ai,aa.l0,q⟩
 |brk=>obtain⟨bU,ai,aa,q⟩:=h;exact⟨bU,ai,aa.l0,q⟩
 |cont=>obtain⟨bU,ai,aa,q⟩:=h;exact⟨bU,ai,aa.l0,q⟩
 |ret u=>obtain⟨v,bU,ai,aa,r,q⟩:=h;exact⟨v,bU,ai,aa.l0,r,q⟩
theorem hD.pO{st:List bG}{t:eG}(h:hD X.pO st t):hD X st t:=fun aj s ae H D aa hw =>
 jU (h aj s ae H D (aa.l2 _) hw) (fun _ _ q=>q.l0) fun _ _ z=>False.elim z
end
section
variable {X:bj} {st:bG} {rest:List bG} {t u:eG} {e:cq} {cH:TE} {aX:Pos}
def u3:eG:=fun D ae H=>D.nx ae H
def oL(t u:eG):eG:=fun D ae H=>t {D with nx:=u D} ae H
theorem cx:hD X [] u3:=fun _ _ ae H _ aa h=>wpAny_execs_nil ⟨ae,H,aa,h⟩
theorem aS(aq:jz X st t)(az:hD X rest u):hD X (st::rest) (oL t u):=by
 intro aj s ae H D aa h
 refine wpAny_execs_cons (cO (aq aj s ae H {D with nx:=u D} aa h) fun f s1 q=>?_)
 cases f with
 |next =>
  obtain⟨bU,ai,gF,q⟩:=q
  exact az aj s1 bU ai D gF q
 |ret v=>exact q
 |brk=>exact q
 |cont=>exact q
theorem aY(aq:jz X st t):hD X [st] t:=by
 intro aj s ae H D aa h
 refine wpAny_execs_cons (cO (aq aj s ae H D aa h) fun f s1 q=>?_)
 cases f with
 |next=>exact wpAny_execs_nil q
 |ret v=>exact q
 |brk=>exact q
 |cont=>exact q
theorem Inv.quiet{ae:St}(aa:Inv X aj ae H s):interactive X.env=ay:=by simp[interactive,aa.ok.kind]
def Z4(cH:TE):eG:=fun D ae H=>cH ae H fun _ H1=>D.nx ae H1
theorem vZ(he:b6 X e cH)(hs:swapsWith e aw aX.line X.env=pure ay:=by rfl):jz X (.Expr e aX) (Z4 cH):=by
 intro aj s ae H D aa h
 refine wpAny_Expr_any (cO (he aj s ae H _ aa h) fun v s1 bJ=>?_) aa.quiet hs
 obtain⟨x,H1,bc,b5,cA⟩:=bJ
 exact ⟨ae,H1,bc,cA⟩
def FT(cH:TE):eG:=fun D ae H=>cH ae H D.rt
theorem bB(he:b6 X e cH):jz X (.Return (J e) aX) (FT cH):=by
 intro aj s ae H D aa h
 refine wpAny_Return_some (cO (he aj s ae H _ aa h) fun v s1 bJ=>?_)
 obtain⟨x,H1,bc,b5,cA⟩:=bJ
 exact ⟨x,ae,H1,bc,b5,cA⟩
def u2(c:gH)(t u:eG):eG:=fun D ae H=>c ae H fun b H1=>if b=au then t D ae H1 else u D ae H1
theorem cy{a b:List bG}{gb:gH}(hc:jY X c gb)(bz:hD X a t)(ao:hD X b u):jz X (.If c a b aX) (u2 gb t u):=by
 intro aj s ae H D aa h
 refine wpAny_If (cO (hc aj s ae H _ aa h) fun d s1 bJ=>?_)
 obtain⟨H1,bc,cA⟩:=bJ
 cases d with
 |true=>exact bz aj s1 ae H1 D bc cA
 |false=>exact ao aj s1 ae H1 D bc cA
def aaa:eG:=fun _ _ _=>False
theorem oZ:jz X st aaa:=fun _ _ _ _ _ _ h=>h.elim
end
noncomputable abbrev gG:=V->St->ar->(St->ar->Prop)->Prop
noncomputable abbrev ro:=List V->St->ar->(St->ar->Prop)->Prop
def nU(X:bj)(iq:cq)(t:gG):Prop :=
 ∀(aj:List (ah×bo))(s:aJ)(ae:St)(H:ar)(v:V)(u:al)(Q:St->ar->Prop),Inv X aj ae H s->RelV v u->t v ae H Q->
  bK (model X.prog X.w) X.A (assign iq X.env u) (fun _ aR=>∃bU ai,Inv X aj bU ai aR/\Q bU ai) X.xe s
def vI(X:bj)(iT:List cq)(t:ro):Prop :=
 ∀(aj:List (ah×bo))(s:aJ)(ae:St)(H:ar)(vs:List V)(us:List al)(Q:St->ar->Prop),Inv X aj ae H s->Vals vs us->t vs ae H Q->
  bK (model X.prog X.w) X.A (assignInOrder ((assignEach iT X.env).map (·.2)) us) (fun _ aR=>∃bU ai,Inv X aj bU ai aR/\Q bU ai) X.xe s
noncomputable abbrev BN:=V->V->V->ar->(ar->Prop)->Prop
def GN(X:bj)(t:BN):Prop :=
 ∀(aj:List (ah×bo))(s:aJ)(ae:St)(H:ar)(o i v:V)(hK pH u:al)(Q:ar->Prop),Inv X aj ae H s->RelV o hK->RelV i pH->RelV v u->t o i v H Q->
  bK (model X.prog X.w) X.A (setItem hK pH u) (fun _ aR=>∃ai,Inv X aj ae ai aR/\Q ai) X.xe s
section
variable {X:bj} {aX:Pos}
def rP(i:Nat):gG:=fun v ae H Q=>Q (ae.set i (J v)) H
theorem eH(b9:X.N.Nodup)(aE:X.N[i]?=J x:=by rfl)(av:Loc X.env.scope x:=by first|exact Or.inl I|exact Or.inr I)(aQ:X.fn x=au\/X.env.scope.names.lookup x=J .local:=by first|exact .inl I|exact .inr I|assumption):nU X (.Name x aX) (rP i):=by
 intro aj s ae H v u Q aa r h
 exact wpAny_assign_Name (CA aa b9 aE av r (fun aR gF=>⟨_,H,gF,h⟩) aQ)
noncomputable def UN:ro:=fun vs ae H Q=>vs=[]/\Q ae H
noncomputable def UM(t:gG)(u:ro):ro:=fun vs ae H Q=>∃v r,vs=v::r/\t v ae H fun bU ai=>u r bU ai Q
theorem o1:vI X [] UN:=by
 intro aj s ae H vs us Q aa r h
 obtain⟨e,h⟩:=h
 subst e
 cases r
 exact assignInOrder_nil ⟨ae,H,aa,h⟩
theorem jk{t:gG}{u:ro}(aq:nU X e t)(az:vI X aV u)
  (hs:(assignEach (e::aV) X.env).map (·.2)=assign e X.env::(assignEach aV X.env).map (·.2):=by rfl):vI X (e::aV) (UM t u):=by
 intro aj s ae H vs us Q aa r h
 obtain⟨v,acD,ba,h⟩:=h
 subst ba
 cases r with
 |cons r mD =>
  rw[hs]
  refine assignInOrder_cons (cO (aq aj s ae H _ _ _ aa r h) fun _ s1 bJ=>?_)
  obtain⟨bV,H1,bc,cA⟩:=bJ
  exact az aj s1 bV H1 _ _ Q bc mD cA
def UP(K:bH)(n:Nat)(t:ro):gG:=fun v ae H Q=>∃a xs,v=.ref a/\fm K H a xs/\xs.length=n/\t xs ae H Q
theorem o9{t:ro}(hc:X.calm=au)(h:vI X aV t)
  (bf:(assignEach aV X.env).length=n:=by rfl) (nv:(assignEach aV X.env).findIdx? (·.1)=aw:=by rfl):nU X (.Tuple aV k aX) (UP X.K n t):=by
 intro aj s ae H v u Q aa r hw
 obtain⟨a,xs,ba,aT,aH,hw⟩:=hw
 subst ba
 cases r
 obtain⟨aW,dG,aO,bw⟩:=aa.tuple aT
 refine assign_Tuple_tuple (aa.ok.hd hc) aO (by simp[bf,<-aH,dG.length]) nv fun h' av=>?_
 have bc:Inv X aj ae H {s with heap:=h'}:=aa.kept (t':=s.toks) fun b o e=>av b o (fE (en e)) e
 exact h aj _ ae H xs _ Q bc (by simpa using dG) hw
def UO(to AO:TE)(t:BN):gG:=fun v ae H Q=>to ae H fun o H1=>AO ae H1 fun i ax=>t o i v ax fun bL=>Q ae bL
theorem SX{o i:cq}{to AO:TE}{t:BN}(aD:b6 X o to)(aE:b6 X i AO)(hs:GN X t)
  (bz:∀v,assign (.Subscript o i aX) X.env v=(do
   let hK <-holding [v] (eval o X.env)
   let pH <-holding [v,hK] (eval i X.env)
   standAt aX
   holding [v,hK,pH] (setItem hK pH v)
   release [v,hK,pH] []):=by intro _;rfl):nU X (.Subscript o i aX) (UO to AO t):=by
 intro aj s ae H v u Q aa r h
 rw[bz]
 refine bQ (wpAny_holding (cO (aD aj s ae H _ aa h) fun hK s1 bJ=>?_))
 obtain⟨x,H1,bc,b5,cA⟩:=bJ
 refine bQ (wpAny_holding (cO (aE aj s1 ae H1 _ bc cA) fun pH s2 bJ=>?_))
 obtain⟨y,ax,bM,eL,cc⟩:=bJ
 refine bQ (wpAny_standAt (bQ (wpAny_holding (cO (hs aj s2 ae ax x y v hK pH u _ bM b5 eL r cc) fun _ hL bJ=>?_))))
 obtain⟨bL,iv,fx⟩:=bJ
 exact wpAny_release ⟨ae,bL,iv,fx⟩
def sL(cH:TE)(g:gG):eG:=fun D ae H=>cH ae H fun x H1=>g x ae H1 D.nx
theorem zi{cH:TE}{g:gG}(he:b6 X e cH)(aN:nU X ek g)(hs:swapsWithSole [ek] e aX.line X.env=pure ay:=by rfl)(hw:swappedStores [ek] e X.env=pure aw:=by rfl)
  (aq:(assignEach [ek] X.env).map (·.2)=[assign ek X.env]:=by rfl):jz X (.Assign [ek] e aX) (sL cH g):=by
 intro aj s ae H D aa h
 refine wpAny_Assign_stores (cO (he aj s ae H _ aa h) fun v s1 bJ=>?_) hs hw
 obtain⟨x,H1,bc,b5,cA⟩:=bJ
 rw[aq]
 exact cO (aN aj s1 ae H1 x v _ bc b5 cA) fun _ s2 q=>q
theorem SU{cH:TE}(b9:X.N.Nodup)(aE:X.N[i]?=J x)(av:Loc X.env.scope x)(he:b6 X e cH)(hs:swapsWith e (J (.Name x pos')) aX.line X.env=pure ay:=by rfl)(aQ:X.fn x=au\/X.env.scope.names.lookup x=J .local:=by first|exact .inl I|exact .inr I|assumption):
  jz X (.Assign [.Name x pos'] e aX) (sL cH (rP i)):=by
 intro aj s ae H D aa h
 refine wpAny_Assign_Name (cO (he aj s ae H _ aa h) fun v s1 bJ=>?_) hs
 obtain⟨y,H1,bc,b5,cA⟩:=bJ
 exact CA bc b9 aE av b5 (fun s2 bM=>⟨_,H1,bM,cA⟩) aQ
end
section
variable {X:bj} {aX:Pos}
def aaj(c:gH)(de:eG):eG:=fun D ae H=>∃W:Nat->St->ar->Prop,(∃m,W m ae H)/\∀m ae H,W m ae H->
 c ae H fun b H1=>if b=au then ∃N:St->ar->Prop,(∀bU ai,N bU ai->∃cv,cv<m/\W cv bU ai)/\de {D with nx:=N,ct:=N,bk:=D.nx} ae H1 else D.nx ae H1
theorem y3{gb:gH}{de:eG}(bh:lr (model X.prog X.w) X.A X.env X.xe)(hc:jY X c gb)(ao:hD X body de):jz X (.While c body [] aX) (aaj gb de):=by
 intro aj s ae H D aa h
 obtain⟨W,⟨m0,hf⟩,turn⟩:=h
 refine wpAny_While (codeAny_whileLoop (fun n aR=>∃bU ai,Inv X aj bU ai aR/\W n bU ai) ?_ m0 ⟨ae,H,aa,hf⟩)
 rintro n s1 ⟨bV,H1,bc,l1⟩
 refine sU bh (cO (hc aj s1 bV H1 _ bc (turn n bV H1 l1)) fun b s2 bJ=>?_)
 obtain⟨ax,bM,cc⟩:=bJ
 cases b with
 | true =>
  obtain⟨N,b9,cc⟩:=cc
  rw[if_pos rfl]
  refine sU bh (cO (ao aj s2 bV ax _ bM cc) fun f hL fx=>?_)
  cases f with
  |next =>
   obtain⟨ke,bL,iv,Fg⟩:=fx
   obtain⟨cv,hm,nK⟩:=b9 ke bL Fg
   exact⟨cv,hm,ke,bL,iv,nK⟩
  |cont =>
   obtain⟨ke,bL,iv,Fg⟩:=fx
   obtain⟨cv,hm,nK⟩:=b9 ke bL Fg
   exact⟨cv,hm,ke,bL,iv,nK⟩
  |brk=>exact fx
  |ret v=>exact fx
 |false =>
  rw[if_neg g0]
  exact wpAny_execs_nil ⟨bV,ax,bM,cc⟩
end
structure jW where
 go:Nat->ar->Prop
 p3:Nat->ar->V->ar->Prop
 stop:Nat->ar->Prop
def oX(X:bj)(aj:List (ah×bo))(H:ar)(b:ah):Prop :=
 H b=aw/\b≠X.env.locals/\b∉X.fs/\(b∈X.ex\/X.dq.heap.objs.size<=b)/\(∀x c,X.env.cells.lookup x=J c->c≠b)/\∀p∈X.pn++aj,p.1≠b
theorem Inv.pq{X:bj}{ae:St}{ai:ar}{b:ah}(aa:Inv X aj ae H s)(ao:s.heap.objs.size<=b)(bf:ai b=aw):oX X aj ai b:=by
 refine⟨bf,Nat.ne_of_gt (ez aa.lt ao),aa.XR ao,.inr (dp aa.cS ao),fun x c e z=>?_,fun p bh z=>?_⟩
 ·obtain⟨v,q⟩:=aa.cell x c e
  exact absurd (ez q.lt (by rw[z];exact ao)) (Nat.lt_irrefl _)
 .exact absurd (ez (en (aa.pin p bh).1) (by rw[z];exact ao)) (Nat.lt_irrefl _)
structure Turn(P:cW)(w:cD)(K:bH)(ek:cq)(dS:jW)(bX:List ah)(it:ah)(h5:Nat->bb->Prop):Prop where
 mem:it∈bX
 obj:∀i h,h5 i h->∀b∈bX,∃o,h.get? b=J o/\∀v,o.data≠.cell v
 keep:∀i h h',h5 i h->(∀b∈bX,∀o,h.get? b=J o->h'.get? b=J o)->h5 i h'
 item:∀(X:bj),X.prog=P->X.w=w->X.K=K->X.calm=au->∀(i:Nat)(aj:List (ah×bo))(s:aJ)(ae:St)(H:ar)(E:al->aJ->Prop),Inv X aj ae H s->(∀b∈bX,oX X aj H b)->h5 i s.heap->dS.go i H->
  bK (model P w) X.A (pyNext (.ref it)) (fun r s1=>∃u,r=J u/\
   bK (model P w) X.A (letOwnedTupleGo ek (.ref it) u) (fun _ s2=>∃x ai,Inv X aj ae ai s2/\RelV x u/\dS.p3 i H x ai/\h5 (i+1) s2.heap/\∀b∈bX,ai b=aw) E s1) E s
 done:∀(X:bj),X.prog=P->X.w=w->X.K=K->X.calm=au->∀(i:Nat)(aj:List (ah×bo))(s:aJ)(ae:St)(H:ar)(E:al->aJ->Prop),Inv X aj ae H s->(∀b∈bX,oX X aj H b)->h5 i s.heap->dS.stop i H->
  bK (model P w) X.A (pyNext (.ref it)) (fun r s1=>r=aw/\Inv X aj ae H s1) E s
 self:∀(A:c1)(i:Nat)(s:aJ)(Q:al->aJ->Prop)(E:al->aJ->Prop),h5 i s.heap->Q (.ref it) s->bK (model P w) A (pyIter (.ref it)) Q E s
noncomputable abbrev dW:=St->ar->(jW->ar->Prop)->Prop
def BC(X:bj)(aj:List (ah×bo))(ae:St)(ek:cq)(R:jW->ar->Prop)(E4:al)(s2:aJ):Prop :=
 ∃(it:ah)(bX:List ah)(h5:Nat->bb->Prop)(dS:jW)(ai:ar),E4=.ref it/\Inv X aj ae ai s2/\Turn X.prog X.w X.K ek dS bX it h5/\h5 0 s2.heap/\(∀b∈bX,oX X aj ai b)/\R dS ai
def iJ(X:bj)(ek iter:cq)(h7:dW):Prop :=
 ∀(aj:List (ah×bo))(s:aJ)(ae:St)(H:ar)(R:jW->ar->Prop),Inv X aj ae H s->h7 ae H R->
  bK (model X.prog X.w) X.A (eval iter X.env) (fun v s1=>bK (model X.prog X.w) X.A (pyIter v) (BC X aj ae ek R) X.xe s1) X.xe s
theorem wc{n:String}{vs:Array al}(aD:s.heap.get? it=J o)(hc:o.cls=.type n)(hd:o.data=.fields vs)
    (bf:["enumerate","zip","dict_itemiterator","dict_reverseitemiterator","odict_iterator","itertools.zip_longest","itertools.pairwise"].contains n=ay) (fV:Q () s):bK M A (letOwnedTupleGo ek (.ref it) u) Q E s:=by
  unfold letOwnedTupleGo
  cases ek<;>first
    |exact eF fV
    |(cases u<;>first
        |exact eF fV
        | (refine bQ (wpAny_load aD ?_)
           rw[hc,hd]
           show bK M A (if(["enumerate","zip","dict_itemiterator","dict_reverseitemiterator","odict_iterator","itertools.zip_longest","itertools.pairwise"].contains n&&vs[0]? == J (rawInt _))=au then _ else _) Q E s
           rw[if_neg (by intro h;rw[bf,Bool.false_and]at h;cases h)]
           exact eF fV))
noncomputable def oY(K:bH)(a:ah):jW :=
 ⟨fun i H=>∃xs x,dr K H a xs/\xs[i]?=J x,fun i H x ai=>ai=H/\∀xs,dr K H a xs->xs[i]?=J x,fun i H=>∃xs,dr K H a xs/\xs.length<=i⟩
noncomputable def vE(K:bH)(a:ah):jW :=
 ⟨fun i H=>∃xs x,fm K H a xs/\xs[i]?=J x,fun i H x ai=>ai=H/\∀xs,fm K H a xs->xs[i]?=J x,fun i H=>∃xs,fm K H a xs/\xs.length<=i⟩
noncomputable def rd(lo:Int)(n:Nat):jW:=⟨fun i _=>i<n,fun i H x ai=>ai=H/\x=.int (lo+i),fun i _=>n<=i⟩
theorem QE(a it:ah):Turn P w K ek (oY K a) [it] it (fun i h=>h.IsListIter it a i) where
 mem:=by simp
 obj:=fun i h st b ao=>by
  have e:b=it:=by simpa using ao
  subst e
  obtain⟨o,e,c,d⟩:=st
  exact⟨o,e,fun v z=>by rw[d]at z;cases z⟩
 keep:=fun i h h' st k=>st.at fun o e=>k it (by simp) o e
 item:=by
  intro X c7 hw gN hc i aj s ae H E aa aQ st aN
  subst c7 hw gN
  obtain⟨xs,x,aT,av⟩:=aN
  obtain⟨aW,dG,p,bw⟩:=aa.list aT
  obtain⟨u,dZ,fO⟩:=dG.get av
  obtain⟨f0,f1,f2,hh,f4,hv⟩:=aQ it (by simp)
  refine wpAny_pyNext_list_item st p.isList (x:=u) (by simpa using dZ) fun h' jc mE=>?_
  have bc:Inv X aj ae H {s with heap:=h'}:=aa.turned (t':=s.toks) (fun b o ao e=>(mE.2 b ao).trans e) f0 f1 hh f4 hv
  obtain⟨o,e,c,d⟩:=id jc
  exact⟨u,I,wc (s:={s with heap:=h'}) e c d (by decide) ⟨x,H,bc,fO,⟨I,fun aM bF=>by rw[aa.Xh bF aT];exact av⟩,jc,fun b ao=>(aQ b ao).1⟩⟩
 done:=by
  intro X c7 hw gN hc i aj s ae H E aa aQ st aN
  subst c7 hw gN
  obtain⟨xs,aT,av⟩:=aN
  obtain⟨aW,dG,p,bw⟩:=aa.list aT
  obtain⟨f0,f1,f2,hh,f4,hv⟩:=aQ it (by simp)
  have aH:=dG.length
  exact wpAny_pyNext_list_end (aa.ok.hd hc) st p.isList (by simp;omega) fun h' fi=>⟨I,aa.turned (t':=s.toks) (fun b o ao e=>fi b o ao e) f0 f1 hh f4 hv⟩
 self:=fun _ _ _ _ _ st h=>wpAny_pyIter_listiter st h
theorem Qe(a it:ah):Turn P w K ek (vE K a) [it] it (fun i h=>h.IsTupleIter it a i) where
 mem:=by simp
 obj:=fun i h st b ao=>by
  have e:b=it:=by simpa using ao
  subst e
  obtain⟨o,e,c,d⟩:=st
  exact⟨o,e,fun v z=>by rw[d]at z;cases z⟩
 keep:=fun i h h' st k=>st.at fun o e=>k it (by simp) o e
 item:=by
  intro X c7 hw gN hc i aj s ae H E aa aQ st aN
  subst c7 hw gN
  obtain⟨xs,x,aT,av⟩:=aN
  obtain⟨aW,dG,p,bw⟩:=aa.tuple aT
  obtain⟨u,dZ,fO⟩:=dG.get av
  obtain⟨f0,f1,f2,hh,f4,hv⟩:=aQ it (by simp)
  refine wpAny_pyNext_tuple_item st (show s.heap.IsTuple a aW.toArray from p) (x:=u) (by simpa using dZ) fun h' jc mE=>?_
  have bc:Inv X aj ae H {s with heap:=h'}:=aa.turned (t':=s.toks) (fun b o ao e=>(mE.2 b ao).trans e) f0 f1 hh f4 hv
  obtain⟨o,e,c,d⟩:=id jc
  exact⟨u,I,wc (s:={s with heap:=h'}) e c d (by decide) ⟨x,H,bc,fO,⟨I,fun aM bF=>by rw[aa.aaF bF aT];exact av⟩,jc,fun b ao=>(aQ b ao).1⟩⟩
 done:=by
  intro X c7 hw gN hc i aj s ae H E aa aQ st aN
  subst c7 hw gN
  obtain⟨xs,aT,av⟩:=aN
  obtain⟨aW,dG,p,bw⟩:=aa.tuple aT
  obtain⟨f0,f1,f2,hh,f4,hv⟩:=aQ it (by simp)
  have aH:=dG.length
  exact wpAny_pyNext_tuple_end (aa.ok.hd hc) st (show s.heap.IsTuple a aW.toArray from p) (by simp;omega) fun h' fi=>⟨rfl,aa.turned (t':=s.toks) (fun b o ao e=>fi b o ao e) f0 f1 hh f4 hv⟩
 self:=fun _ _ _ _ _ st h=>wpAny_pyIter_tupleiter st h
theorem Qg(it:ah)(lo:Int)(n:Nat):Turn P w K ek (rd lo n) [it] it (fun i h=>IsRangeIter h it (lo+(i:Nat)*1) ((n:Int)-(i:Nat)) 1) where
 mem:=by simp
 obj:=fun i h st b ao=>by
  have e:b=it:=by simpa using ao
  subst e
  exact⟨_,st,fun v z=>by
   have nM:Data.fields _=Data.cell v:=z
   cases nM⟩
 keep:=fun i h h' st k=>k it (by simp) _ st
 item:=by
  intro X c7 hw gN hc i aj s ae H E aa aQ st aN
  subst c7 hw gN
  obtain⟨f0,f1,f2,hh,f4,hv⟩:=aQ it (by simp)
  have W:=Walks.range (prog:=X.prog) (w:=X.w) (aa.ok.hd hc) it lo 1 n
  refine W.item i s _ _ aN st fun v h' c0 bS jc er=>?_
  obtain⟨t,rfl⟩:=bS
  have bc:Inv X aj ae H {s with heap:=h',toks:=c0}:=aa.turned (fun b o ao e=>er b o (by simpa using ao) e) f0 f1 hh f4 hv
  refine⟨_,I,wc (s:={s with heap:=h',toks:=c0}) (n:="range_iterator") jc I I (by decide) ⟨.int (lo+i),H,bc,⟨t,?_⟩,⟨I,I⟩,jc,fun b ao=>(aQ b ao).1⟩⟩
  rw[Int.mul_one]
 done:=by
  intro X c7 hw gN hc i aj s ae H E aa aQ st aN
  subst c7 hw gN
  obtain⟨f0,f1,f2,hh,f4,hv⟩:=aQ it (by simp)
  exact wpAny_pyNext_range_end (aa.ok.hd hc) st (by have:n<=i:=aN;omega) fun h' fi=>⟨I,aa.turned (t':=s.toks) (fun b o ao e=>fi b o ao e) f0 f1 hh f4 hv⟩
 self:=fun _ _ _ _ _ st h=>wpAny_pyIter_rangeiter st h
section
variable {X:bj} {ek:cq}
def E1(K:bH)(fj:TE):dW:=fun ae H R=>fj ae H fun x H1=>∃a,x=.ref a/\(∃xs,dr K H1 a xs)/\R (oY K a) H1
def Ky(K:bH)(fj:TE):dW:=fun ae H R=>fj ae H fun x H1=>∃a,x=.ref a/\(∃xs,fm K H1 a xs)/\R (vE K a) H1
theorem Sb{fj:TE}(aH:b6 X l fj):iJ X ek l (E1 X.K fj):=by
 intro aj s ae H R aa h
 refine cO (aH aj s ae H _ aa h) fun v s1 bJ=>?_
 obtain⟨x,H1,bc,b5,cA⟩:=bJ
 obtain⟨a,e,⟨xs,aT⟩,q⟩:=cA
 subst e
 cases b5
 obtain⟨aW,dG,p,bw⟩:=bc.list aT
 refine wpAny_pyIter_list p.isList ?_
 refine⟨s1.heap.objs.size,[s1.heap.objs.size],_,_,H1,I,bc.kept (t':=s1.toks) fun b o e=>fF _ e,QE a _,⟨_,gZ _ I,I,I⟩,fun b ao=>?_,q⟩
 have e:b=s1.heap.objs.size:=by simpa using ao
 subst e
 exact bc.pq (cQ _) (bc.aU.fresh (cQ _))
theorem SV{fj:TE}(aH:b6 X l fj):iJ X ek l (Ky X.K fj):=by
 intro aj s ae H R aa h
 refine cO (aH aj s ae H _ aa h) fun v s1 bJ=>?_
 obtain⟨x,H1,bc,b5,cA⟩:=bJ
 obtain⟨a,e,⟨xs,aT⟩,q⟩:=cA
 subst e
 cases b5
 obtain⟨aW,dG,p,bw⟩:=bc.tuple aT
 refine wpAny_pyIter_tuple (show s1.heap.IsTuple a aW.toArray from p) ?_
 refine⟨s1.heap.objs.size,[s1.heap.objs.size],_,_,H1,I,bc.kept (t':=s1.toks) fun b o e=>fF _ e,Qe a _,⟨_,gZ _ I,I,I⟩,fun b ao=>?_,q⟩
 have e:b=s1.heap.objs.size:=by simpa using ao
 subst e
 exact bc.pq (cQ _) (bc.aU.fresh (cQ _))
theorem Rp{ae:St}{R:jW->ar->Prop}{aE:Int}{t u v:Tok}{c0:Nat}(aa:Inv X aj ae H s)(aq : -(2^62)<=lo)(az:lo<2^62)(bE : -(2^62)<=aE)(cz:aE<2^62)
  (q:R (rd lo (aE-lo).toNat) H):bK (model X.prog X.w) X.A (pyIter (.ref s.heap.objs.size)) (BC X aj ae ek R) E {s with heap:=s.heap.push {cls :=.type "range",data :=.fields #[.int lo t,.int aE u,.int 1 v]},toks:=c0}:=by
 refine wpAny_pyIter_range (IsRange.new ..) (small_one aq az bE cz) ?_
 have bc:Inv X aj ae H {s with heap:=s.heap.push {cls :=.type "range",data :=.fields #[.int lo t,.int aE u,.int 1 v]},toks:=c0}:=aa.kept fun b o e=>fF _ e
 refine⟨(s.heap.push {cls :=.type "range",data :=.fields #[.int lo t,.int aE u,.int 1 v]}).objs.size,[(s.heap.push {cls :=.type "range",data :=.fields #[.int lo t,.int aE u,.int 1 v]}).objs.size],_,_,H,I,
  bc.kept (t':=c0) fun b o e=>fF _ e,Qg _ lo (aE-lo).toNat,?_,fun b ao=>?_,q⟩
 ·have ba:lo+((0:Nat):Int)*1=lo:=by simp
  have bg:(((aE-lo).toNat:Nat):Int)-((0:Nat):Int)=dh.Range.rangeSize lo aE 1:=by rw[rangeSize_one];split<;>omega
  show IsRangeIter _ _ (lo+((0:Nat):Int)*1) ((((aE-lo).toNat:Nat):Int)-((0:Nat):Int)) 1
  rw[ba,bg]
  exact gZ _ I
 ·have e:b=(s.heap.push {cls :=.type "range",data :=.fields #[.int lo t,.int aE u,.int 1 v]}).objs.size:=by simpa using ao
  subst e
  exact bc.pq (cQ _) (bc.aU.fresh (cQ _))
def WN(cE:hg):dW:=fun ae H R=>cE ae H fun vs H1=>∃j:Int,vs=[.int j]/\-(2^62)<=j/\j<2^62/\R (rd 0 j.toNat) H1
theorem n1{a:cq}{cE:hg}{p:Pos}(aN:iI X "range")(hm:X.mg "range"=aw)(bz:ib X [a] cE)(hs:dN [a] X.env=[(ay,eval a X.env)]:=by rfl):iJ X ek (.Call (.Name "range" p) [a] [] aX) (WN cE):=by
 intro aj s ae H R aa h
 refine Call_ (pd aa aN hm boot_range (PyProof.Rows.callWith_type1 (cO (bz aX aj s ae H _ aa h) fun us s1 bJ=>?_) hs I))
 obtain⟨vs,H1,bc,b5,cA⟩:=bJ
 obtain⟨j,e,cA,cc,q⟩:=cA
 subst e
 cases b5 with
 |cons r mD =>
  cases mD
  obtain⟨t,rfl⟩:=r
  exact call_range_1 (Rp bc (by omega) (by omega) cA cc (by simpa using q))
def Z6(h7:dW)(g:gG)(de:eG):eG:=fun D ae H=>h7 ae H fun dS H1=>∃W:Nat->Nat->St->ar->Prop,(∃m,W 0 m ae H1)/\∀i m ae H,W i m ae H->
 (dS.stop i H/\D.nx ae H)\/(dS.go i H/\∃N:St->ar->Prop,(∀bU ai,N bU ai->∃cv,cv<m/\W (i+1) cv bU ai)/\∀x ai,dS.p3 i H x ai->g x ae ai fun bI ax=>de {D with nx:=N,ct:=N,bk:=D.nx} bI ax)
noncomputable def xr(bX:List ah)(h:bb):List (ah×bo):=bX.filterMap fun b=>(h.get? b).map fun o=>(b,o)
theorem yT{b:ah}(ao:b∈bX)(e:h.get? b=J o):(b,o)∈xr bX h:=List.mem_filterMap.mpr ⟨b,ao,by rw[e];rfl⟩
theorem QU{p:ah×bo}(bh:p∈xr bX h):p.1∈bX/\h.get? p.1=J p.2:=by
 obtain⟨b,ao,e⟩:=List.mem_filterMap.mp bh
 cases q:h.get? b with
 |none=>rw[q]at e;cases e
 |some o =>
  rw[q]at e
  have cR:(b,o)=p:=gk e
  subst cR
  exact⟨ao,q⟩
theorem Inv.pinned{ae:St}(aa:Inv X aj ae H s)(aQ:∀b∈bX,oX X aj H b)(aD:∀b∈bX,∃o,s.heap.get? b=J o/\∀v,o.data≠.cell v):Inv X (aj++xr bX s.heap) ae H s :=
 aa.Fs fun p bh=>(List.mem_append.mp bh).elim (fun z=>aa.pin p (md _ z)) fun z=>by
  obtain⟨ao,e⟩:=QU z
  obtain⟨f0,f1,f2,_⟩:=aQ p.1 ao
  obtain⟨o,cR,d⟩:=aD p.1 ao
  rw[e]at cR;cases cR
  exact⟨e,f0,f1,f2,d⟩
theorem Inv.AS{pl:List (ah×bo)}{ae:St}(aa:Inv X (aj++pl) ae H s):Inv X aj ae H s:=aa.Fs fun p bh=>aa.pin p (md _ (List.mem_append_left _ bh))
theorem qo{h7:dW}{g:gG}{de:eG}(bh:lr (model X.prog X.w) X.A X.env X.xe)(hc:X.calm=au)(aE:iJ X ek iter h7)(aN:nU X ek g)(ao:hD X body de)
  (hs:∀x,foldedSetIterable iter X.env x=pure x:=by intro _;rfl):jz X (.For ek iter body [] aX) (Z6 h7 g de):=by
 intro aj s ae H D aa h
 refine wpAny_For (cO (aE aj s ae H _ aa h) fun v s1 aq=>cO aq fun E4 s2 az=>?_) hs
 obtain⟨it,bX,h5,dS,ax,e,bM,T,jv,f2,W,⟨m0,hf⟩,turn⟩:=az
 subst e
 have sI:∀{ai:ar},(∀b∈bX,ai b=aw)->∀b∈bX,oX X aj ai b:=fun bf b ao=>⟨bf b ao,(f2 b ao).2⟩
 refine codeAny_forLoop_any (fun n aR=>∃i bU ai,Inv X aj bU ai aR/\h5 i aR.heap/\(∀b∈bX,ai b=aw)/\W i n bU ai) ?_ m0 ⟨0,ae,ax,bM,jv,fun b ao=>(f2 b ao).1,hf⟩
 rintro n hL ⟨i,ke,bL,iv,lk,wx,nK⟩
 rcases turn i n ke bL nK with⟨stop,xu⟩|⟨go,N,b9,step⟩
 ·refine sU bh (cO (T.done X I I I hc i aj hL ke bL X.xe iv (sI wx) lk stop) fun r pU bJ=>?_)
  obtain⟨aF,ra⟩:=bJ
  subst aF
  exact wpAny_execs_nil ⟨ke,bL,ra,xu⟩
 ·refine sU bh (cO (T.item X I I I hc i aj hL ke bL X.xe iv (sI wx) lk go) fun r pU bJ=>?_)
  obtain⟨u,aF,cz⟩:=bJ
  subst aF
  refine sU bh (cO cz fun _ uZ bJ=>?_)
  obtain⟨x,ew,mU,qQ,sQ,kc,DD⟩:=bJ
  have Bs:=mU.pinned (sI DD) (T.obj _ _ kc)
  refine sU bh (cO (aN _ uZ ke ew x u _ Bs qQ (step x ew sQ)) fun _ sC bJ=>?_)
  obtain⟨vh,e1,mV,Aq⟩:=bJ
  refine sU bh (cO (ao _ sC vh e1 _ mV Aq) fun f oJ nD=>?_)
  have again:∀{kf:St}{i0:ar},Inv X (aj++xr bX uZ.heap) kf i0 oJ->N kf i0->∃m,m<n/\∃i bU ai,Inv X aj bU ai oJ/\h5 i oJ.heap/\(∀b∈bX,ai b=aw)/\W i m bU ai:=fun{kf i0}jh qK=>by
   obtain⟨cv,hm,xP⟩:=b9 kf i0 qK
   refine⟨cv,hm,i+1,kf,i0,jh.AS,T.keep _ _ _ kc fun b ao o e=>(jh.pin (b,o) (md _ (md _ (yT ao e)))).1,fun b ao=>?_,xP⟩
   obtain⟨o,e,d⟩:=T.obj _ _ kc b ao
   exact(jh.pin (b,o) (md _ (md _ (yT ao e)))).2.1
  cases f with
  |next=>obtain⟨kf,i0,jh,qK⟩:=nD;exact again jh qK
  |cont=>obtain⟨kf,i0,jh,qK⟩:=nD;exact again jh qK
  |brk=>obtain⟨kf,i0,jh,nD⟩:=nD;exact⟨kf,i0,jh.AS,nD⟩
  |ret v=>obtain⟨aaP,kf,i0,jh,Zy,nD⟩:=nD;exact⟨aaP,kf,i0,jh.AS,Zy,nD⟩
end
theorem RH{xs:List V}{g:gG}{de:eG}{D:Ends}{ae:St}(Pv:Nat->St->ar->Prop)(bt:Pv 0 ae H)(aH:∀i ae H,i<=xs.length->Pv i ae H->dr K H a xs)
  (hs:∀i x ae H,xs[i]?=J x->Pv i ae H->g x ae H fun bI ax=>de {D with nx:=Pv (i+1),ct:=Pv (i+1),bk:=D.nx} bI ax) (hd:∀ae H,Pv xs.length ae H->D.nx ae H) :
  ∃W:Nat->Nat->St->ar->Prop,(∃m,W 0 m ae H)/\∀i m ae H,W i m ae H->
   ((oY K a).stop i H/\D.nx ae H)\/((oY K a).go i H/\∃N:St->ar->Prop,(∀bU ai,N bU ai->∃cv,cv<m/\W (i+1) cv bU ai)/\∀x ai,(oY K a).p3 i H x ai->g x ae ai fun bI ax=>de {D with nx:=N,ct:=N,bk:=D.nx} bI ax):=by
 refine⟨fun i m ae H=>m=xs.length-i/\i<=xs.length/\Pv i ae H,⟨xs.length,by simp,UF _,bt⟩,?_⟩
 rintro i m ae H ⟨rfl,aE,p⟩
 have q:=aH i ae H aE p
 by_cases iF:i<xs.length
 ·refine .inr ⟨⟨xs,xs[i],q,by simp[iF]⟩,Pv (i+1),fun bU ai pQ=>⟨xs.length-(i+1),by omega,rfl,iF,pQ⟩,fun x ai y=>?_⟩
  obtain⟨e,y⟩:=y
  subst e
  exact hs i x ae _ (y xs q) p
 ·have e:i=xs.length:=by omega
  subst e
  exact .inl ⟨⟨xs,q,cQ _⟩,hd ae H p⟩
theorem SA{xs:List V}{g:gG}{de:eG}{D:Ends}{ae:St}(Pv:Nat->St->ar->Prop)(bt:Pv 0 ae H)(aH:∀i ae H,i<=xs.length->Pv i ae H->fm K H a xs)
  (hs:∀i x ae H,xs[i]?=J x->Pv i ae H->g x ae H fun bI ax=>de {D with nx:=Pv (i+1),ct:=Pv (i+1),bk:=D.nx} bI ax) (hd:∀ae H,Pv xs.length ae H->D.nx ae H) :
  ∃W:Nat->Nat->St->ar->Prop,(∃m,W 0 m ae H)/\∀i m ae H,W i m ae H->
   ((vE K a).stop i H/\D.nx ae H)\/((vE K a).go i H/\∃N:St->ar->Prop,(∀bU ai,N bU ai->∃cv,cv<m/\W (i+1) cv bU ai)/\∀x ai,(vE K a).p3 i H x ai->g x ae ai fun bI ax=>de {D with nx:=N,ct:=N,bk:=D.nx} bI ax):=by
 refine⟨fun i m ae H=>m=xs.length-i/\i<=xs.length/\Pv i ae H,⟨xs.length,by simp,UF _,bt⟩,?_⟩
 rintro i m ae H ⟨rfl,aE,p⟩
 have q:=aH i ae H aE p
 by_cases iF:i<xs.length
 ·refine .inr ⟨⟨xs,xs[i],q,by simp[iF]⟩,Pv (i+1),fun bU ai pQ=>⟨xs.length-(i+1),by omega,rfl,iF,pQ⟩,fun x ai y=>?_⟩
  obtain⟨e,y⟩:=y
  subst e
  exact hs i x ae _ (y xs q) p
 ·have e:i=xs.length:=by omega
  subst e
  exact .inl ⟨⟨xs,q,cQ _⟩,hd ae H p⟩
theorem vR{g:gG}{de:eG}{D:Ends}{ae:St}(Pv:Nat->St->ar->Prop)(bt:Pv 0 ae H)
  (hs:∀i ae H,i<n->Pv i ae H->g (.int (lo+i)) ae H fun bI ax=>de {D with nx:=Pv (i+1),ct:=Pv (i+1),bk:=D.nx} bI ax) (hd:∀ae H,Pv n ae H->D.nx ae H) :
  ∃W:Nat->Nat->St->ar->Prop,(∃m,W 0 m ae H)/\∀i m ae H,W i m ae H->
   ((rd lo n).stop i H/\D.nx ae H)\/((rd lo n).go i H/\∃N:St->ar->Prop,(∀bU ai,N bU ai->∃cv,cv<m/\W (i+1) cv bU ai)/\∀x ai,(rd lo n).p3 i H x ai->g x ae ai fun bI ax=>de {D with nx:=N,ct:=N,bk:=D.nx} bI ax):=by
 refine⟨fun i m ae H=>m=n-i/\i<=n/\Pv i ae H,⟨n,by simp,UF _,bt⟩,?_⟩
 rintro i m ae H ⟨rfl,aE,p⟩
 by_cases iF:i<n
 ·refine .inr ⟨iF,Pv (i+1),fun bU ai pQ=>⟨n-(i+1),by omega,rfl,iF,pQ⟩,fun x ai y=>?_⟩
  obtain⟨e,y⟩:=y
  subst e y
  exact hs i ae _ iF p
 ·have e:i=n:=by omega
  subst e
  exact .inl ⟨cQ _,hd ae H p⟩
noncomputable abbrev ic:=V->V->ar->bP->Prop
def dO(X:bj)(f:al->al->Sem al)(r:ic):Prop :=
 ∀(aj:List (ah×bo))(s:aJ)(ae:St)(H:ar)(x y:V)(v u:al)(Q:bP),Inv X aj ae H s->RelV x v->RelV y u->r x y H Q->
  bK (model X.prog X.w) X.A (f v u) (hN X aj ae Q) X.xe s
def BQ(X:bj)(f:al->Sem al)(r:V->ar->bP->Prop):Prop :=
 ∀(aj:List (ah×bo))(s:aJ)(ae:St)(H:ar)(x:V)(v:al)(Q:bP),Inv X aj ae H s->RelV x v->r x H Q->
  bK (model X.prog X.w) X.A (f v) (hN X aj ae Q) X.xe s
def gR(X:bj)(f:al)(r:List V->ar->bP->Prop):Prop :=
 ∀(aj:List (ah×bo))(s:aJ)(ae:St)(H:ar)(xs:List V)(us:List al)(Q:bP),Inv X aj ae H s->Vals xs us->r xs H Q->
  bK (model X.prog X.w) X.A (call f us) (hN X aj ae Q) X.xe s
def NV(X:bj)(r:V->ar->(Bool->ar->Prop)->Prop):Prop :=
 ∀(aj:List (ah×bo))(s:aJ)(ae:St)(H:ar)(x:V)(v:al)(Q:Bool->ar->Prop),Inv X aj ae H s->RelV x v->r x H Q->
  bK (model X.prog X.w) X.A (truthy v) (yv X aj ae Q) X.xe s
def jQ(r:ic)(cE de:TE):TE:=fun ae H Q=>cE ae H fun x H1=>de ae H1 fun y ax=>r x y ax Q
def aai(r:V->ar->bP->Prop)(cE:TE):TE:=fun ae H Q=>cE ae H fun x H1=>r x H1 Q
inductive GS(C:Int->Int->Prop)(x y:V)(Q:Int->Int->Prop):Prop where
 |mk (i j:Int) (a:x=.int i) (b:y=.int j) (c:C i j) (h:Q i j):GS C x y Q
def oH(C:Int->Int->Prop)(g:Int->Int->V):ic:=fun x y H Q=>GS C x y fun i j=>Q (g i j) H
inductive GU(x y:V)(Q:Int->Int->Prop):Prop where
 |mk (i j:Int) (a:x=.int i) (b:y=.int j) (h:Q i j):GU x y Q
def lY(g:Int->Int->V):ic:=fun x y H Q=>GU x y fun i j=>Q (g i j) H
noncomputable def Lg(g:Int->V):V->ar->bP->Prop:=fun x H Q=>∃i,x=.int i/\Q (g i) H
variable {f:al->al->Sem al} {r:ic} {g:Int->Int->Int}
section
variable {X:bj} {a b c:cq} {cE de gb:TE} {aX:Pos}
theorem Df(bz:b6 X a cE)(ao:b6 X b de){ae:St}{R:V->V->ar->Prop}(aa:Inv X aj ae H s)
  (h:cE ae H fun x H1=>de ae H1 fun y ax=>R x y ax) {Q:al->aJ->Prop}
  (aQ:∀v u s2 x y ax,Inv X aj ae ax s2->RelV x v->RelV y u->R x y ax->bK (model X.prog X.w) X.A (f v u) Q X.xe s2) :
  bK (model X.prog X.w) X.A (eval a X.env) (fun v dQ=>bK (model X.prog X.w) X.A (eval b X.env) (fun u mG=>bK (model X.prog X.w) X.A (f v u) Q X.xe mG) X.xe dQ) X.xe s:=by
 refine cO (bz aj s ae H _ aa h) fun v s1 bJ=>?_
 obtain⟨x,H1,bc,b5,cA⟩:=bJ
 refine cO (ao aj s1 ae H1 _ bc cA) fun u s2 bJ=>?_
 obtain⟨y,ax,bM,eL,cc⟩:=bJ
 exact aQ v u s2 x y ax bM b5 eL cc
theorem aL{op:Operator}(aD:dO X (jT op) r)(bz:b6 X a cE)(ao:b6 X b de):b6 X (.BinOp a op b aX) (jQ r cE de):=by
 intro aj s ae H Q aa h
 exact wpAny_BinOp (Df bz ao aa h fun v u s2 x y ax bM bl cw q=>aD aj s2 ae ax x y v u Q bM bl cw q)
theorem pf{op:UnaryOp}{r:V->ar->bP->Prop}(aD:BQ X (unaryOp op) r)(bz:b6 X a cE):b6 X (.UnaryOp op a aX) (aai r cE):=by
 intro aj s ae H Q aa h
 refine UnaryOp_ (cO (bz aj s ae H _ aa h) fun v s1 bJ=>?_)
 obtain⟨x,H1,bc,b5,cA⟩:=bJ
 exact aD aj s1 ae H1 x v Q bc b5 cA
theorem qP{C:Int->Int->Prop}
  (rule:∀(i j:Int)(t u:Tok)(s:aJ)(Q:al->aJ->Prop)(E:al->aJ->Prop),C i j->Q (.int (g i j) s.toks) {s with toks:=s.toks+1}->bK (model X.prog X.w) X.A (f (.int i t) (.int j u)) Q E s) :
  dO X f (oH C fun i j =>.int (g i j)):=by
 intro aj s ae H x y v u Q aa bl cw h
 obtain⟨i,j,rfl,rfl,hc,q⟩:=h
 obtain⟨t,rfl⟩:=bl
 obtain⟨t',rfl⟩:=cw
 exact rule i j t t' s _ _ hc ⟨.int (g i j),H,aa.tok _,⟨_,I⟩,q⟩
theorem Fq
  (rule:∀(i j:Int)(t u:Tok)(s:aJ)(Q:al->aJ->Prop)(E:al->aJ->Prop),Q (.int (g i j) s.toks) {s with toks:=s.toks+1}->bK (model X.prog X.w) X.A (f (.int i t) (.int j u)) Q E s) :
  dO X f (lY fun i j =>.int (g i j)):=by
 intro aj s ae H x y v u Q aa bl cw h
 obtain⟨i,j,rfl,rfl,q⟩:=h
 obtain⟨t,rfl⟩:=bl
 obtain⟨t',rfl⟩:=cw
 exact rule i j t t' s _ _ ⟨.int (g i j),H,aa.tok _,⟨_,I⟩,q⟩
theorem Al{g:Int->Int->Bool}
  (rule:∀(i j:Int)(t u:Tok)(s:aJ)(Q:al->aJ->Prop)(E:al->aJ->Prop),Q (.bool (g i j)) s->bK (model X.prog X.w) X.A (f (.int i t) (.int j u)) Q E s) :
  dO X f (lY fun i j =>.aC (g i j)):=by
 intro aj s ae H x y v u Q aa bl cw h
 obtain⟨i,j,rfl,rfl,q⟩:=h
 obtain⟨t,rfl⟩:=bl
 obtain⟨t',rfl⟩:=cw
 exact rule i j t t' s _ _ ⟨.aC (g i j),H,aa,I,q⟩
def Gi(i j:Int):Prop:=0<j/\j<1073741824
def sY(i j:Int):Prop:=0<=j/\j<=1000000/\i.natAbs<2^64
def x2(i j:Int):Prop:=(-(2^64)<i/\i<2^64)\/(-(2^64)<j/\j<2^64)
theorem x2.ok{i j:Int}(h:x2 i j):IntMulOk i j:=by
 rcases h with⟨aq,az⟩|⟨aq,az⟩
 .exact .of_left (intBits_le_64 aq az)
 .exact .of_right (intBits_le_64 aq az)
theorem Qd(k:Nat):(0:Int)<=2^k:=by
 rw[two_pow_cast]
 exact Int.natCast_nonneg _
theorem S4:dO X (jT .Add) (lY fun i j =>.int (i+j)):=Fq fun _ _ _ _ _ _ _ q=>add_int q
theorem SZ:dO X (jT .Sub) (lY fun i j =>.int (i-j)):=Fq fun _ _ _ _ _ _ _ q=>sub_int q
theorem S2:dO X (jT .Mult) (oH x2 fun i j =>.int (i*j)):=qP fun _ _ _ _ _ _ _ hc q=>mul_int q hc.ok
theorem fG:dO X (jT .FloorDiv) (oH Gi fun i j =>.int (i/j)):=qP fun i j _ _ _ _ _ hc q=>by
 have aq:(0:Int)<j:=hc.1
 have az:j<1073741824:=hc.2
 exact floordiv_int (by omega) (by rw[Int.fdiv_eq_ediv_of_nonneg i (by omega)];exact q) (.inl (PyProof.noPylong_small (by omega)))
theorem cZ:dO X (jT .Mod) (oH (fun _ j=>0<j) fun i j =>.int (i%j)):=qP fun i j _ _ _ _ _ hc q=>by
 have aq:(0:Int)<j:=hc
 exact mod_int' (by omega) (by rw[Int.fmod_eq_emod_of_nonneg i (by omega)];exact q)
theorem pa:dO X (jT .Pow) (oH sY fun i j =>.int (i^j.toNat)):=qP fun _ _ _ _ _ _ _ hc q=>pow_int_small hc.1 hc.2.1 hc.2.2 q
theorem t5:dO X (jT .LShift) (oH sY fun i j =>.int (i*2^j.toNat)):=qP fun _ _ _ _ _ _ _ hc q=>lshift_int_small hc.1 hc.2.1 hc.2.2 q
theorem S0:dO X (jT .RShift) (oH (fun _ j=>0<=j) fun i j =>.int (i/2^j.toNat)):=qP fun i j _ _ _ _ _ hc q =>
 rshift_int hc (by rw[Int.fdiv_eq_ediv_of_nonneg i (Qd _)];exact q)
theorem S3:dO X (jT .BitAnd) (lY fun i j =>.int (dh.bitAnd i j)):=Fq fun _ _ _ _ _ _ _ q=>and_int q
theorem aaJ{f:al->Sem al}{g:Int->Int}
  (rule:∀(i:Int)(t:Tok)(s:aJ)(Q:al->aJ->Prop)(E:al->aJ->Prop),Q (.int (g i) s.toks) {s with toks:=s.toks+1}->bK (model X.prog X.w) X.A (f (.int i t)) Q E s) :
  BQ X f (Lg fun i =>.int (g i)):=by
 intro aj s ae H x v Q aa bl h
 obtain⟨i,rfl,q⟩:=h
 obtain⟨t,rfl⟩:=bl
 exact rule i t s _ _ ⟨.int (g i),H,aa.tok _,⟨_,I⟩,q⟩
theorem o8:BQ X (unaryOp .USub) (Lg fun i =>.int (-i)):=aaJ fun _ _ _ _ _ q=>neg_int q
end
noncomputable def Lk:V->V->Bool
 |.aK,.aK=>au|.aK,.int _=>au|.int _,.aK=>au|.aK,.aC _=>au|.aC _,.aK=>au|.aK,.str _=>au|.str _,.aK=>au
 |.int _,.int _=>au|.aC _,.aC _=>au|.str _,.str _=>au|.j1 _,.j1 _=>au
 |.int _,.str _=>au|.str _,.int _=>au|.aC _,.str _=>au|.str _,.aC _=>au
 |_,_=>ay
def pS:ic:=fun x y H Q=>Lk x y=au/\Q (.aC (decide (x=y))) H
def Lf:ic:=fun x y H Q=>Lk x y=au/\Q (.aC (!decide (x=y))) H
theorem zf{i j:Int}:decide (V.int i=V.int j)=(i == j):=by
 rw[Bool.eq_iff_iff]
 simp
theorem Jg{i j:Bool}:decide (V.aC i=V.aC j)=(i == j):=by
 rw[Bool.eq_iff_iff]
 simp
theorem IU{i j:af}:decide (V.str i=V.str j)=(i == j):=by
 rw[Bool.eq_iff_iff]
 simp
theorem IV{i j:Array UInt8}:decide (V.j1 i=V.j1 j)=(i.toList == j.toList):=by
 rw[Bool.eq_iff_iff]
 cases i
 cases j
 simp
section
variable {X:bj} {a b c:cq} {cE de gb:TE} {aX:Pos}
theorem fe{ae:St}{Q:bP}{k jo:Bool}(aa:Inv X aj ae H s)(q:Q (.aC k) H)(e:k=jo):hN X aj ae Q (.bool jo) s:=by
 subst e
 exact⟨.aC k,H,aa,I,q⟩
theorem Ts:dO X (hC .Eq) pS:=by
 intro aj s ae H x y v u Q aa bl cw h
 obtain⟨hs,q⟩:=h
 cases x with
 |aK =>
  cases bl
  cases y with
  |aK=>cases cw;exact PySem.EqNone.eq_none_none (fe aa q (by simp))
  |aC j=>cases cw;exact PySem.EqNone.eq_none_bool (fe aa q (by simp))
  |int j=>obtain⟨t',rfl⟩:=cw;exact PySem.EqNone.eq_none_int (fe aa q (by simp))
  |str j=>obtain⟨t',rfl⟩:=cw;exact PySem.EqNone.eq_none_str (fe aa q (by simp))
  |_=>exact absurd (show ay=au from hs) g0
 |aC i =>
  cases bl
  cases y with
  |aK=>cases cw;exact PySem.EqNone.eq_bool_none (fe aa q (by simp))
  |aC j=>cases cw;exact eq_bool (fe aa q Jg)
  |str j=>obtain⟨t',rfl⟩:=cw;exact PySem.EqMixed.eq_bool_str (fe aa q (by simp))
  |_=>exact absurd (show ay=au from hs) g0
 |int i =>
  obtain⟨t,rfl⟩:=bl
  cases y with
  |aK=>cases cw;exact PySem.EqNone.eq_int_none (fe aa q (by simp))
  |int j=>obtain⟨t',rfl⟩:=cw;exact eq_int (fe aa q zf)
  |str j=>obtain⟨t',rfl⟩:=cw;exact PySem.EqMixed.eq_int_str (fe aa q (by simp))
  |_=>exact absurd (show ay=au from hs) g0
 |str i =>
  obtain⟨t,rfl⟩:=bl
  cases y with
  |aK=>cases cw;exact PySem.EqNone.eq_str_none (fe aa q (by simp))
  |aC j=>cases cw;exact PySem.EqMixed.eq_str_bool (fe aa q (by simp))
  |int j=>obtain⟨t',rfl⟩:=cw;exact PySem.EqMixed.eq_str_int (fe aa q (by simp))
  |str j=>obtain⟨t',rfl⟩:=cw;exact eq_str (fe aa q IU)
  |_=>exact absurd (show ay=au from hs) g0
 |j1 i =>
  obtain⟨t,rfl⟩:=bl
  cases y with
  |j1 j=>obtain⟨t',rfl⟩:=cw;exact PySem.W.eq_bytes (fe aa q IV)
  |_=>exact absurd (show ay=au from hs) g0
 |_=>cases y<;>exact absurd (show ay=au from hs) g0
theorem Tn:dO X (hC .NotEq) Lf:=by
 intro aj s ae H x y v u Q aa bl cw h
 obtain⟨hs,q⟩:=h
 cases x with
 |aK =>
  cases bl
  cases y with
  |aK=>cases cw;exact PySem.EqNone.ne_none_none (fe aa q (by simp))
  |aC j=>cases cw;exact PySem.EqNone.ne_none_bool (fe aa q (by simp))
  |int j=>obtain⟨t',rfl⟩:=cw;exact PySem.EqNone.ne_none_int (fe aa q (by simp))
  |str j=>obtain⟨t',rfl⟩:=cw;exact PySem.EqNone.ne_none_str (fe aa q (by simp))
  |_=>exact absurd (show ay=au from hs) g0
 |aC i =>
  cases bl
  cases y with
  |aK=>cases cw;exact PySem.EqNone.ne_bool_none (fe aa q (by simp))
  |aC j=>cases cw;exact ne_bool (fe aa q (congrArg not Jg))
  |str j=>obtain⟨t',rfl⟩:=cw;exact PySem.EqMixed.ne_bool_str (fe aa q (by simp))
  |_=>exact absurd (show ay=au from hs) g0
 |int i =>
  obtain⟨t,rfl⟩:=bl
  cases y with
  |aK=>cases cw;exact PySem.EqNone.ne_int_none (fe aa q (by simp))
  |int j=>obtain⟨t',rfl⟩:=cw;exact ne_int (fe aa q (congrArg not zf))
  |str j=>obtain⟨t',rfl⟩:=cw;exact PySem.EqMixed.ne_int_str (fe aa q (by simp))
  |_=>exact absurd (show ay=au from hs) g0
 |str i =>
  obtain⟨t,rfl⟩:=bl
  cases y with
  |aK=>cases cw;exact PySem.EqNone.ne_str_none (fe aa q (by simp))
  |aC j=>cases cw;exact PySem.EqMixed.ne_str_bool (fe aa q (by simp))
  |int j=>obtain⟨t',rfl⟩:=cw;exact PySem.EqMixed.ne_str_int (fe aa q (by simp))
  |str j=>obtain⟨t',rfl⟩:=cw;exact ne_str (fe aa q (congrArg not IU))
  |_=>exact absurd (show ay=au from hs) g0
 |j1 i =>
  obtain⟨t,rfl⟩:=bl
  cases y with
  |j1 j=>obtain⟨t',rfl⟩:=cw;exact PySem.W.ne_bytes (fe aa q (congrArg not IV))
  |_=>exact absurd (show ay=au from hs) g0
 |_=>cases y<;>exact absurd (show ay=au from hs) g0
theorem To:dO X (hC .Lt) (lY fun i j =>.aC (decide (i<j))):=Al fun _ _ _ _ _ _ _ q=>lt_int q
theorem Tp:dO X (hC .LtE) (lY fun i j =>.aC (decide (i<=j))):=Al fun _ _ _ _ _ _ _ q=>le_int q
theorem Tq:dO X (hC .Gt) (lY fun i j =>.aC (decide (j<i))):=Al fun _ _ _ _ _ _ _ q=>gt_int q
theorem Tr:dO X (hC .GtE) (lY fun i j =>.aC (decide (j<=i))):=Al fun _ _ _ _ _ _ _ q=>ge_int q
inductive yt(x y:V)(Q:af->af->Prop):Prop where
 |mk (i j:af) (a:x=.str i) (b:y=.str j) (h:Q i j):yt x y Q
theorem QR:dO X (hC .Lt) (fun x y H Q=>yt x y fun i j=>Q (.aC (decide (i.cps.toList<j.cps.toList))) H):=by
 intro aj s ae H x y v u Q aa bl cw h
 obtain⟨i,j,rfl,rfl,q⟩:=h
 obtain⟨t,rfl⟩:=bl
 obtain⟨t',rfl⟩:=cw
 exact lt_str (fe aa q I)
theorem QS:dO X (hC .In) (fun x y H Q=>yt x y fun i j=>Q (.aC (!(dh.Str.occurrences j i 0 j.length 1).isEmpty)) H):=by
 intro aj s ae H x y v u Q aa bl cw h
 obtain⟨i,j,rfl,rfl,q⟩:=h
 obtain⟨t,rfl⟩:=bl
 obtain⟨t',rfl⟩:=cw
 exact in_str (fe aa q I)
theorem t6:dO X (hC .Is) (fun x y H Q=>y=.aK/\Q (.aC (decide (x=.aK))) H):=by
 intro aj s ae H x y v u Q aa bl cw h
 obtain⟨rfl,q⟩:=h
 cases cw
 refine is_none_gen (fe aa q ?_)
 cases x<;>first
  |(cases bl;rfl)
  |(obtain⟨t,rfl⟩:=bl;rfl)
theorem Sj:dO X (hC .IsNot) (fun x y H Q=>y=.aK/\Q (.aC (!decide (x=.aK))) H):=by
 intro aj s ae H x y v u Q aa bl cw h
 obtain⟨rfl,q⟩:=h
 cases cw
 refine isnot_none_gen (fe aa q ?_)
 cases x<;>first
  |(cases bl;rfl)
  |(obtain⟨t,rfl⟩:=bl;rfl)
theorem dO.or{dE:ic}(h:dO X f r)(h':dO X f dE):dO X f (fun x y H Q=>r x y H Q\/dE x y H Q):=by
 intro aj s ae H x y v u Q aa bl cw q
 rcases q with q|q
 .exact h aj s ae H x y v u Q aa bl cw q
 .exact h' aj s ae H x y v u Q aa bl cw q
theorem I9(b:cq)(h:op≠.In:=by decide)(az:op≠.NotIn:=by decide):behindInMarks op b=ay:=by
 have ba:(op == CmpOp.In)=ay:=by cases op<;>first|rfl|exact absurd I h
 have bg:(op == CmpOp.NotIn)=ay:=by cases op<;>first|rfl|exact absurd I az
 cases b<;>simp[behindInMarks,ba,bg]
theorem IL(aD:dO X (hC op) r)(bz:b6 X a cE)(ao:b6 X b de)(hm:behindInMarks op b=ay):b6 X (.Compare a [op] [b] aX) (jQ r cE de):=by
 intro aj s ae H Q aa h
 exact wpAny_Compare1 (Df bz ao aa h fun v u s2 x y ax bM bl cw q=>aD aj s2 ae ax x y v u Q bM bl cw q) hm
inductive G0(x:V)(Q:Bool->Prop):Prop where
 |mk (k:Bool) (a:x=.aC k) (h:Q k):G0 x Q
def pZ(t:TE):gH:=fun ae H Q=>t ae H fun x ai=>G0 x fun k=>Q k ai
theorem zb(aD:dO X (hC op) r)(bz:b6 X a cE)(ao:b6 X b de)(hm:behindInMarks op b=ay):jY X (.Compare a [op] [b] aX) (pZ (jQ r cE de)):=by
 intro aj s ae H Q aa h
 refine wpAny_isTrue_Compare1 (cO (bz aj s ae H _ aa h) fun v s1 ⟨x,H1,bc,b5,cA⟩=>cO (ao aj s1 ae H1 _ bc cA) fun u s2 ⟨y,ax,bM,eL,cc⟩ =>
  cO (aD aj s2 ae ax x y v u _ bM b5 eL cc) fun c hL ⟨z,bL,iv,xw,k,e,fx⟩=>?_) hm
 subst e
 cases xw
 exact xY ⟨bL,iv,fx⟩
def vM(K:bH)(x:V)(H:ar)(k:Bool):Prop :=
 match x with
 |.aK=>k=ay
 |.aC b=>k=b
 |.int i=>k=(i != 0)
 |.str y=>y.length<=bW/\k=((y.length:Int) != 0)
 |.j1 y=>y.size<=bW/\k=((y.size:Int) != 0)
 |.ref p=>(∃xs,dr K H p xs/\k=!xs.isEmpty)\/(∃xs,fm K H p xs/\k=!xs.isEmpty)\/∃fB,H p=J (.lH fB)/\k=!fB.isEmpty
 |_=>False
theorem Qy{sR:Type}{fB:List (sR×V)}{vs:List (sR×al)}(r:Bw fB vs):(!vs.isEmpty)=!fB.isEmpty:=by
 cases r<;>rfl
theorem Hw{xs:List V}(r:Vals xs aW):(!aW.toArray.isEmpty)=!xs.isEmpty:=by
 cases r<;>simp
theorem sd:(bW:Nat)<2^63:=by rw[sizeLine_eq];decide
theorem I3:NV X (fun x H Q=>∃k,vM X.K x H k/\Q k H):=by
 intro aj s ae H x v Q aa bl h
 obtain⟨k,e,q⟩:=h
 have aH:=sd
 have hs:bW=16777216:=sizeLine_eq
 cases x with
 |aK =>
  cases bl
  have cR:k=ay:=e
  subst cR
  exact truthy_none ⟨H,aa,q⟩
 |aC b =>
  cases bl
  have cR:k=b:=e
  subst cR
  exact xY ⟨H,aa,q⟩
 |int i =>
  obtain⟨t,rfl⟩:=bl
  have cR:k=(i != 0):=e
  subst cR
  exact PySem.P.truthy_int ⟨H,aa,q⟩
 |str y =>
  obtain⟨t,rfl⟩:=bl
  obtain⟨bF,cR⟩:y.length<=bW/\k=((y.length:Int) != 0):=e
  subst cR
  exact PySem.P.truthy_str (by omega) ⟨H,aa.tok _,q⟩
 |j1 y =>
  obtain⟨t,rfl⟩:=bl
  obtain⟨bF,cR⟩:y.size<=bW/\k=((y.size:Int) != 0):=e
  subst cR
  exact PySem.W.truthy_bytes (by omega) ⟨H,aa.tok _,q⟩
 | ref p =>
  cases bl
  have cR:(∃xs,dr X.K H p xs/\k=!xs.isEmpty)\/(∃xs,fm X.K H p xs/\k=!xs.isEmpty)\/∃fB,H p=J (.lH fB)/\k=!fB.isEmpty:=e
  rcases cR with⟨xs,av,cR⟩|⟨xs,av,cR⟩|⟨fB,av,cR⟩
  ·subst cR
   obtain⟨aW,r,pl,bw⟩:=aa.list av
   have cG:=r.length
   exact wpAny_truthy_list pl.isList (by simp only[eV];omega) ⟨H,aa.tok _,by rw[Hw r];exact q⟩
  ·subst cR
   obtain⟨aW,r,pl,bw⟩:=aa.tuple av
   have cG:=r.length
   exact truthy_tuple pl (by simp only[eV];omega) ⟨H,aa.tok _,by rw[Hw r];exact q⟩
  ·subst cR
   obtain⟨bw,fu,vs,r,m⟩:fB.length<=bW/\(p == sysModules)=ay/\∃vs,Bw fB vs/\s.heap.DictOf (KO X.prog X.w) p vs:=aa.aU p _ av
   have cG:fB.length=vs.length:=Paired.length r
   exact wpAny_truthy_dict fu m (by omega) ⟨H,aa.tok _,by rw[Qy r];exact q⟩
 |_=>exact(show False from e).elim
theorem Rr(bz:b6 X a cE)(he:∀whole,isTrue a X.env whole=(do let v <-whole;standAt a.pos;holding [v] (truthy v))):
  jY X a (fun ae H Q=>cE ae H fun x ai=>∃k,vM X.K x ai k/\Q k ai):=by
 intro aj s ae H Q aa h
 refine isTrue_plain (cO (bz aj s ae H _ aa h) fun v s1 bJ=>?_) (he _)
 obtain⟨x,H1,bc,b5,cA⟩:=bJ
 exact I3 aj s1 ae H1 x v Q bc b5 cA
inductive GV(x y:V)(Q:af->af->Prop):Prop where
 |mk (i j:af) (a:x=.str i) (b:y=.str j) (c:i.length+j.length<=bW) (h:Q i j):GV x y Q
theorem Qp:dO X (jT .Add) (fun x y H Q=>GV x y fun i j=>Q (.str (i++j)) H):=by
 intro aj s ae H x y v u Q aa bl cw h
 obtain⟨i,j,rfl,rfl,bw,q⟩:=h
 obtain⟨t,rfl⟩:=bl
 obtain⟨t',rfl⟩:=cw
 exact add_str (fun t' c0=>⟨.str (i++j),H,aa.tok _,⟨_,I⟩,q⟩) bw
theorem vals1{x:V}(r:Vals [x] us):∃u,us=[u]/\RelV x u:=by
 cases r with
 |cons b5 eL=>cases eL;exact⟨_,I,b5⟩
theorem vals2{x y:V}(r:Vals [x,y] us):∃u hA,us=[u,hA]/\RelV x u/\RelV y hA:=by
 cases r with
 |cons b5 eL =>
  cases eL with
  |cons xw Fv=>cases Fv;exact⟨_,_,I,b5,xw⟩
theorem RQ:gR X (.builtin "abs") (fun xs H Q=>∃i,xs=[.int i]/\Q (.int (if i<0 then -i else i)) H):=by
 intro aj s ae H xs us Q aa r h
 obtain⟨i,rfl,q⟩:=h
 obtain⟨u,rfl,t,rfl⟩:=vals1 r
 exact call_abs_int fun u c0=>⟨.int (if i<0 then -i else i),H,aa.tok _,⟨_,rfl⟩,q⟩
theorem Ra(hc:X.calm=au):gR X (.builtin "max") (fun xs H Q=>∃i j,xs=[.int i,.int j]/\Q (.int (if j > i then j else i)) H):=by
 intro aj s ae H xs us Q aa r h
 obtain⟨i,j,rfl,q⟩:=h
 obtain⟨u,hA,rfl,⟨t,rfl⟩,⟨t',rfl⟩⟩:=vals2 r
 refine max_two_ints (aa.ok.hd hc) fun h' c0 k=>⟨_,H,aa.kept k,?_,q⟩
 by_cases c4:j > i
 .rw[if_pos c4,if_pos c4];exact⟨_,I⟩
 .rw[if_neg c4,if_neg c4];exact⟨_,I⟩
theorem Cy(hc:X.calm=au):gR X (.builtin "min") (fun xs H Q=>∃i j,xs=[.int i,.int j]/\Q (.int (if j<i then j else i)) H):=by
 intro aj s ae H xs us Q aa r h
 obtain⟨i,j,rfl,q⟩:=h
 obtain⟨u,hA,rfl,⟨t,rfl⟩,⟨t',rfl⟩⟩:=vals2 r
 refine min_two_ints (aa.ok.hd hc) fun h' c0 k=>⟨_,H,aa.kept k,?_,q⟩
 by_cases c4:j<i
 .rw[if_pos c4,if_pos c4];exact⟨_,I⟩
 .rw[if_neg c4,if_neg c4];exact⟨_,I⟩
theorem Rb:gR X (.type "int") (fun xs H Q=>(∃i,xs=[.int i]/\Q (.int i) H)\/∃k,xs=[.aC k]/\Q (.int (if k then 1 else 0)) H):=by
 intro aj s ae H xs us Q aa r h
 rcases h with⟨i,rfl,q⟩|⟨k,rfl,q⟩
 ·obtain⟨u,rfl,t,rfl⟩:=vals1 r
  exact call_int_int ⟨.int i,H,aa,⟨_,I⟩,q⟩
 ·obtain⟨u,rfl,b5⟩:=vals1 r
  cases b5
  exact call_int_bool ⟨.int (if k then 1 else 0),H,aa.tok _,⟨_,rfl⟩,q⟩
theorem PL:gR X (.type "str") (fun xs H Q=>∃i,xs=[.int i]/\i.natAbs.log2<1920/\Q (.str (toString i)) H):=by
 intro aj s ae H xs us Q aa r h
 obtain⟨i,rfl,bw,q⟩:=h
 obtain⟨u,rfl,t,rfl⟩:=vals1 r
 exact PySem.P.str_of_int bw ⟨.str _,H,aa.tok _,⟨_,I⟩,q⟩
def ym(K:bH)(x:V)(H:ar)(n:Nat):Prop :=
 match x with
 |.str y=>y.length<=bW/\n=y.length
 |.j1 y=>y.size<=bW/\n=y.size
 |.ref p=>(∃xs,dr K H p xs/\n=xs.length)\/∃xs,fm K H p xs/\n=xs.length
 |_=>False
inductive GF(K:bH)(xs:List V)(H:ar)(Q:Nat->Prop):Prop where
 |mk (x:V) (n:Nat) (a:xs=[x]) (b:ym K x H n) (h:Q n):GF K xs H Q
theorem ec:gR X (.builtin "len") (fun xs H Q=>GF X.K xs H fun n=>Q (.int n) H):=by
 intro aj s ae H xs us Q aa r h
 obtain⟨x,n,rfl,e,q⟩:=h
 obtain⟨u,rfl,bl⟩:=vals1 r
 have aH:=sd
 have hs:bW=16777216:=sizeLine_eq
 cases x with
 |str y =>
  obtain⟨t,rfl⟩:=bl
  obtain⟨bF,cR⟩:y.length<=bW/\n=y.length:=e
  subst cR
  exact len_str (by omega) ⟨.int _,H,aa.tok _,⟨_,I⟩,q⟩
 |j1 y =>
  obtain⟨t,rfl⟩:=bl
  obtain⟨bF,cR⟩:y.size<=bW/\n=y.size:=e
  subst cR
  exact PySem.W.len_bytes (by omega) ⟨.int _,H,aa.tok _,⟨_,I⟩,q⟩
 | ref p =>
  cases bl
  have cR:(∃xs,dr X.K H p xs/\n=xs.length)\/∃xs,fm X.K H p xs/\n=xs.length:=e
  rcases cR with⟨xs,av,cR⟩|⟨xs,av,cR⟩
  ·subst cR
   obtain⟨aW,dE,pl,bw⟩:=aa.list av
   have cG:=dE.length
   exact Calls.call_len_list pl.isList (by simp only[eV];omega) ⟨.int xs.length,H,aa.tok _,⟨_,by simp only[eV];rw[cG]⟩,q⟩
  ·subst cR
   obtain⟨aW,dE,pl,bw⟩:=aa.tuple av
   have cG:=dE.length
   exact len_tuple pl (by simp only[eV];omega) ⟨.int xs.length,H,aa.tok _,⟨_,by simp only[eV];rw[cG]⟩,q⟩
 |_=>exact(show False from e).elim
end
structure rg(h:bb)(x aG C:ah)(e6:af->Option al):Prop where
 obj:h.get? x=J (l6 C aG)
 ns:h.Ns1 aG e6
 ne:aG≠x
theorem QX{aG:ah}(n:h.Ns1 aG e6):∃od,h.get? aG=J od/\∀name,F9 name od=J (e6 name):=by
 obtain⟨o,aV,fK,aD,hd,hk,_,hm⟩:=n
 refine⟨o,aD,fun name=>?_⟩
 have e:=hm name
 unfold nsFind findBy at e
 rw[<-Array.find?_toList]at e
 unfold F9
 rw[hd]
 dsimp only
 split
 ·rename_i y q
  rw[q]at e
  exact congrArg J e
 ·rename_i q
  rw[q]at e
  have a:aV.toList.any (·.refKey)=ay:=by
   rw[List.any_eq_false]
   intro y bF
   obtain⟨z,t,VM⟩:=hk y (Array.mem_toList_iff.mp bF)
   simp[DictEntry.refKey,VM]
  have Tt:¬aV.toList.any (·.refKey)=au:=by rw[a];exact g0
  rw[if_neg Tt]
  exact congrArg J e
theorem rg.look{x aG:ah}(aa:rg h x aG C e6):∃od,PySem.W.InstAt h x (l6 C aG) C (J od)/\∀name,F9 name od=J (e6 name) :=
 let ⟨od,aD,aH⟩:=QX aa.ns
 ⟨od,⟨aa.obj,rfl,rfl,aD⟩,aH⟩
section
variable {prog:cW} {w:cD} {A:c1} {E:al->aJ->Prop} {s:aJ} {K:bH} {x aG C f:ah} {e6:af->Option al} {name:af} {v:al}
theorem Sy{Q:al->aJ->Prop}(X:K.In s.heap)(aa:rg s.heap x aG C e6)(aN:A4 K C name=au)(dM:F7 K C=au)
  (bz:gc K (.ref C) name=J aw) (bS:e6 name=J v) (nw:PySem.W.handedIn v=au) (h:Q v {s with toks:=s.toks+1}) :
  bK (model prog w) A (getAttr (.ref x) name expr) Q E s:=by
 obtain⟨od,dS,aH⟩:=aa.look
 exact PySem.W.get_value X dS (PySem.W.plainGet_of aN).1 (PySem.W.findObj_own dM bz I (by rw[aH,bS])) nw h
theorem RF{Q:al×List al->aJ->Prop}(X:K.In s.heap)(aa:rg s.heap x aG C e6)(aN:A4 K C name=au)
  (aQ:gc K (.ref C) name=J (J (.ref f))) (aO:F8 K (.ref f)=au) (bS:e6 name=aw) (h:Q (.ref f,[.ref x]) s) :
  bK (model prog w) A (getMethod (.ref x) name pl) Q E s:=by
 obtain⟨od,dS,aH⟩:=aa.look
 exact PySem.W.method_fn X dS (PySem.W.plainGet_of aN).1 (PySem.W.plainGet_of aN).2 aQ (beq_iff_eq.mp aO) (by show(F9 name od).map (·.isSome)=J ay;rw[aH,bS];rfl) h
theorem R8(X:K.In s.heap)(aa:rg s.heap x aG C e6)
  (hs:gc K (.ref C) "__setattr__"=J (J (.builtin "object.__setattr__"))) (bh:PySem.W.plainOver K C=au) (aO:PySem.W.takerIn K C name=J aw) (dM:F7 K C=au)
  (hw:PySem.Within e6 ns) (iG:ns.length<=bW)
  (h:∀h',rg h' x aG C (fun y=>if y=name then J v else e6 y)->bb.SameBut aG s.heap h'->Q () {s with heap:=h',toks:=s.toks+2}) :
  bK (model prog w) A (setAttr (.ref x) name v) Q E s:=by
 obtain⟨od,dS,aH⟩:=aa.look
 refine PySem.W.set_plain X dS hs (PySem.W.osa_open (s:={s with toks:=s.toks+1}) (r:=aw) X dS bh aO fun b=>?_)
 obtain⟨dX,hc,j6⟩:=PySem.W.any_some dM
 have av:s.heap.get? x=J ⟨.ref C,J aG,.plain,#[]⟩:=aa.obj
 refine bQ (eF (bQ (bQ (wpAny_loadPart av (bQ (PySem.W.Looks.here (s:={s with toks:=s.toks+1}) (PySem.W.looks_clsIn X hc) ?_))))))
 rw[j6]
 refine eF (a:=J aG) (bQ (eF (bQ ?_)))
 refine wpAny_nsSet1 (s:={s with toks:=s.toks+1}) aa.ns fun h' r2 c8=>?_
 obtain⟨acx,abS,abR,V9,Vv,lN⟩:=r2.count (PySem.Within.cons name v hw)
 refine bQ (wpAny_lookBehind V9 (by rw[Vv];exact pastItsLine_dict (dp lN (by rw[ep];omega))) ?_)
 exact eF (h _ ⟨(c8.2 _ (e3 aa.ne)).trans aa.obj,r2,aa.ne⟩ c8)
theorem RD{R:Result->aJ->Prop}(X:K.In s.heap)(hm:xV K C=au)
  (aE:gc K (.ref C) "__init__"=J (J (.ref f))) (aQ:Ga K (.ref f)=J (.type "function"))
  (h:lu (model prog w) (A.under (.builtin "type.__call__" ⟨.ref C::vs,kw⟩)) (.call (.ref f) ⟨.ref (s.heap.objs.size+1)::vs,kw⟩) (PySem.W.InitBack (s.heap.objs.size+1) R)
   {s with heap:=(s.heap.push l5).push (l6 C s.heap.objs.size)}) :
  lu (model prog w) A (.call (.ref C) ⟨vs,kw⟩) R s:=by
 obtain⟨dM,g,d,t,os⟩:=s
 exact PySem.W.make_core (PySem.W.makes_of X hm) (PySem.W.looks_findIn X aE) (fun self=>PySem.W.bind_fn X self aQ) (.inl I) h
theorem QW{R:Result->aJ->Prop}(X:K.In s.heap)(hm:xV K C=au)
  (aE:gc K (.ref C) "__init__"=J (J (.builtin "object.__init__")))
  (ao:∀self,PySem.W.Looks (model prog w) s.heap (bindSpecial (.builtin "object.__init__") self) (.builtin "object.__init__",[self]))
  (h:lu (model prog w) (A.under (.builtin "type.__call__" ⟨[.ref C],[]⟩)) (.call (.builtin "object.__init__") ⟨[.ref (s.heap.objs.size+1)],[]⟩) (PySem.W.InitBack (s.heap.objs.size+1) R)
   {s with heap:=(s.heap.push l5).push (l6 C s.heap.objs.size)}) :
  lu (model prog w) A (.call (.ref C) ⟨[],[]⟩) R s:=by
 obtain⟨dM,g,d,t,os⟩:=s
 exact PySem.W.make_core (PySem.W.makes_of X hm) (PySem.W.looks_findIn X aE) ao (.inr ⟨I,I⟩) h
end
noncomputable def h4(f:af)(v:V):List (af×V)->List (af×V)
 |[]=>[(f,v)]
 |(g,x)::r=>if g=f then(g,v)::r else(g,x)::h4 f v r
theorem Ho(f g:af)(v:V):∀fs:List (af×V),(h4 f v fs).lookup g=if g=f then J v else fs.lookup g
 | []=>by
  show List.lookup g [(f,v)]=_
  by_cases h:g=f
  ·have ao:(g == f)=au:=beq_iff_eq.mpr h
   simp only[List.lookup,ao,if_pos h]
  ·have ao:(g == f)=ay:=beq_eq_false_iff_ne.mpr h
   simp only[List.lookup,ao,if_neg h]
 | (k,x)::r=>by
  have cp:=Ho f g v r
  rw[show h4 f v ((k,x)::r)=(if k=f then(k,v)::r else(k,x)::h4 f v r)from rfl]
  by_cases hk:k=f
  ·rw[if_pos hk]
   by_cases h:g=k
   ·have ao:(g == k)=au:=beq_iff_eq.mpr h
    simp only[List.lookup,ao,if_pos (h.trans hk)]
   ·have ao:(g == k)=ay:=beq_eq_false_iff_ne.mpr h
    simp only[List.lookup,ao,if_neg (fun e:g=f=>h (e.trans hk.symm))]
  ·rw[if_neg hk]
   by_cases h:g=k
   ·have ao:(g == k)=au:=beq_iff_eq.mpr h
    simp only[List.lookup,ao,if_neg (fun e:g=f=>hk (h.symm.trans e))]
   ·have ao:(g == k)=ay:=beq_eq_false_iff_ne.mpr h
    simp only[List.lookup,ao]
    exact cp
theorem Cw(f:af)(v:V):∀fs:List (af×V),f∈(h4 f v fs).map (·.1)/\∀g,g∈fs.map (·.1)->g∈(h4 f v fs).map (·.1)
 |[]=>⟨by simp[h4],fun g h=>by simp at h⟩
 | (k,x)::r=>by
  obtain⟨d1,dj⟩:=Cw f v r
  rw[show h4 f v ((k,x)::r)=(if k=f then(k,v)::r else(k,x)::h4 f v r)from rfl]
  by_cases hk:k=f
  ·rw[if_pos hk]
   subst hk
   exact⟨by simp,fun g h=>by simpa using h⟩
  ·rw[if_neg hk]
   refine⟨?_,fun g h=>?_⟩
   ·rw[jB]
    exact eo _ d1
   ·rw[jB]at h ⊢
    rcases dy.mp h with e|e
    .exact dy.mpr (.inl e)
    .exact eo _ (dj g e)
theorem Hp(f:af)(v:V):∀fs:List (af×V),(h4 f v fs).length<=fs.length+1
 |[]=>by simp[h4]
 |(k,x)::r=>by
  have cp:=Hp f v r
  rw[show h4 f v ((k,x)::r)=(if k=f then(k,v)::r else(k,x)::h4 f v r)from rfl]
  by_cases hk:k=f
  .rw[if_pos hk,ep,ep];omega
  .rw[if_neg hk,ep,ep];omega
theorem nV.ZV{v:V}{o:Option al}(r:nV (J v) o):∃u,o=J u/\RelV v u:=by
 cases o with
 |none=>exact(show False from r).elim
 |some u=>exact⟨u,I,r⟩
theorem nV.none_of{o:Option al}(r:nV aw o):o=aw:=by
 cases o with
 |none=>rfl
 |some u=>exact(show False from r).elim
theorem Q3{v:V}(r:RelV v u):PySem.W.handedIn u=au:=by
 cases v with
 |aK=>cases(show u=al.none from r);rfl
 |aC b=>cases(show u=al.bool b from r);rfl
 |int i=>obtain⟨t,e⟩:=(show ∃t,u=al.int i t from r);cases e;rfl
 |str x=>obtain⟨t,e⟩:=(show ∃t,u=al.str x t from r);cases e;rfl
 |j1 b=>obtain⟨t,e⟩:=(show ∃t,u=al.bytes b t from r);cases e;rfl
 |rN b=>obtain⟨t,e⟩:=(show ∃t,u=al.float b t from r);cases e;rfl
 |ref a=>cases(show u=al.ref a from r);rfl
 |ty n=>cases(show u=al.type n from r);rfl
section
variable {P:cW} {w:cD} {H ai:ar} {h h':bb} {a C aG:ah} {fs Uz:List (af×V)}
theorem ze(aU:fg P w H h)(e:H a=J (.ins C aG fs)):∃e6,rg h a aG C e6/\(∀f,nV (fs.lookup f) (e6 f))/\PySem.Within e6 (fs.map (·.1))/\fs.length<=1000/\H aG=J (.own a):=by
 obtain⟨d,z,ne,dD,e6,n,r,q⟩:=(show gY P w H h a (.ins C aG fs)from aU a _ e)
 exact⟨e6,⟨dD,n,ne⟩,r,q,z,d⟩
end
structure h8(K:bH)(C:ah):Prop where
 X8:A4 K C af.empty=au
 hd:F7 K C=au
 po:PySem.W.plainOver K C=au
 xD:gc K (.ref C) "__setattr__"=J (J (.builtin "object.__setattr__"))
theorem h8.get(c:h8 K C)(f:af):A4 K C f=au:=c.X8
def l9(K:bH)(C:ah)(f:af):Prop:=gc K (.ref C) f=J aw
theorem l9.aam{f:af}(n:l9 K C f):PySem.W.takerIn K C f=J aw:=by
 unfold PySem.W.takerIn
 rw[show gc K (.ref C) f=J aw from n]
 rfl
structure tB(K:bH)(C:ah)(m:af)(f:ah):Prop where
 at_:gc K (.ref C) m=J (J (.ref f))
 fn:F8 K (.ref f)=au
 ik:oO K (.ref f)=au
section
variable {X:bj} {aj:List (ah×bo)} {ae:St} {H:ar} {s:aJ} {a C aG:ah} {fs:List (af×V)} {f:af} {v:V} {A:c1} {E:al->aJ->Prop}
theorem QA{b:Bool}{Q:al->aJ->Prop}(aa:Inv X aj ae H s)(e:H a=J (.ins C aG fs))(c:h8 X.K C)(n:l9 X.K C f)(l:fs.lookup f=J v)
  (h:∀u aR,Inv X aj ae H aR->RelV v u->Q u aR):bK (model X.prog X.w) A (getAttr (.ref a) f b) Q E s:=by
 obtain⟨e6,O,r,_,_,_⟩:=ze aa.aU e
 obtain⟨u,dZ,fO⟩:=nV.ZV (v:=v) (o:=e6 f) (by rw[<-l];exact r f)
 exact Sy aa.gp O (c.get f) c.hd n dZ (Q3 fO) (h u _ (aa.tok _) fO)
theorem Co{g:ah}{Q:al×List al->aJ->Prop}(aa:Inv X aj ae H s)(e:H a=J (.ins C aG fs))(c:h8 X.K C)(k:tB X.K C m g)(l:fs.lookup m=aw)
  (h:Q (.ref g,[.ref a]) s):bK (model X.prog X.w) A (getMethod (.ref a) m pl) Q E s:=by
 obtain⟨e6,O,r,_,_,_⟩:=ze aa.aU e
 have bf:e6 m=aw:=nV.none_of (by rw[<-l];exact r m)
 exact RF aa.gp O (c.get m) k.at_ k.fn bf h
theorem Qj{y:V}(aa:Inv X aj ae H s)(e:H a=J (.ins C aG fs))(c:h8 X.K C)(n:l9 X.K C f)(aH:fs.length<1000)(cw:RelV y u)
  (h:∀aR,Inv X aj ae (upd H a (.ins C aG (h4 f y fs))) aR->Q () aR):bK (model X.prog X.w) A (setAttr (.ref a) f u) Q E s:=by
 obtain⟨e6,O,r,h7,_,aD⟩:=ze aa.aU e
 have bw:(fs.map (·.1)).length<=bW:=by rw[cI,sizeLine_eq];omega
 refine R8 aa.gp O c.xD c.po n.aam c.hd h7 bw fun h' BA mE=>h _ ?_
 have hd:∃o,h'.get? aG=J o:=let ⟨o,_,_,cR,_⟩:=BA.ns;⟨o,cR⟩
 refine aa.write (x:=a) (e:=aG) (by rw[e];exact True.intro) (.inr aD) (fun b q ao z=>(mE.2 b ao).trans z) hd ?_
 refine⟨by rw[cn O.ne];exact aD,?_,O.ne,BA.obj,_,BA.ns,fun g=>?_,fun g aN=>?_⟩
 .have:=Hp f y fs;omega
 ·show nV ((h4 f y fs).lookup g) (if g=f then J u else e6 g)
  rw[Ho]
  by_cases q:g=f
  .rw[if_pos q,if_pos q];exact cw
  .rw[if_neg q,if_neg q];exact r g
 ·by_cases q:g=f
  .rw[q];exact(Cw f y fs).1
  ·refine(Cw f y fs).2 g (h7 g fun z=>aN ?_)
   show(if g=f then J u else e6 g)=aw
   rw[if_neg q];exact z
theorem Inv.made(aa:Inv X aj ae H s):Inv X aj ae (upd (upd H s.heap.objs.size (.own (s.heap.objs.size+1))) (s.heap.objs.size+1) (.ins C s.heap.objs.size []))
  {s with heap:=(s.heap.push l5).push (l6 C s.heap.objs.size)}:=by
 have ba:(s.heap.push l5).get? s.heap.objs.size=J l5:=gZ s.heap rfl
 have bg:((s.heap.push l5).push (l6 C s.heap.objs.size)).get? (s.heap.objs.size+1)=J (l6 C s.heap.objs.size):=by
  have:=gZ (s.heap.push l5) (o:=l6 C s.heap.objs.size) rfl
  rwa [bb.size_push]at this
 have eZ:(s.heap.push l5).Ns s.heap.objs.size (fun _=>aw):=⟨l5,#[],_,ba,rfl,(fun e he=>absurd he (by simp)),fun _=>rfl⟩
 have bc:=aa.laid (a:=s.heap.objs.size) (o :=.own (s.heap.objs.size+1)) (h':=s.heap.push l5) (t':=s.toks) (fun b u q=>fF _ q) (cQ _) ⟨_,ba⟩
 refine bc.laid (a:=s.heap.objs.size+1) (o :=.ins C s.heap.objs.size []) (t':=s.toks) (fun b u q=>fF _ q) (Nat.le_of_eq (bb.size_push _ _)) ?_
 have ne:s.heap.objs.size≠s.heap.objs.size+1:=fE (Nat.lt_succ_self _)
 refine⟨by rw[cn ne,aP],UF _,ne,bg,fun _=>aw,(bb.Ns1.of_empty eZ).at fun o q=>fF _ q,fun _=>True.intro,fun y bF=>absurd rfl bF⟩
theorem SJ{f:af}{s:aJ}{Q:al->aJ->Prop}(ao:attributeBase e f env (eval e env)=eval e env)
  (h:bK (model prog w) A (eval e env) (fun o dQ=>bK (model prog w) A (getAttr o f au) Q E dQ) E s):bK (model prog w) A (eval (.Attribute e f aX) env) Q E s :=
 Attribute_any_ h (by rw[arm_eval_Attribute,ao])
end
inductive Gl(K:bH)(f:af)(x:V)(H:ar)(Q:V->Prop):Prop where
 |mk (a C aG:ah) (fs:List (af×V)) (v:V) (e:x=.ref a) (h:H a=J (.ins C aG fs)) (c:h8 K C) (n:l9 K C f) (l:fs.lookup f=J v) (q:Q v):Gl K f x H Q
def Z5(K:bH)(cE:TE)(f:af):TE:=fun ae H Q=>cE ae H fun x H1=>Gl K f x H1 fun v=>Q v H1
def ZR(K:bH)(cE u7:TE)(f:af):eG:=fun D ae H=>u7 ae H fun y H1=>cE ae H1 fun x ax=>∃a C aG fs,x=.ref a/\ax a=J (.ins C aG fs)/\h8 K C/\l9 K C f/\fs.length<1000/\
 D.nx ae (upd ax a (.ins C aG (h4 f y fs)))
section
variable {X:bj} {o e value:cq} {f:af} {aX pos' u6:Pos} {cE u7:TE}
theorem hU(he:b6 X e cE)(ao:attributeBase e f X.env (eval e X.env)=eval e X.env):b6 X (.Attribute e f aX) (Z5 X.K cE f):=by
 intro aj s ae H Q aa h
 refine SJ ao (cO (he aj s ae H _ aa h) fun u s1 bJ=>?_)
 obtain⟨x,H1,bc,bl,a,C,aG,fs,v,ex,c6,c,n,l,q⟩:=bJ
 subst ex
 obtain rfl:u=al.ref a:=bl
 exact QA bc c6 c n l fun qV s2 bM fO=>⟨v,H1,bM,fO,q⟩
theorem n3(bz:b6 X o cE)(bS:b6 X value u7)(hs:swapsWith value (J (.Attribute o f pos')) aX.line X.env=pure ay):jz X (.Assign [.Attribute o f pos'] value aX) (ZR X.K cE u7 f):=by
 intro aj s ae H D aa h
 refine plainObj_wpAny_Assign_Attribute (cO (bS aj s ae H _ aa h) fun u s1 ⟨y,H1,bc,cw,q⟩=>cO (bz aj s1 ae H1 _ bc q) fun hK s2 bJ=>?_) hs
 obtain⟨x,ax,bM,bl,a,C,aG,fs,ex,c6,c,n,l,cc⟩:=bJ
 subst ex
 obtain rfl:hK=al.ref a:=bl
 exact Qj bM c6 c n l cw fun hL iv=>⟨ae,_,iv,cc⟩
end
section
variable {X:bj} {aj:List (ah×bo)} {ae:St} {H:ar} {s:aJ} {A:c1} {E:al->aJ->Prop} {Q:al->aJ->Prop} {c:al} {b:Bool}
inductive iy (K:bH) (H:ar):V->al->Prop where
 |aK:iy K H .aK (.type "NoneType")
 |aC (x:Bool):iy K H (.aC x) (.type "bool")
 |int (i:Int):iy K H (.int i) (.type "int")
 |str (x:af):iy K H (.str x) (.type "str")
 |rN (x:UInt64):iy K H (.rN x) (.type "float")
 |lst {a:ah} {xs:List V} (e:H a=J (.lst xs)):iy K H (.ref a) (.type "list")
 |iO {a:ah} {o:bo} {xs:List V} (e:H a=J (.iO o (.lst xs))):iy K H (.ref a) (.type "list")
 |tup {a:ah} {xs:List V} (e:H a=J (.tup xs)):iy K H (.ref a) (.type "tuple")
 |lH {a:ah} {fB:List (Key×V)} (e:H a=J (.lH fB)):iy K H (.ref a) (.type "dict")
 |ob {a:ah} {fB:List (List Key×V)} (e:H a=J (.ob fB)):iy K H (.ref a) (.type "dict")
 | ins {a C aG:ah} {fs:List (af×V)} (e:H a=J (.ins C aG fs)) (cl:h8 K C) (bz:gc K (.ref C) "__class__"=J (J (.builtin "object.__class__")))
   (bf:PySem.W.specialIn K (.builtin "object.__class__") "__get__"=J (J (.builtin "getset_descriptor.__get__"))) (Km:PySem.W.takesIn K (.builtin "object.__class__")=J au)
   (hm:vi K C (.type "object")=J au):iy K H (.ref a) (.ref C)
theorem HO{x:V}{t:al}(aa:Inv X aj ae H s)(bl:RelV x u)(ty:iy X.K H x t)(e:fD X.K t c=J b)(h:∀c0,Q (.bool b) {s with toks:=c0}):
  bK (model X.prog X.w) A (call (.builtin "isinstance") [u,c]) Q E s:=by
 cases ty with
 |aK=>cases(show u=al.none from bl);exact oP PySem.W.kitx_none aa.gp True.intro e (fun z=>nomatch z) h
 |aC y=>cases(show u=al.bool y from bl);exact oP PySem.W.kitx_bool aa.gp True.intro e (fun z=>nomatch z) h
 |int i=>obtain⟨t,q⟩:=(show ∃t,u=al.int i t from bl);cases q;exact oP PySem.W.kitx_int aa.gp True.intro e (fun z=>nomatch z) h
 |str y=>obtain⟨t,q⟩:=(show ∃t,u=al.str y t from bl);cases q;exact oP PySem.W.kitx_str aa.gp True.intro e (fun z=>nomatch z) h
 |rN y=>obtain⟨t,q⟩:=(show ∃t,u=al.float y t from bl);cases q;exact oP PySem.W.kitx_float aa.gp True.intro e (fun z=>nomatch z) h
 | @lst a xs c6 =>
  cases(show u=al.ref a from bl)
  obtain⟨_,_,n,_,aq⟩:=(show gY X.prog X.w H s.heap a (.lst xs)from aa.aU a _ c6)
  exact oP PySem.W.kitx_list aa.gp ⟨_,aq,I⟩ e (fun z=>nomatch z) h
 | @iO a dD xs c6 =>
  cases(show u=al.ref a from bl)
  obtain⟨_,_,_,n,_,aq⟩:=(show gY X.prog X.w H s.heap a (.iO dD (.lst xs))from aa.aU a _ c6)
  exact oP PySem.W.kitx_list aa.gp ⟨_,aq,I⟩ e (fun z=>nomatch z) h
 | @tup a xs c6 =>
  cases(show u=al.ref a from bl)
  obtain⟨_,_,_,p⟩:=(show gY X.prog X.w H s.heap a (.tup xs)from aa.aU a _ c6)
  obtain⟨o,aq,az,_⟩:=p
  exact oP PySem.W.kitx_tuple aa.gp ⟨o,aq,az⟩ e (fun z=>nomatch z) h
 | @lH a fB c6 =>
  cases(show u=al.ref a from bl)
  obtain⟨_,_,vs,_,p⟩:=(show gY X.prog X.w H s.heap a (.lH fB)from aa.aU a _ c6)
  obtain⟨o,aV,fK,aq,az,_⟩:=p
  exact oP PySem.W.kitx_dict aa.gp ⟨o,aq,az.1⟩ e (fun z=>nomatch z) h
 | @ob a fB c6=>exact(show False from aa.aU a _ c6).elim
 | @ins a C aG fs c6 cl bz bf Km hm =>
  cases(show u=al.ref a from bl)
  obtain⟨e6,O,_⟩:=ze aa.aU c6
  obtain⟨od,dS,_⟩:=O.look
  exact oP (PySem.W.kitx_own (cl.get _) cl.hd bz bf Km hm) aa.gp dS e (fun z=>nomatch z) h
end
structure fY(k:Nat)(A:c1):Prop where
 hd:A.handled=aw
 nd:A.depth+3*k+5<recursionLimit
 un:A.units+16*k+200<cLine
theorem fY.mono(r:fY k A)(h:j<=k):fY j A:=⟨r.hd,by have:=r.nd;omega,by have:=r.un;omega⟩
theorem fY.deeper(r:fY (k+1) A)(env:Env):fY k (A.deeper env) :=
 ⟨r.hd,by have:=r.nd;show A.depth+1+3*k+5<_;omega,by have:=r.un;show A.units+3+16*k+200<_;omega⟩
theorem Qv:(A.under (.builtin "type.__call__" ⟨.ref C::us,kw⟩)).depth=A.depth+1:=by
 first|rfl|simp[c1.under,Code.weight,Code.isCreation,Code.isGuard,Code.isCaller,Code.frames,Code.isFrame,guardIds]
theorem Qu:(A.under (.builtin "type.__call__" ⟨.ref C::us,kw⟩)).units=A.units+1:=by
 first|rfl|simp[c1.under,Code.cUnits,Code.frames,Code.isFrame]
theorem fY.make(r:fY (k+1) A)(C:ah)(us:List al)(kw:List (af×al)):fY k (A.under (.builtin "type.__call__" ⟨.ref C::us,kw⟩)) :=
 ⟨r.hd,by have:=r.nd;rw[Qv];omega,by have:=r.un;rw[Qu];omega⟩
theorem fY.depth(r:fY k A):A.depth<recursionLimit:=by have:=r.nd;omega
noncomputable def u4:hg:=fun _ H Q=>Q [] H
noncomputable def nH(cE:TE)(aaB:hg):hg:=fun ae H Q=>cE ae H fun x H1=>aaB ae H1 fun xs ax=>Q (x::xs) ax
section
variable {X:bj} {e:cq} {aV:List cq} {cH:TE} {t:hg} {aX:Pos}
theorem aB:ib X [] u4:=fun _ _ _ _ H Q aa h=>Calls.spliced_nil ⟨[],H,aa,.nil,h⟩
theorem ak(bz:b6 X e cH)(aF:ib X aV t)(hs:dN (e::aV) X.env=(ay,eval e X.env)::dN aV X.env:=by rfl):ib X (e::aV) (nH cH t):=by
 intro aX aj s ae H Q aa h
 rw[hs]
 show bK _ _ (spliced ((ay,eval e X.env)::backTo aX (dN aV X.env))) _ _ s
 refine Calls.spliced_cons (cO (bz aj s ae H _ aa h) fun u s1 bJ=>?_)
 obtain⟨x,H1,bc,b5,cA⟩:=bJ
 refine cO (aF aX aj s1 ae H1 _ bc cA) fun us s2 bJ=>?_
 obtain⟨xs,ax,bM,eL,cc⟩:=bJ
 exact ⟨x::xs,ax,bM,.cons b5 eL,cc⟩
def Mu(t:hg):TE:=fun ae H Q=>t ae H fun xs H1=>xs.length<=bW/\∀p,H1 p=aw->Q (.ref p) (upd H1 p (.tup xs))
def Mq(t:hg):TE:=fun ae H Q=>t ae H fun xs H1=>xs.length<=bW/\∀p,H1 p=aw->Q (.ref p) (upd H1 p (.lst xs))
theorem iN{e7}(h:ib X aV t):b6 X (.Tuple aV e7 aX) (Mu t):=by
 intro aj s ae H Q aa aT
 refine wpAny_Tuple_spliced (cO (h aX aj s ae H _ aa aT) fun us s1 bJ=>?_)
 obtain⟨xs,H1,bc,r,z,q⟩:=bJ
 refine ⟨by rw[<-r.length];exact z,?_⟩
 have aQ:H1 s1.heap.objs.size=aw:=bc.aU.fresh (cQ _)
 refine⟨.ref s1.heap.objs.size,upd H1 s1.heap.objs.size (.tup xs),bc.laid (t':=s1.toks) (fun b u e=>fF _ e) (cQ _) ?_,I,q _ aQ⟩
 exact⟨z,us,r,⟨_,gZ _ I,I,_,I⟩⟩
theorem e4(h:ib X aV t):b6 X (.List aV aX) (Mq t):=by
 intro aj s ae H Q aa aT
 refine wpAny_List_spliced (cO (h aX aj s ae H _ aa aT) fun us s1 bJ=>?_)
 obtain⟨xs,H1,bc,r,z,q⟩:=bJ
 refine ⟨by rw[<-r.length];exact z,?_⟩
 have aQ:H1 s1.heap.objs.size=aw:=bc.aU.fresh (cQ _)
 refine⟨.ref s1.heap.objs.size,upd H1 s1.heap.objs.size (.lst xs),bc.laid (t':=s1.toks) (fun b u e=>fF _ e) (cQ _) ?_,I,q _ aQ⟩
 exact⟨z,us,0,r,gZ _ I⟩
end
noncomputable abbrev cT:=List V->ar->bP->cC->Prop
noncomputable abbrev kG:=List Env->ar->aJ->cC->al->aJ->Prop
structure q6(P:cW)(w:cD)(K:bH)(mg:af->Option al)(base:bb)(A:c1)(outer:List Env)(s:aJ)(H:ar):Prop where
 frames:A.frames=J outer
 mod:Mod K mg base
 bs:∀b o,base.get? b=J o->s.heap.get? b=J o/\H b=aw
 na:base.objs.size<=s.heap.objs.size
 kS:s.heap.FunFrames base outer
 pv:∀b∈ij outer,H b=aw
 aU:fg P w H s.heap
 bare:AllBare s.gens
def Bb(outer:List Env)(P:cW)(w:cD)(H:ar)(s:aJ)(Q:bP)(u:al)(aR:aJ):Prop :=
 ∃v ai,aR.os=s.os/\AllBare aR.gens/\fy (ij outer) [] H ai s.heap aR.heap/\fg P w ai aR.heap/\RelV v u/\Q v ai
def MW(CX:kG)(outer:List Env)(P:cW)(w:cD)(H:ar)(s:aJ)(Q:bP)(E:cC)(r:Result)(aR:aJ):Prop :=
 match r with
 |.ok (.ret u)=>Bb outer P w H s Q u aR
 |.ok _=>False
 |.error e=>CX outer H s E e aR
structure di(P:cW)(w:cD)(K:bH)(mg:af->Option al)(base:bb)(CX:kG)(k:Nat)(f:ah)(fd:hB)(aI:List af)(sp:cT):Prop where
 len:∀vs H Q E,sp vs H Q E->vs.length=aI.length
 run:∀(A:c1)(outer:List Env)(s:aJ)(H:ar)(args:Args)(us:List al)(vs:List V)(Q:bP)(E:cC),fY k A->q6 P w K mg base A outer s H->BindsTo s fd args (aI.zip us)->Vals vs us->sp vs H Q E->
  lu (model P w) A (.call (.ref f) args) (MW CX outer P w H s Q E) s
theorem di.mono{CX:kG}{f:ah}{sp:cT}(F:di P w K mg base CX j f fd aI sp)(h:j<=k):
  di P w K mg base CX k f fd aI sp:=⟨F.len,fun A outer s H args us vs Q E aF=>F.run A outer s H args us vs Q E (aF.mono h)⟩
theorem q6.make(e:q6 P w K mg base A outer s H)(C:ah)(us:List al)(kw:List (af×al)):
  q6 P w K mg base (A.under (.builtin "type.__call__" ⟨.ref C::us,kw⟩)) outer s H:=⟨by first|exact e.frames|(simpa [c1.under,Code.envs,Code.isFrame,pushEnvs] using e.frames),e.mod,e.bs,e.na,e.kS,e.pv,e.aU,e.bare⟩
section
variable {X:bj} {aj:List (ah×bo)} {ae:St} {H:ar} {s aR:aJ}
theorem Inv.Dw(aa:Inv X aj ae H s):q6 X.prog X.w X.K X.mg X.base X.A X.stack s H :=
 ⟨aa.ok.frames,aa.ok.mod,aa.bs,dp aa.ok.na aa.cS,aa.stack,aa.xM,aa.aU,aa.bare⟩
theorem Inv.after{Q:bP}(aa:Inv X aj ae H s)(h:Bb X.stack X.prog X.w H s Q u aR):hN X aj ae Q u aR:=by
 obtain⟨v,ai,os,bare,un,aU,r,q⟩:=h
 obtain⟨dM,g,d,t,xp⟩:=aR
 obtain rfl:xp=s.os:=os
 exact⟨v,ai,aa.call (h':=dM) (g':=g) (d':=d) (t':=t) (ch:=[]) un aU bare (fun b z=>absurd z (by simp)),r,q⟩
end
def FP(sp:cT)(dvs:List V)(E:cC)(t:hg):TE:=fun ae H Q=>t ae H fun vs H1=>sp (vs++dvs) H1 Q E
inductive GI(C:ah)(m:af)(x:V)(H:ar)(R:Prop):Prop where
 |mk (a aG:ah) (fs:List (af×V)) (e:x=.ref a) (h:H a=J (.ins C aG fs)) (l:fs.lookup m=aw) (q:R):GI C m x H R
def Ms(C:ah)(m:af)(sp:cT)(dvs:List V)(E:cC)(cE:TE)(t:hg):TE:=fun ae H Q=>cE ae H fun x H1=>GI C m x H1 (
 t ae H1 fun vs ax=>sp (x::(vs++dvs)) ax Q E)
def Mr(C:ah)(sp:cT)(dvs:List V)(E:cC)(t:hg):TE:=fun ae H Q=>t ae H fun vs H1=>∀x aG,H1 x=aw->H1 aG=aw->aG≠x->
 sp (.ref x::(vs++dvs)) (upd (upd H1 aG (.own x)) x (.ins C aG [])) (fun v ax=>v=.aK/\Q (.ref x) ax) E
def Binds(K:bH)(fd:hB)(aI:List af)(ds:List al):Prop :=
 ∀(s:aJ)(us:List al),K.In s.heap->(us++ds).length=aI.length->BindsTo s fd ⟨us,[]⟩ (aI.zip (us++ds))
theorem Binds.all(h:∀us:List al,us.length=aI.length->bindArgs fd ⟨us,[]⟩=pure (aI.zip us)):Binds K fd aI []:=fun s us _ aH=>by
 rw[List.append_nil]at aH ⊢
 exact .of_eq (h us aH)
def Passes(CX:kG)(X:bj)(E:cC):Prop:=∀(aj:List (ah×bo))(ae:St)(H:ar)(s:aJ)(e:al)(aR:aJ),Inv X aj ae H s->CX X.stack H s E e aR->X.xe e aR
variable {vs:List V}
section
variable {X:bj} {CX:kG} {k:Nat} {f C:ah} {fd:hB} {aI:List af} {sp:cT} {dvs:List V} {ds:List al} {E:cC} {x m:af} {p aX apos:Pos} {e o:cq} {aV:List cq} {cE:TE} {t:hg}
theorem C2{ae:St}{Q:bP}(F:di X.prog X.w X.K X.mg X.base CX k f fd aI sp)(aF:fY k X.A)(ao:Binds X.K fd aI ds)(hd:Vals dvs ds)(av:Passes CX X E)
  (aa:Inv X aj ae H s) (r:Vals vs us) (h:sp (vs++dvs) H Q E):bK (model X.prog X.w) X.A (call (.ref f) us) (hN X aj ae Q) X.xe s:=by
 have eL:Vals (vs++dvs) (us++ds):=r.append hd
 have aH:(us++ds).length=aI.length:=by rw[<-eL.length];exact F.len _ _ _ _ h
 refine xX (oQ (F.run X.A X.stack s H ⟨us,[]⟩ (us++ds) (vs++dvs) Q E aF aa.Dw (ao s us aa.gp aH) eL h) fun r aR aT=>?_)
 cases r with
 |error e=>exact av aj ae H s e aR aa aT
 |ok fT =>
  cases fT with
  |ret u=>exact aa.after aT
  |next=>exact False.elim aT
  |brk=>exact False.elim aT
  |cont=>exact False.elim aT
theorem Sh(F:di X.prog X.w X.K X.mg X.base CX k f fd aI sp)(aF:fY k X.A)(aN:iI X x)(hm:X.mg x=J (.ref f))(hk:oO X.K (.ref f)=au)(ao:Binds X.K fd aI ds)(hd:Vals dvs ds)(av:Passes CX X E)
  (bz:ib X (e::aV) t) (jK:(x == ("__debug__":af))=ay:=by decide) (he:dN (e::aV) X.env=(ay,eval e X.env)::dN aV X.env:=by rfl) (hx:(backTo aX (dN aV X.env)).any (·.1)=ay:=by rfl) :
  b6 X (.Call (.Name x p) (e::aV) [] aX) (FP sp dvs E t):=by
 intro aj s ae H Q aa h
 refine sT (tY aa aN hm ?_ jK)
 refine A2 (h₀:=X.base) aa.ok.mod.qH hk (cO (bz aX aj s ae H _ aa h) fun us s1 bJ=>?_) he hx
 obtain⟨vs,H1,bc,r,q⟩:=bJ
 refine ⟨bc.gp,?_⟩
 exact C2 F aF ao hd av bc r q
theorem Se(he:b6 X o cE)(c:h8 X.K C)(hm:tB X.K C m f)(F:di X.prog X.w X.K X.mg X.base CX k f fd aI sp)(aF:fY k X.A)(ao:Binds X.K fd aI ds)(hd:Vals dvs ds)(av:Passes CX X E)(bz:ib X (e::aV) t)
  (nv:dN (e::aV) X.env=(ay,eval e X.env)::dN aV X.env:=by rfl) (hx:(backTo aX (dN aV X.env)).any (·.1)=ay:=by rfl)
  (aO:eval (.Call (.Attribute o m apos) (e::aV) [] aX) X.env=(do
   let hK <-eval o X.env
   standAt apos.atName
   let (f,first) <-holding [hK] (getMethod hK m pl)
   callWith aX f first (backTo aX (dN (e::aV) X.env)) (backToKw aX (xW [] X.env))):=by rfl) :
  b6 X (.Call (.Attribute o m apos) (e::aV) [] aX) (Ms C m sp dvs E cE t):=by
 intro aj s ae H Q aa h
 refine PySem.W.methodCall_KW (pl:=pl) (cO (he aj s ae H _ aa h) fun u s1 bJ=>?_) aO
 obtain⟨x,H1,bc,bl,a,aG,fs,ex,c6,l,q⟩:=bJ
 subst ex
 obtain rfl:u=al.ref a:=bl
 refine Co bc c6 c hm l ?_
 refine A2 (first:=[.ref a]) (h₀:=X.base) aa.ok.mod.qH hm.ik (cO (bz aX aj s1 ae H1 _ bc q) fun us s2 bJ=>?_) nv hx
 obtain⟨vs,ax,bM,r,cc⟩:=bJ
 refine ⟨bM.gp,?_⟩
 exact C2 (us :=.ref a::us) (vs :=.ref a::vs) F aF ao hd av bM (.cons I r) cc
structure Bz(K:bH)(C f:ah):Prop where
 makes:xV K C=au
 init:gc K (.ref C) "__init__"=J (J (.ref f))
 fn:F8 K (.ref f)=au
 ik:oO K (.ref C)=au
theorem Rl{ae:St}{Q:bP}(M:Bz X.K C f)(F:di X.prog X.w X.K X.mg X.base CX k f fd aI sp)(aF:fY (k+1) X.A)(ao:Binds X.K fd aI ds)(hd:Vals dvs ds)
  (av:Passes CX X E) (aa:Inv X aj ae H s) (r:Vals vs us)
  (h:∀x aG,H x=aw->H aG=aw->aG≠x->sp (.ref x::(vs++dvs)) (upd (upd H aG (.own x)) x (.ins C aG [])) (fun v ax=>v=.aK/\Q (.ref x) ax) E) :
  bK (model X.prog X.w) X.A (call (.ref C) us) (hN X aj ae Q) X.xe s:=by
 have aT:=h (s.heap.objs.size+1) s.heap.objs.size (aa.aU.fresh (Nat.le_succ _)) (aa.aU.fresh (cQ _)) (fE (Nat.lt_succ_self _))
 have bM:=Inv.made (C:=C) aa
 have eL:Vals (V.ref (s.heap.objs.size+1)::(vs++dvs)) (al.ref (s.heap.objs.size+1)::(us++ds)) :=.cons rfl (r.append hd)
 have aH:(al.ref (s.heap.objs.size+1)::us++ds).length=aI.length:=by
  have e:=eL.length
  rw[F.len _ _ _ _ aT]at e
  exact e.symm
 refine xX (RD (f:=f) aa.gp M.makes M.init (beq_iff_eq.mp M.fn) (oQ (F.run _ X.stack _ _ ⟨al.ref (s.heap.objs.size+1)::us,[]⟩ (al.ref (s.heap.objs.size+1)::(us++ds)) _ _ E (aF.make C us [])
  (bM.Dw.make C us []) (ao _ (al.ref (s.heap.objs.size+1)::us) bM.gp aH) eL aT) fun r aR w3=>?_))
 cases r with
 |error e=>exact av aj ae _ _ e aR bM w3
 | ok fT =>
  cases fT with
  |ret u =>
   obtain⟨v,ai,iv,dG,ev,fx⟩:=bM.after w3
   subst ev
   exact⟨dG,⟨V.ref (s.heap.objs.size+1),ai,iv,I,fx⟩⟩
  |next=>exact False.elim w3
  |brk=>exact False.elim w3
  |cont=>exact False.elim w3
theorem Sf(M:Bz X.K C f)(F:di X.prog X.w X.K X.mg X.base CX k f fd aI sp)(aF:fY (k+1) X.A)(aN:iI X x)(hm:X.mg x=J (.ref C))(ao:Binds X.K fd aI ds)(hd:Vals dvs ds)(av:Passes CX X E)
  (bz:ib X (e::aV) t) (jK:(x == ("__debug__":af))=ay:=by decide) (he:dN (e::aV) X.env=(ay,eval e X.env)::dN aV X.env:=by rfl) (hx:(backTo aX (dN aV X.env)).any (·.1)=ay:=by rfl) :
  b6 X (.Call (.Name x p) (e::aV) [] aX) (Mr C sp dvs E t):=by
 intro aj s ae H Q aa h
 refine sT (tY aa aN hm ?_ jK)
 refine A2 (h₀:=X.base) aa.ok.mod.qH M.ik (cO (bz aX aj s ae H _ aa h) fun us s1 bJ=>?_) he hx
 obtain⟨vs,H1,bc,r,q⟩:=bJ
 refine ⟨bc.gp,?_⟩
 exact Rl M F aF ao hd av bc r q
end
structure cP(N P:List af)(sc:Scope):Prop where
 kind:sc.kind=.function
 co:sc.isCoroutine=ay
 gen:sc.isGenerator=ay
 bC:N.Nodup
 pre:N.take P.length=P
 par:∀x∈P,sc.names.lookup x=J .local\/sc.names.lookup x=J .cell
 XQ:∀y∈sc.names,y.2≠.free
def Yg(N P:List af)(sc:Scope):Bool:=decide ((sc.kind=.function)∧(sc.isCoroutine=ay)∧(sc.isGenerator=ay)∧(N.Nodup)∧(N.take P.length=P)∧(∀x∈P,sc.names.lookup x=J .local\/sc.names.lookup x=J .cell)∧(∀y∈sc.names,y.2≠.free))
theorem dc{P:List af}(h:Yg N P sc=au:=by decide+kernel):cP N P sc:=have ⟨a,b,c,d,e,f,g⟩:=of_decide_eq_true h;⟨a,b,c,d,e,f,g⟩
theorem HX{kindOf:af->Option je}{x:af}:∀{binds:List (af×al)}{m:af->Option al},(∀v,(x,v)∉binds)->bindL kindOf binds m x=m x
 |[],_,_=>rfl
 | (n,v)::r,m,h=>by
  unfold bindL
  rw[HX fun w hw=>h w (eo _ hw)]
  split
  ·have:x≠n:=by rintro rfl;exact h v gU
   simp[this]
  .rfl
theorem HZ{kindOf:af->Option je}{x:af}:∀{binds:List (af×al)}{m:af->Option al},(∀v,(x,v)∉binds)->bindC kindOf binds m x=m x
 |[],_,_=>rfl
 | (n,v)::r,m,h=>by
  unfold bindC
  rw[HZ fun w hw=>h w (eo _ hw)]
  split
  .rfl
  ·have:x≠n:=by rintro rfl;exact h v gU
   simp[this]
theorem HY{kindOf:af->Option je}{x:af}{v:al}:∀{P:List af}{vs:List al}{i:Nat}{m:af->Option al},P.Nodup->P[i]?=J x->vs[i]?=J v->kindOf x=J .local->
  bindL kindOf (P.zip vs) m x=J v
 |[],_,_,_,_,h,_,_=>by simp at h
 |_::_,[],_,_,_,_,h,_=>by simp at h
 |p::P,w::vs,0,m,bC,aq,az,hk=>by
  simp at aq az;subst aq;subst az
  show bindL kindOf ((p,w)::P.zip vs) m p=_
  unfold bindL
  rw[HX fun v bS=>(List.nodup_cons.mp bC).1 (List.of_mem_zip bS).1,if_pos hk]
  simp
 |p::P,w::vs,i+1,m,bC,aq,az,hk=>by
  show bindL kindOf ((p,w)::P.zip vs) m x=_
  unfold bindL
  exact HY (i:=i) (List.nodup_cons.mp bC).2 (by simpa using aq) (by simpa using az) hk
theorem H0{kindOf:af->Option je}{x:af}{v:al}:∀{P:List af}{vs:List al}{i:Nat}{m:af->Option al},P.Nodup->P[i]?=J x->vs[i]?=J v->kindOf x≠J .local->
  bindC kindOf (P.zip vs) m x=J v
 |[],_,_,_,_,h,_,_=>by simp at h
 |_::_,[],_,_,_,_,h,_=>by simp at h
 |p::P,w::vs,0,m,bC,aq,az,hk=>by
  simp at aq az;subst aq;subst az
  show bindC kindOf ((p,w)::P.zip vs) m p=_
  unfold bindC
  rw[HZ fun v bS=>(List.nodup_cons.mp bC).1 (List.of_mem_zip bS).1,if_neg hk]
  simp
 |p::P,w::vs,i+1,m,bC,aq,az,hk=>by
  show bindC kindOf ((p,w)::P.zip vs) m x=_
  unfold bindC
  exact H0 (i:=i) (List.nodup_cons.mp bC).2 (by simpa using aq) (by simpa using az) hk
noncomputable def start(N:List af)(vs:List V):St:=vs.map J++List.replicate (N.length-vs.length) aw
noncomputable def kQ(CX:kG)(P:cW)(w:cD)(K:bH)(mg:af->Option al)(base:bb)(N:List af)(dH:af)(cX:Scope)(f:ah)(dX:al)(A:c1)(outer:List Env)(s:aJ)(H:ar)(E:cC):bj where
 prog:=P
 w:=w
 K:=K
 mg:=mg
 base:=base
 A:=A.deeper (envOfC dH cX s.heap.objs.size f dX)
 N:=N
 dq:=s
 iu:=H
 env:=envOfC dH cX s.heap.objs.size f dX
 outer:=outer
 stack:=envOfC dH cX s.heap.objs.size f dX::outer
 ex:=[]
 calm:=au
 fn:=fun _=>au
 pn:=[]
 xe:=fun e aR=>bK (model P w) (A.deeper (envOfC dH cX s.heap.objs.size f dX)) (leaving (envOfC dH cX s.heap.objs.size f dX) e) (fun _ nF=>CX outer H s E e nF) (fun cR nF=>CX outer H s E cR nF) aR
theorem Iw(h:sc.names.lookup x=J .cell):∃c,(cellsFrom n sc.names []).lookup x=J c:=by
 have q:=PySem.W.cellsFrom_some sc.names n [] (.inl h)
 exact Option.isSome_iff_exists.mp q
theorem QZ{CX:kG}{f:ah}{dX:al}{s1:aJ}{E:cC}
  (S:cP N aI cX) (hd:A.handled=aw) (eI:q6 P w K mg base A outer s H) (aH:vs.length=aI.length) (r:Vals vs us)
  (x:InCallC s s.heap.objs.size (bindL (envOfC dH cX s.heap.objs.size f dX).kindOf (aI.zip us) fun _=>aw) (cellsFrom (s.heap.objs.size+1) cX.names []) (bindC (envOfC dH cX s.heap.objs.size f dX).kindOf (aI.zip us) fun _=>aw) s1) :
  Inv (kQ CX P w K mg base N dH cX f dX A outer s H E) [] (start N vs) H s1:=by
 have hx:aI.length<=N.length:=by have:=congrArg List.length S.pre;rw[kj]at this;omega
 obtain⟨aq,c0,rfl,hk⟩:=x.done
 have xl:∀b:ah,b∉(kQ CX P w K mg base N dH cX f dX A outer s H E).ex:=fun b z=>absurd (show b∈([]:List ah)from z) (by simp)
 refine⟨⟨eI.mod,S.kind,I,I,cQ _,fun y z c aq az=>?_,fun y bF=>?_,fun y c _ h=>?_,fun _=>hd,c1.frames_deeper eI.frames,.inr ⟨I,I⟩,fun b z=>absurd z (xl b),eI.bs,eI.na,fun b _ _=>xl b,fun b z=>absurd z (xl b),eI.kS,eI.pv⟩,
  rfl,eI.bare,fy.kept hk,⟨_,x.toInCall.ns,fun i y v aq az bE=>?_⟩,fun y c h=>⟨_,x.cell y c h⟩,eI.aU.fresh (cQ _),fun y c h=>?_,fun p bh=>absurd (show p∈([]:List (ah×bo))from bh) (by simp),eI.aU.kept hk,?_⟩
 .exact name_of_addr x.apart (PySem.mem_of_lookup aq) (PySem.mem_of_lookup az)
 ·have bF:cX.names.lookup y=J .cell\/cX.names.lookup y=J .free:=bF
  rcases bF with bF|bF
  .exact Iw bF
  .exact absurd I (S.XQ _ (PySem.mem_of_lookup bF))
 .exact Nat.le_of_lt (x.above y c (PySem.mem_of_lookup h))
 ·have aE:i<vs.length:=by
   unfold start at az
   by_cases aE:i<vs.length
   .exact aE
   ·rw[List.getElem?_append_right (by simpa using aE)]at az
    rw[List.getElem?_replicate]at az
    split at az<;>cases az
  have bz:vs[i]?=J v:=by
   unfold start at az
   rw[List.getElem?_append_left (by simpa using aE),gm]at az
   cases e:vs[i]? with
   |none=>rw[e]at az;cases az
   |some a=>rw[e]at az;cases az;rfl
  obtain⟨u,dZ,dG⟩:=r.get bz
  have bh:aI[i]?=J y:=by
   rw[<-S.pre,List.getElem?_take_of_lt (by omega)];exact aq
  have KV:aI.Nodup:=by rw[<-S.pre];exact S.bC.sublist (List.take_sublist _ _)
  refine⟨u,dG,?_⟩
  rcases S.par y (iL bh)with k|k
  .exact .inl ⟨k,HY KV bh dZ k⟩
  ·obtain⟨c,e⟩:=Iw (n:=s.heap.objs.size+1) k
   refine .inr ⟨.inl k,c,e,?_⟩
   have q:=x.cell y c e
   rw[H0 KV bh dZ (by show cX.names.lookup y≠_;rw[k];decide)]at q
   exact q
 .exact eI.aU.fresh (Nat.le_of_lt (x.above y c (PySem.mem_of_lookup h)))
 ·unfold start
  show _=N.length
  rw[eU,cI,List.length_replicate]
  omega
theorem Ji{CX:kG}{f:ah}{name:af}{params:Arguments}{zp gq:al}
  {sp:cT} (qI:K.lookup f=J ⟨h2,od,.func (nN name dH params body cX zp gq doc pm an bD ct),lW⟩) (lO:A3 K bD dH=au) (S:cP N aI cX)
  (len:∀vs H Q E,sp vs H Q E->vs.length=aI.length)
  (kt:∀(A:c1)(outer:List Env)(s:aJ)(H:ar)(vs:List V)(Q:bP)(E:cC),fY k (A.deeper (envOfC dH cX s.heap.objs.size f bD))->sp vs H Q E->
   ∃t,hD (kQ CX P w K mg base N dH cX f bD A outer s H E) body t/\t {nx:=fun _ ai=>Q .aK ai,rt:=Q} (start N vs) H) :
  di P w K mg base CX (k+1) f (nN name dH params body cX zp gq doc pm an bD ct) aI sp:=by
 refine⟨len,fun A outer s H args us vs Q E aF eI ao r ou=>?_⟩
 have aH:=len _ _ _ _ ou
 have KX:K.In s.heap:=eI.mod.qH.keeps fun b o e=>(eI.bs b o e).1
 have lim:s.heap.NoLimit:=eI.mod.nolimit.keeps fun b o e=>(eI.bs b o e).1
 have VN:∀y∈aI.zip us,cX.names.lookup y.1=J .local\/(cX.names.lookup y.1=J .cell/\((cellsFrom (s.heap.objs.size+1) cX.names []).lookup y.1).isSome=au):=fun⟨n,v⟩ bF=>by
  rcases S.par n (List.of_mem_zip bF).1 with q|q
  .exact .inl q
  .exact .inr ⟨q,PySem.W.cellsFrom_some _ _ _ (.inl q)⟩
 refine codeAny_call_function aF.depth (KX _ _ qI) I S.co S.gen I (PySem.W.codeRec_of KX lO) (ao _ _ _ _ ?_)
 refine wpAny_newFunctionEnv_cells S.kind VN fun env he s1 x=>?_
 subst he
 refine⟨lim.keeps x.toInCall.keep,codeAny_func ?_⟩
 obtain⟨t,aO,aT⟩:=kt A outer s H vs Q E (aF.deeper _) ou
 have aa:Inv (kQ CX P w K mg base N dH cX f bD A outer s H E) [] (start N vs) H s1:=QZ S aF.hd eI aH r x
 refine jU (aO [] s1 (start N vs) H _ aa aT) (fun fT aR hs=>?_) fun e aR hs=>hs
 have aZ:∀{bU:St}{ai:ar}{v:V}{u:al},Inv (kQ CX P w K mg base N dH cX f bD A outer s H E) [] bU ai aR->RelV v u->Q v ai->Bb outer P w H s Q u aR :=
  fun{bU ai v u}dS dG q=>⟨v,ai,dS.os,dS.bare,dS.base,dS.aU,dG,q⟩
 cases fT with
 |ret u =>
  obtain⟨v,bU,ai,dS,dG,q⟩:=hs
  exact aZ dS dG q
 |next =>
  obtain⟨bU,ai,dS,q⟩:=hs
  exact aZ (v:=V.aK) (u:=al.none) dS I q
 |brk =>
  obtain⟨_,_,_,q⟩:=hs
  exact False.elim q
 |cont =>
  obtain⟨_,_,_,q⟩:=hs
  exact False.elim q
section
variable {X:bj} {x:af} {p aX:Pos} {e:cq} {aV:List cq} {t:hg} {id T:String} {r:List V->ar->bP->Prop}
def AM(r:List V->ar->bP->Prop)(t:hg):TE:=fun ae H Q=>t ae H fun vs H1=>r vs H1 Q
theorem bY(hc:gR X (.builtin id) r)(aN:iI X x)(hm:X.mg x=aw)(bS:jf x=J (.builtin id))(bz:ib X (e::aV) t)(bf:x≠"__name__":=by decide)(jK:(x == ("__debug__":af))=ay:=by decide)
  (he:dN (e::aV) X.env=(ay,eval e X.env)::dN aV X.env:=by rfl) (hx:(backTo aX (dN aV X.env)).any (·.1)=ay:=by rfl):b6 X (.Call (.Name x p) (e::aV) [] aX) (AM r t):=by
 intro aj s ae H Q aa h
 refine sT (pd aa aN hm bS ?_ bf jK)
 refine PyProof.Rows.callWith_builtin1 (cO (bz aX aj s ae H _ aa h) fun us s1 bJ=>?_) he hx
 obtain⟨vs,H1,bc,b5,cA⟩:=bJ
 exact hc aj s1 ae H1 vs us Q bc b5 cA
theorem n2(hc:gR X (.type T) r)(aN:iI X x)(hm:X.mg x=aw)(bS:jf x=J (.type T))(bz:ib X (e::aV) t)(bf:x≠"__name__":=by decide)(jK:(x == ("__debug__":af))=ay:=by decide)
  (he:dN (e::aV) X.env=(ay,eval e X.env)::dN aV X.env:=by rfl) (hx:(backTo aX (dN aV X.env)).any (·.1)=ay:=by rfl):b6 X (.Call (.Name x p) (e::aV) [] aX) (AM r t):=by
 intro aj s ae H Q aa h
 refine sT (pd aa aN hm bS ?_ bf jK)
 refine PyProof.Rows.callWith_type1 (cO (bz aX aj s ae H _ aa h) fun us s1 bJ=>?_) he hx
 obtain⟨vs,H1,bc,b5,cA⟩:=bJ
 exact hc aj s1 ae H1 vs us Q bc b5 cA
end
end cM
namespace eR
open PySem PyProof.Rows
section
open PySem.SeqAt
open PySem.AutoSeq1 (wpAny_loadPart')
open PySem.MeetsSeq PySem.MeetsSeq2 PySem.MeetsSeq3
end
section
variable {prog:cW} {w:cD} {A:c1} {E:al->aJ->Prop} {s:aJ}
noncomputable def gs(n d:Nat):Option Int->Nat
 |none=>d
 |some v=>if v<0 then(v+(n:Int)).toNat else min v.toNat n
theorem Av(n d:Nat):gs n d aw=d:=rfl
theorem Au(n d k:Nat):gs n d (J (k:Int))=min k n:=by
 show(if(k:Int)<0 then((k:Int)+(n:Int)).toNat else min (k:Int).toNat n)=min k n
 rw[if_neg (by omega),Int.toNat_natCast]
theorem Lj(n d:Nat)(hd:d<=n)(o:Option Int):gs n d o<=n:=by
 cases o with
 |none=>exact hd
 |some v =>
  show(if v<0 then(v+(n:Int)).toNat else min v.toNat n)<=n
  by_cases bS:v<0
  .rw[if_pos bS];omega
  .rw[if_neg bS];exact Nat.min_le_right _ _
end
end eR
variable {p:ah} {r:cM.V->Option Int->Option Int->cM.ar->cM.bP->Prop} {ae:cM.St} {H:cM.ar} {xs aM:List cM.V} {its':List al} {y:cM.V} {dE:List cM.V->cM.ar->cM.bP->Prop}
namespace cM
open PySem PySem.Spec PyProof.Rows
noncomputable abbrev dt:=St->ar->(Option Int->ar->Prop)->Prop
def vJ(X:bj)(e:Option cq)(t:dt):Prop :=
 ∀(aj:List (ah×bo))(s:aJ)(ae:St)(H:ar)(Q:Option Int->ar->Prop),Inv X aj ae H s->t ae H Q->
  bK (model X.prog X.w) X.A (evalPart e X.env) (fun u aR=>∃o ai,Inv X aj ae ai aR/\IsPart u o/\Q o ai) X.xe s
noncomputable def aab:dt:=fun _ H Q=>Q aw H
noncomputable def aae(t:TE):dt:=fun ae H Q=>t ae H fun x H1=>∃i,x=.int i/\Q (J i) H1
section
variable {X:bj} {e:cq} {cH:TE} {lo aE:Option cq} {fj oM:dt} {aX cm:Pos}
theorem rA:vJ X aw aab:=by
 intro aj s ae H Q aa h
 rw[evalPart_none]
 exact eF ⟨aw,H,aa,.none,h⟩
theorem rz(h:b6 X e cH):vJ X (J e) (aae cH):=by
 intro aj s ae H Q aa hw
 rw[evalPart_some]
 refine cO (h aj s ae H _ aa hw) fun u s1 bJ=>?_
 obtain⟨x,H1,bc,b5,cA⟩:=bJ
 obtain⟨i,rfl,q⟩:=cA
 obtain⟨t,rfl⟩:=b5
 exact⟨J i,H1,bc,.int i t,q⟩
def qh(X:bj)(r:V->Option Int->Option Int->ar->bP->Prop):Prop :=
 ∀(aj:List (ah×bo))(s:aJ)(ae:St)(H:ar)(x:V)(v mK mL:al)(lo aE:Option Int)(dB:ah)(Q:bP),Inv X aj ae H s->RelV x v->s.heap.IsSliceOf dB mK mL .none->IsPart mK lo->IsPart mL aE->r x lo aE H Q->
  ∃T id,typeLookup (.type T) "__getitem__"=pure (J (.builtin id))/\s.TypeIs v T/\bK (model X.prog X.w) X.A (getItem v (.ref dB)) (hN X aj ae Q) X.xe s
theorem qh.or{dE:V->Option Int->Option Int->ar->bP->Prop}(h:qh X r)(h':qh X dE):qh X (fun x lo aE H Q=>r x lo aE H Q\/dE x lo aE H Q):=by
 intro aj s ae H x v mK mL lo aE dB Q aa bl hs pl pu q
 rcases q with q|q
 .exact h aj s ae H x v mK mL lo aE dB Q aa bl hs pl pu q
 .exact h' aj s ae H x v mK mL lo aE dB Q aa bl hs pl pu q
def aag(r:V->Option Int->Option Int->ar->bP->Prop)(cH:TE)(fj oM:dt):TE:=fun ae H Q=>cH ae H fun x H1=>fj ae H1 fun l ax=>oM ae ax fun u bL=>r x l u bL Q
theorem ri(aF:qh X r)(he:b6 X e cH)(aH:vJ X lo fj)(dZ:vJ X aE oM):b6 X (.Subscript e (.Slice lo aE aw cm) aX) (aag r cH fj oM):=by
 intro aj s ae H Q aa h
 refine Subscript_ (cO (he aj s ae H _ aa h) fun v s1 bJ=>?_)
 obtain⟨x,H1,bc,b5,cA⟩:=bJ
 refine wpAny_Slice (cO (aH aj s1 ae H1 _ bc cA) fun mK s2 ⟨l,ax,bM,pl,cc⟩=>cO (dZ aj s2 ae ax _ bM cc) fun mL hL bJ=>?_)
 obtain⟨u,bL,iv,pu,fx⟩:=bJ
 rw[evalPart_none]
 refine eF ?_
 have ra:Inv X aj ae bL {hL with heap:=hL.heap.push {cls :=.type "slice",data :=.fields #[mK,mL,.none]}}:=iv.kept (t':=hL.toks) fun b dD q=>fF _ q
 obtain⟨T,id,cF,aO,aN⟩:=aF aj {hL with heap:=hL.heap.push {cls :=.type "slice",data :=.fields #[mK,mL,.none]}} ae bL x v mK mL l u hL.heap.objs.size Q ra b5 (bb.IsSliceOf.new ..) pl pu fx
 show bK (model X.prog X.w) X.A (subscriptTail e (.Slice lo aE aw cm) v (.ref hL.heap.objs.size)) (hN X aj ae Q) X.xe {hL with heap:=hL.heap.push {cls :=.type "slice",data :=.fields #[mK,mL,.none]}}
 exact tail_any (ops:=[.ref hL.heap.objs.size,v]) aO cF aN (by with_unfolding_all rfl)
noncomputable def qs(xs:List V)(lo aE:Option Int):List V:=(xs.drop (eR.gs xs.length 0 lo)).take (eR.gs xs.length xs.length aE-eR.gs xs.length 0 lo)
theorem P8(xs:List V)(lo aE:Option Int):(qs xs lo aE).length<=xs.length:=by
 unfold qs
 rw[kj,rq]
 omega
end
noncomputable def pI(n:Nat)(i:Int):Option Nat:=if 0<=i then(if i<n then J i.toNat else aw)else if -(n:Int)<=i then J (i+n).toNat else aw
noncomputable def dv{α:Type}(xs:List α)(i:Int):Option α:=(pI xs.length i).bind fun j=>xs[j]?
theorem IQ{i:Int}(h:pI n i=J j):seqIndex? i n=J j/\j<n/\-(n:Int)<=i/\i<n:=by
 unfold pI at h
 by_cases bt:0<=i
 ·rw[if_pos bt]at h
  by_cases aq:i<n
  ·rw[if_pos aq]at h
   have e:i.toNat=j:=gk h
   exact⟨by rw[seqIndex_of bt aq,e],by omega,by omega,aq⟩
  .rw[if_neg aq]at h;cases h
 ·rw[if_neg bt]at h
  by_cases aq : -(n:Int)<=i
  ·rw[if_pos aq]at h
   have e:(i+n).toNat=j:=gk h
   exact⟨by rw[seqIndex_neg (by omega) aq,e],by omega,aq,by omega⟩
  .rw[if_neg aq]at h;cases h
theorem zg{xs:List α}{i:Int}{v:α}(h:dv xs i=J v):∃j,seqIndex? i xs.length=J j/\xs[j]?=J v/\j<xs.length/\-(xs.length:Int)<=i/\i<xs.length:=by
 unfold dv at h
 cases e:pI xs.length i with
 |none=>rw[e]at h;cases h
 |some j =>
  rw[e]at h
  obtain⟨aq,az,bE,cz⟩:=IQ e
  exact⟨j,aq,h,az,bE,cz⟩
theorem c5{xs:List α}{v:α}(h:xs[j]?=J v):dv xs (j:Int)=J v:=by
 have c4:j<xs.length:=(lE.mp h).1
 have e:pI xs.length (j:Int)=J j:=by
  unfold pI
  rw[if_pos (by omega),if_pos (by omega)];simp
 unfold dv;rw[e];exact h
def GP(b:cq):Prop:=∀o i,subscripted b ay o i=operate [o,i] (getItem o i)
def mW(X:bj)(r:ic):Prop :=
 ∀(value slice:cq)(aj:List (ah×bo))(s:aJ)(ae:St)(H:ar)(x y:V)(v u:al)(Q:bP),Inv X aj ae H s->RelV x v->RelV y u->r x y H Q->
  subscripted slice ay v u=operate [v,u] (getItem v u)->bK (model X.prog X.w) X.A (subscriptTail value slice v u) (hN X aj ae Q) X.xe s
def tD(X:bj)(id:String)(r:V->List V->ar->bP->Prop):Prop :=
 ∀(aj:List (ah×bo))(s:aJ)(ae:St)(H:ar)(x:V)(xs:List V)(v:al)(us:List al)(Q:bP),Inv X aj ae H s->RelV x v->Vals xs us->r x xs H Q->
  bK (model X.prog X.w) X.A (call (.builtin id) (v::us)) (hN X aj ae Q) X.xe s
variable {x:V}
section
variable {X:bj} {a b:cq} {cE de:TE} {aX:Pos}
theorem mW.or{r dE:ic}(h:mW X r)(h':mW X dE):mW X (fun x y H Q=>r x y H Q\/dE x y H Q):=by
 intro value slice aj s ae H x y v u Q aa bl cw q hs
 rcases q with q|q
 .exact h value slice aj s ae H x y v u Q aa bl cw q hs
 .exact h' value slice aj s ae H x y v u Q aa bl cw q hs
theorem Tl{r:ic}(aF:mW X r)(bz:b6 X a cE)(ao:b6 X b de)(hs:GP b):b6 X (.Subscript a b aX) (jQ r cE de):=by
 intro aj s ae H Q aa h
 exact Subscript_ (Df bz ao aa h fun v u s2 x y ax bM bl cw q=>aF a b aj s2 ae ax x y v u Q bM bl cw q (hs _ _))
inductive Gw(K:bH)(x y:V)(H:ar)(Q:V->Prop):Prop where
 |mk (p:ah) (xs:List V) (i:Int) (v:V) (a:x=.ref p) (b:y=.int i) (c:dr K H p xs) (d:dv xs i=J v) (h:Q v):Gw K x y H Q
def sy(K:bH):ic:=fun x y H Q=>Gw K x y H fun v=>Q v H
inductive Gy(K:bH)(x y:V)(H:ar)(Q:V->Prop):Prop where
 |mk (p:ah) (xs:List V) (i:Int) (v:V) (a:x=.ref p) (b:y=.int i) (c:fm K H p xs) (d:dv xs i=J v) (h:Q v):Gy K x y H Q
def sA(K:bH):ic:=fun x y H Q=>Gy K x y H fun v=>Q v H
def sz:ic:=fun x y H Q=>∃z i c,x=.str z/\y=.int i/\z.length<=bW/\dv z.cps.toList i=J c/\Q (.str ⟨#[c]⟩) H
theorem Sw:mW X (sy X.K):=by
 intro value slice aj s ae H x y v u Q aa bl cw h hs
 obtain⟨p,xs,i,z,rfl,rfl,aT,he,q⟩:=h
 cases bl
 obtain⟨t,rfl⟩:=cw
 obtain⟨aW,r,pl,bw⟩:=aa.list aT
 obtain⟨j,aq,az,bE,cz,dY⟩:=zg he
 obtain⟨w,nh,xC⟩:=r.get az
 have aH:=r.length
 have bf:=sd
 have aZ:hN X aj ae Q w s:=⟨z,H,aa,xC,q⟩
 by_cases bt:0<=i
 ·have c4:i.toNat=j:=by
   rw[seqIndex_of bt dY]at aq
   exact gk aq
  exact item_listR pl.isList bt (by omega) (by rw[c4];simpa using nh) aZ hs
 ·have c4:(i+(aW.toArray.size:Int)).toNat=j:=by
   rw[seqIndex_neg (by omega) cz]at aq
   rw[eV,<-aH]
   exact gk aq
  exact subscriptTail_builtinR (x:=w) pl.isList.typeIs slot_list_getitem.lookup
   (wpAny_getItem_list_neg (Q:=fun r aR=>r=w/\hN X aj ae Q r aR) pl.isList (by omega) (by rw[eV]<;>omega) (by omega) (by rw[c4];simpa using nh) ⟨rfl,aZ⟩) hs
theorem S9:mW X (sA X.K):=by
 intro value slice aj s ae H x y v u Q aa bl cw h hs
 obtain⟨p,xs,i,z,rfl,rfl,aT,he,q⟩:=h
 cases bl
 obtain⟨t,rfl⟩:=cw
 obtain⟨aW,r,pl,bw⟩:=aa.tuple aT
 obtain⟨j,aq,az,bE,cz,dY⟩:=zg he
 obtain⟨w,nh,xC⟩:=r.get az
 have aH:=r.length
 have bf:=sd
 have aZ:hN X aj ae Q w s:=⟨z,H,aa,xC,q⟩
 exact subscriptTail_builtinR (x:=w) pl.typeIs slot_tuple_getitem.lookup
  (getItem_tuple (j:=j) (Q:=fun r aR=>r=w/\hN X aj ae Q r aR) pl (by omega) (by omega) (by rw[eV,<-aH];exact aq) (by simpa using nh) ⟨rfl,aZ⟩) hs
theorem Ta:mW X sz:=by
 intro value slice aj s ae H x y v u Q aa bl cw h hs
 obtain⟨z,i,c,rfl,rfl,bw,he,q⟩:=h
 obtain⟨t,rfl⟩:=bl
 obtain⟨t',rfl⟩:=cw
 obtain⟨j,aq,az,bE,cz,dY⟩:=zg he
 have aH:z.cps.toList.length=z.length:=by simp[af.length]
 rw[aH]at aq cz dY
 have bf:=sd
 exact tail_any (typeIs_str s z t) slot_str_getitem.lookup (getItem_str (c:=c) (by
  have ba:decide (i < -(2^63:Int))=ay:=fo (by omega)
  have bg:decide (i>=2^63)=ay:=fo (by omega)
  rw[ba,bg,Bool.or_false]) (by rw[aq];simpa using az) ⟨.str ⟨#[c]⟩,H,aa.tok _,⟨_,rfl⟩,q⟩) hs
theorem Qt(aW:List al)(n j:Nat)(u:al):bo.mapSeq (·.setIfInBounds j u) {cls :=.type "list",data :=.seq aW.toArray n}={cls :=.type "list",data :=.seq (aW.set j u).toArray n}:=by
 simp[bo.mapSeq]
theorem Inv.lst(aa:Inv X aj ae H s)(h:H p=J (.lst xs)):
  ∃(aW:List al)(n:Nat),Vals xs aW/\s.heap.get? p=J {cls :=.type "list",data :=.seq aW.toArray n}/\xs.length<=bW:=by
 obtain⟨z,aW,n,r,e⟩:=aa.aU p _ h
 exact⟨aW,n,r,e,z⟩
theorem Inv.Xl{xi:Nat}{f:bo->bo}(aa:Inv X aj ae H s)(h:H p=J (.lst xs))
  (aD:s.heap.get? p=J {cls :=.type "list",data :=.seq aW.toArray n}) (aQ:f {cls :=.type "list",data :=.seq aW.toArray n}={cls :=.type "list",data :=.seq its'.toArray xi}) (r:Vals aM its') (bw:aM.length<=bW) (t:Nat) :
  Inv X aj ae (upd H p (.lst aM)) {s with heap:=s.heap.update p f,toks:=t}:=by
 have e:(s.heap.update p f).get? p=J {cls :=.type "list",data :=.seq its'.toArray xi}:=by
  rw[bb.get?_update_self f aD (by rw[aQ]<;>rfl),aQ]
 refine aa.write (x:=p) (e:=p) (by rw[h];trivial) (.inl I) (fun b u ao q=>(bb.get?_update_other _ _ (e3 ao)).trans q) ⟨_,e⟩ ?_
 exact⟨bw,its',xi,r,e⟩
noncomputable def ZH:V->V->V->ar->(ar->Prop)->Prop:=fun o i v H Q=>∃p xs k j,o=.ref p/\i=.int k/\H p=J (.lst xs)/\pI xs.length k=J j/\Q (upd H p (.lst (xs.set j v)))
theorem Rk:GN X ZH:=by
 intro aj s ae H o i v hK pH u Q aa ZN ZM dG h
 obtain⟨p,xs,k,j,rfl,rfl,bh,c4,q⟩:=h
 cases ZN
 obtain⟨t,rfl⟩:=ZM
 obtain⟨aW,n,r,aD,bw⟩:=aa.lst bh
 obtain⟨aq,az,bE,cz⟩:=IQ c4
 have aH:=r.length
 have bf:=sd
 have gF:Inv X aj ae (upd H p (.lst (xs.set j v))) {s with heap:=s.heap.update p (bo.mapSeq (·.setIfInBounds j u))} :=
  aa.Xl bh aD (Qt aW n j u) (r.set dG j) (by rw[List.length_set];exact bw) s.toks
 by_cases bt:0<=k
 ·have hk:k.toNat=j:=by
   rw[seqIndex_of bt cz]at aq
   exact gk aq
  exact PySem.W.ki_setAt aD bt (by omega) (by rw[eV,<-aH];exact cz) (by rw[hk];exact⟨_,gF,q⟩)
 ·have hk:(k+(aW.toArray.size:Int)).toNat=j:=by
   rw[seqIndex_neg (by omega) bE]at aq
   rw[eV,<-aH]
   exact gk aq
  exact PySem.W.ki_setBack aD (by omega) (by rw[eV,<-aH];exact bE) (by omega) (by rw[hk];exact⟨_,gF,q⟩)
theorem Pl(lo aE:Option Int)(n:Nat):(sliceBounds lo aE aw n).1=((eR.gs n 0 lo:Nat):Int)/\(sliceBounds lo aE aw n).2.1=((eR.gs n n aE:Nat):Int)/\(sliceBounds lo aE aw n).2.2=1:=by
 refine⟨?_,?_,I⟩
 ·cases lo with
  |none=>simp[sliceBounds,eR.gs]
  |some i =>
   simp only[sliceBounds,eR.gs,Option.getD_none,show(1:Int) > 0 by decide,if_true]
   by_cases h:i<0
   .simp only[h,if_true]<;>omega
   .simp only[h,if_false]<;>omega
 ·cases aE with
  |none=>simp[sliceBounds,eR.gs]
  |some i =>
   simp only[sliceBounds,eR.gs,Option.getD_none,show(1:Int) > 0 by decide,if_true]
   by_cases h:i<0
   .simp only[h,if_true]<;>omega
   .simp only[h,if_false]<;>omega
theorem O1(aW:List al)(lo aE:Option Int):slicePick aW.toArray lo aE aw=((aW.drop (eR.gs aW.length 0 lo)).take (eR.gs aW.length aW.length aE-eR.gs aW.length 0 lo)).toArray:=by
 obtain⟨aq,az,bE⟩:=Pl lo aE aW.toArray.size
 unfold slicePick
 rw[aq,az,bE]
 simp only[sliceRange_one,pick_run,eV]<;>rfl
inductive GX(K:bH)(x:V)(H:ar)(Q:List V->Prop):Prop where
 |mk (a:ah) (xs:List V) (e:x=.ref a) (h:dr K H a xs) (q:Q xs):GX K x H Q
noncomputable def ZI(K:bH):V->Option Int->Option Int->ar->bP->Prop:=fun x lo aE H Q=>GX K x H fun xs=>∀p,H p=aw->Q (.ref p) (upd H p (.lst (qs xs lo aE)))
theorem R7:qh X (ZI X.K):=by
 intro aj s ae H x v mK mL lo aE dB Q aa bl hs pl pu h
 obtain⟨a,xs,rfl,av,q⟩:=h
 cases bl
 obtain⟨aW,r,aO,bw⟩:=aa.list av
 have cG:=r.length
 refine⟨"list",_,slot_list_getitem.lookup,aO.isList.typeIs,?_⟩
 refine wpAny_getItem_list_slice aO.isList hs pl pu .none (by simp) ?_ (by rw[eV]<;>omega)
 rw[O1,<-cG]
 refine⟨.ref s.heap.objs.size,_,aa.laid (t':=s.toks) (o :=.lst (qs xs lo aE)) (fun b dD q=>fF _ q) (cQ _) ?_,I,q _ (aa.aU.fresh (cQ _))⟩
 exact⟨dp (P8 xs lo aE) bw,_,0,(r.drop (eR.gs xs.length 0 lo)).take (eR.gs xs.length xs.length aE-eR.gs xs.length 0 lo),gZ _ I⟩
noncomputable def qw:V->Bool
 |.aK=>au
 |.aC _=>au
 |.int _=>au
 |.str _=>au
 |_=>ay
noncomputable def qu:V->V->Bool
 |.aK,.aK=>au
 |.aC a,.aC b=>a == b
 |.aC a,.int b=>(if a then 1 else 0) == b
 |.int a,.aC b=>a == (if b then 1 else 0)
 |.int a,.int b=>a == b
 |.str a,.str b=>a == b
 |_,_=>ay
theorem Td{v:al}(cw:RelV y u)(bl:RelV x v)(UB:qw y=au)(oi:qw x=au):SeqAt.EqAt A s u v (qu y x):=by
 cases y with
 |aK =>
  cases cw
  cases x with
  |aK=>cases bl;exact SeqAt.EqAt.same _
  |aC b=>cases bl;exact SeqAt.EqAt.none_bool b
  |int b=>obtain⟨t,rfl⟩:=bl;exact SeqAt.EqAt.none_int b t
  |str b=>obtain⟨t,rfl⟩:=bl;exact SeqAt.EqAt.none_str b t
  |_=>exact absurd (show ay=au from oi) g0
 |aC a =>
  cases cw
  cases x with
  |aK=>cases bl;exact SeqAt.EqAt.bool_none a
  |aC b=>cases bl;exact SeqAt.EqAt.bool_bool a b
  |int b=>obtain⟨t,rfl⟩:=bl;exact SeqAt.EqAt.bool_int a b t
  |str b=>obtain⟨t,rfl⟩:=bl;exact SeqAt.EqAt.bool_str a b t
  |_=>exact absurd (show ay=au from oi) g0
 |int a =>
  obtain⟨t',rfl⟩:=cw
  cases x with
  |aK=>cases bl;exact SeqAt.EqAt.int_none a t'
  |aC b=>cases bl;exact SeqAt.EqAt.int_bool a t' b
  |int b=>obtain⟨t,rfl⟩:=bl;exact SeqAt.EqAt.int_int a t' b t
  |str b=>obtain⟨t,rfl⟩:=bl;exact SeqAt.EqAt.int_str a t' b t
  |_=>exact absurd (show ay=au from oi) g0
 |str a =>
  obtain⟨t',rfl⟩:=cw
  cases x with
  |aK=>cases bl;exact SeqAt.EqAt.str_none a t'
  |aC b=>cases bl;exact SeqAt.EqAt.str_bool a t' b
  |int b=>obtain⟨t,rfl⟩:=bl;exact SeqAt.EqAt.str_int a t' b t
  |str b=>obtain⟨t,rfl⟩:=bl;exact SeqAt.EqAt.str_str a t' b t
  |_=>exact absurd (show ay=au from oi) g0
 |_=>exact absurd (show ay=au from UB) g0
noncomputable def pk(x:V)(u:al):Bool:=match u with
 |.none=>qu .aK x
 |.bool b=>qu (.aC b) x
 |.int i _=>qu (.int i) x
 |.str z _=>qu (.str z) x
 |_=>ay
theorem Jf(r:RelV y u)(f:qw y=au):pk x u=qu y x:=by
 cases y with
 |aK=>cases r;rfl
 |aC b=>cases r;rfl
 |int i=>obtain⟨t,rfl⟩:=r;rfl
 |str z=>obtain⟨t,rfl⟩:=r;rfl
 |_=>exact absurd (show ay=au from f) g0
theorem CW{x:V}:∀{xs:List V}{us:List al},Vals xs us->xs.all qw=au->us.any (pk x)=xs.any fun y=>qu y x
 |_,_,.nil,_=>rfl
 |y::xs,u::us,.cons r t,f=>by
  rw[List.all_cons,jA]at f
  rw[List.any_cons,List.any_cons,Jf r f.1,CW t f.2]
theorem CI{A:c1}{s:aJ}{x:V}{v:al}(bl:RelV x v)(oi:qw x=au):∀{xs:List V}{us:List al},Vals xs us->xs.all qw=au->∀u∈us,SeqAt.EqAt A s u v (pk x u)
 |_,_,.nil,_=>fun u dZ=>by cases dZ
 |y::xs,u::us,.cons r t,f=>fun qV dZ=>by
  rw[List.all_cons,jA]at f
  rcases dy.mp dZ with rfl|dZ
  .rw[Jf r f.1];exact Td r bl f.1 oi
  .exact CI bl oi t f.2 qV dZ
noncomputable def sb(x:V)(xs:List V):Bool:=xs.any fun y=>qu y x
def ZD(K:bH)(neg:Bool):ic:=fun x y H Q=>∃p xs,y=.ref p/\(dr K H p xs\/fm K H p xs)/\qw x=au/\xs.all qw=au/\Q (.aC (if neg then !sb x xs else sb x xs)) H
theorem QT:dO X (hC .In) (ZD X.K ay):=by
 intro aj s ae H x y v u Q aa bl cw h
 obtain⟨p,xs,rfl,aT,oi,fs,q⟩:=h
 cases cw
 rcases aT with aT|aT
 ·obtain⟨aW,r,pl,bw⟩:=aa.list aT
  refine SeqAt.in_listAt (pk x) pl.isList (fun w hw=>CI bl oi r fs w (by simpa using hw)) ⟨.aC _,H,aa,I,?_⟩
  rw[show aW.toArray.any (pk x)=aW.any (pk x) by simp,CW r fs]
  exact q
 ·obtain⟨aW,r,pl,bw⟩:=aa.tuple aT
  refine SeqAt.in_tupleAt (pk x) pl (fun w hw=>CI bl oi r fs w (by simpa using hw)) ⟨.aC _,H,aa,I,?_⟩
  rw[show aW.toArray.any (pk x)=aW.any (pk x) by simp,CW r fs]
  exact q
theorem Pt:dO X (hC .NotIn) (fun x y H Q=>yt x y fun i j=>Q (.aC (!(!(dh.Str.occurrences j i 0 j.length 1).isEmpty))) H):=by
 intro aj s ae H x y v u Q aa bl cw h
 obtain⟨i,j,rfl,rfl,q⟩:=h
 obtain⟨t,rfl⟩:=bl
 obtain⟨t',rfl⟩:=cw
 exact notIn_str ⟨.aC _,H,aa,I,q⟩
theorem gR.or{f:al}{r:List V->ar->bP->Prop}(h:gR X f r)(h':gR X f dE):gR X f (fun xs H Q=>r xs H Q\/dE xs H Q):=by
 intro aj s ae H xs us Q aa rs q
 rcases q with q|q
 .exact h aj s ae H xs us Q aa rs q
 .exact h' aj s ae H xs us Q aa rs q
theorem Hf:gR X (.type "list") (fun xs H Q=>∃p aM,xs=[.ref p]/\(dr X.K H p aM\/fm X.K H p aM)/\∀l,H l=aw->Q (.ref l) (upd H l (.lst aM))):=by
 intro aj s ae H xs us Q aa r h
 obtain⟨p,aM,rfl,aT,q⟩:=h
 obtain⟨u,rfl,bl⟩:=vals1 r
 cases bl
 have aZ:∀(aW:List al),Vals aM aW->aM.length<=bW->∀(h':bb)(gw:Nat),(∀b eh,s.heap.get? b=J eh->h'.get? b=J eh)->
   h'.get? s.heap.objs.size=J {cls :=.type "list",dict:=aw,data :=.seq aW.toArray gw,slots:=#[]}->hN X aj ae Q (.ref s.heap.objs.size) {s with heap:=h'}:=fun aW dE bw h' gw ik e =>
  ⟨.ref s.heap.objs.size,_,aa.laid (t':=s.toks) ik (cQ _) (show gY X.prog X.w _ h' _ (.lst aM)from⟨bw,aW,gw,dE,e⟩),rfl,q _ (aa.aU.fresh (cQ _))⟩
 rcases aT with aT|aT
 ·obtain⟨aW,dE,pl,bw⟩:=aa.list aT
  have cG:=dE.length
  obtain⟨o,aD,hc,n,hd⟩:=pl.isList
  exact call_list_seq p (.inl I) aD hc hd (fun h' gw ik e=>aZ aW dE bw h' gw ik e) (by simp only[eV]<;>omega)
 ·obtain⟨aW,dE,pl,bw⟩:=aa.tuple aT
  have cG:=dE.length
  obtain⟨o,aD,hc,n,hd⟩:=pl
  exact call_list_seq p (.inr I) aD hc hd (fun h' gw ik e=>aZ aW dE bw h' gw ik e) (by simp only[eV]<;>omega)
theorem BZ:gR X (.type "tuple") (fun xs H Q=>∃p aM,xs=[.ref p]/\((dr X.K H p aM/\∀l,H l=aw->Q (.ref l) (upd H l (.tup aM)))\/(fm X.K H p aM/\Q (.ref p) H))):=by
 intro aj s ae H xs us Q aa r h
 obtain⟨p,aM,rfl,h⟩:=h
 obtain⟨u,rfl,bl⟩:=vals1 r
 cases bl
 rcases h with⟨aT,q⟩|⟨aT,q⟩
 ·obtain⟨aW,dE,pl,bw⟩:=aa.list aT
  have cG:=dE.length
  refine call_tuple_list pl.isList (fun h' ik=>?_) (by simp only[eV]<;>omega)
  have bc:Inv X aj ae H {s with heap:=h'}:=aa.kept (t':=s.toks) ik
  have bM:Inv X aj ae (upd H h'.objs.size (.tup aM)) {s with heap:=h'.push {cls :=.type "tuple",data :=.seq aW.toArray}} :=
   bc.laid (t':=s.toks) (fun b o e=>fF _ e) (cQ _) (show gY X.prog X.w _ _ _ (.tup aM)from⟨bw,aW,dE,IsTup.new _ _⟩)
  exact⟨.ref h'.objs.size,_,bM,I,q _ (bc.aU.fresh (cQ _))⟩
 ·obtain⟨aW,dE,pl,bw⟩:=aa.tuple aT
  exact call_tuple_same pl ⟨.ref p,H,aa,I,q⟩
def FX(K:bH)(T:String)(x:V)(H:ar):Prop:=match x with
 |.str _=>T="str"
 |.int _=>T="int"
 | .ref p=>(T="list"/\∃xs,dr K H p xs)\/(T="tuple"/\∃o,K.lookup p=J o/\o.cls=.type "tuple"/\o.dict=aw)\/
   (T="dict"/\((∃fB,H p=J (.lH fB))\/∃fB,H p=J (.ob fB)))\/(T="set"/\∃S n,H p=J (.set S n))
 |_=>False
theorem I2{T:String}{v:al}(aa:Inv X aj ae H s)(r:RelV x v)(ty:FX X.K T x H):
  s.TypeIs v T/\∀a,v=.ref a->∃dD,s.heap.get? a=J dD/\dD.dict=aw:=by
 cases x with
 |str z =>
  obtain⟨t,rfl⟩:=r
  cases(show T="str" from ty)
  exact⟨typeIs_str s z t,fun _ e=>nomatch e⟩
 |int i =>
  obtain⟨t,rfl⟩:=r
  cases(show T="int" from ty)
  exact⟨typeIs_int s i t,fun _ e=>nomatch e⟩
 | ref p =>
  cases r
  rcases ty with⟨rfl,xs,aT⟩|⟨rfl,o,hk,hc,hd⟩|⟨rfl,hk⟩|⟨rfl,S,n,hk⟩
  ·obtain⟨aW,_,pl,_⟩:=aa.list aT
   refine⟨pl.isList.typeIs,fun a e=>?_⟩
   cases e
   obtain⟨o,n,e,c,hd,_⟩:=pl
   exact⟨o,e,hd⟩
  ·refine⟨⟨o,aa.gp p o hk,hc⟩,fun a e=>?_⟩
   cases e
   exact⟨o,aa.gp _ o hk,hd⟩
  ·have z:∃o,s.heap.get? p=J o/\o.ExactDict:=by
    rcases hk with⟨fB,hk⟩|⟨fB,hk⟩
    ·obtain⟨_,_,_,_,o,_,_,e,ex,_⟩:=aa.aU p _ hk
     exact⟨o,e,ex⟩
    .exact(show False from aa.aU p _ hk).elim
   obtain⟨o,e,ex⟩:=z
   refine⟨⟨o,e,ex.1⟩,fun a bg=>?_⟩
   cases bg
   exact⟨o,e,ex.2.1⟩
  ·obtain⟨o,_,_,_,e,ex,_⟩:=aa.aU p _ hk
   refine⟨⟨o,e,ex.1⟩,fun a bg=>?_⟩
   cases bg
   exact⟨o,e,ex.2.1⟩
 |_=>exact False.elim ty
def Z2(K:bH)(T:String)(r:V->List V->ar->bP->Prop)(to:TE):TE:=fun ae H Q=>to ae H fun x H1=>FX K T x H1/\r x [] H1 Q
def Z1(K:bH)(T:String)(r:V->List V->ar->bP->Prop)(to:TE)(t:hg):TE:=fun ae H Q=>to ae H fun x H1=>FX K T x H1/\t ae H1 fun xs ax=>r x xs ax Q
variable {o e:cq} {aV:List cq} {to:TE} {t:hg} {name:af} {apos kP:Pos} {T id:String} {r:V->List V->ar->bP->Prop}
theorem v8(xq:PlainAttrs T)(slot:Slot T name id)(ES:typeOf (.builtin id)=pure (.type "method_descriptor"))(hm:tD X id r)(aD:b6 X o to)
  (Eg:attributeBase o name X.env (eval o X.env)=eval o X.env:=by rfl) (Ex:(apos.endLine == kP.line)=au:=by rfl):b6 X (.Call (.Attribute o name apos) [] [] kP) (Z2 X.K T r to):=by
 intro aj s ae H Q aa h
 refine wpAny_Call_method0_late Eg Ex (cO (aD aj s ae H _ aa h) fun v s1 bJ=>?_)
 obtain⟨x,H1,bc,b5,ty,cA⟩:=bJ
 obtain⟨aq,az⟩:=I2 bc b5 ty
 exact⟨T,id,xq,slot,ES,aq,az,Calls.callWith_builtin I (PySem.evalArgs_none (hm aj s1 ae H1 x [] v [] Q bc b5 .nil cA))⟩
theorem ki(xq:PlainAttrs T)(slot:Slot T name id)(ES:typeOf (.builtin id)=pure (.type "method_descriptor"))(hm:tD X id r)(aD:b6 X o to)(bz:ib X (e::aV) t)
  (Eg:attributeBase o name X.env (eval o X.env)=eval o X.env:=by rfl)
  (VF:((backTo kP (dN (e::aV) X.env)).all (fun x=>!x.1)&&(backToKw kP (xW [] X.env)).all (fun x=>x.1.isSome)
   && decide ((e::aV).length+([]:List Keyword).length+(if([]:List Keyword).isEmpty then 0 else 1)<30))=au:=by rfl)
  (Ex:(apos.endLine == kP.line)=au:=by rfl) (hs:dN (e::aV) X.env=(ay,eval e X.env)::dN aV X.env:=by rfl) (Wf:(backTo kP (dN aV X.env)).any (·.1)=ay:=by rfl) :
  b6 X (.Call (.Attribute o name apos) (e::aV) [] kP) (Z1 X.K T r to t):=by
 intro aj s ae H Q aa h
 refine wpAny_Call_method_late Eg VF Ex I (cO (aD aj s ae H _ aa h) fun v s1 bJ=>?_)
 obtain⟨x,H1,bc,b5,ty,cA⟩:=bJ
 obtain⟨aq,az⟩:=I2 bc b5 ty
 refine⟨T,id,xq,slot,ES,aq,az,?_⟩
 have kr:=bz kP aj s1 ae H1 _ bc cA
 rw[hs]at kr ⊢
 refine Calls.callWith_builtin (by show(ay||(backTo kP (dN aV X.env)).any (·.1))=ay;rw[Wf]<;>rfl) (Calls.evalArgs_plain ?_)
 refine cO kr fun us s2 bJ=>?_
 obtain⟨vs,ax,bM,eL,cc⟩:=bJ
 exact hm aj s2 ae ax x vs v us Q bM b5 eL cc
end
def GK(X:bj)(id:String)(r:V->List V->ar->bP->Prop):Prop :=
 ∀(aj:List (ah×bo))(s:aJ)(ae:St)(H:ar)(x:V)(xs:List V)(v:al)(us:List al)(Q:bP),Inv X aj ae H s->RelV x v->Vals xs us->r x xs H Q->
  bK (model X.prog X.w) X.A (call (.builtin id) (v::us)) (hN X aj ae Q) X.xe s
theorem Vals.one:∀{x:V}{us:List al},Vals [x] us->∃u,us=[u]/\RelV x u
 |_,_,.cons r .nil=>⟨_,rfl,r⟩
theorem Vals.eraseIdx:∀{xs:List V}{us:List al}(i:Nat),Vals xs us->Vals (xs.eraseIdx i) (us.eraseIdx i)
 |_,_,_,.nil =>.nil
 |_,_,0,.cons _ t=>t
 |_,_,i+1,.cons r t =>.cons r (Vals.eraseIdx i t)
theorem Vals.rep{xs:List V}{us:List al}(h:Vals xs us):∀k:Nat,Vals (List.replicate k xs).flatten (List.replicate k us).flatten
 |0 =>.nil
 |k+1=>by
  rw[List.replicate_succ,List.replicate_succ,o4,o4]
  exact Vals.append h (Vals.rep h k)
theorem HM{α:Type}:∀(l:List α)(i:Nat),(l.eraseIdx i).length<=l.length
 |[],_=>cQ _
 |_::_,0=>Nat.le_succ _
 |_::r,i+1=>Nat.succ_le_succ (HM r i)
theorem HP(aW:List al):∀(k:Nat)(acc:List al),
  List.foldl (fun e7 dF=>e7++dF) acc.toArray (List.replicate k aW.toArray)=(acc++(List.replicate k aW).flatten).toArray
 |0,acc=>by simp
 | k+1,acc=>by
  have e:acc.toArray++aW.toArray=(acc++aW).toArray:=by simp
  have bg:(acc++aW)++(List.replicate k aW).flatten=acc++(List.replicate (k+1) aW).flatten:=by
   rw[List.replicate_succ,o4,rp]
  rw[<-bg,<-HP aW k (acc++aW),<-e,List.replicate_succ,List.foldl_cons]
section
variable {X:bj} {aj:List (ah×bo)} {ae:St} {H:ar} {s:aJ} {l b:ah} {xs aM zs:List V}
theorem Inv.KJ{f:Array al->Array al}(aa:Inv X aj ae H s)(ks:H l=J (.lst xs))
  (e:s.heap.get? l=J {cls :=.type "list",data :=.seq aW.toArray n}) (aQ:f aW.toArray=its'.toArray) (bS:Vals aM its') (bw:aM.length<=bW) :
  Inv X aj ae (upd H l (.lst aM)) {s with heap:=s.heap.update l (bo.mapSeq f),toks:=t'}:=by
 have q:=PySem.IsL.update e f
 rw[aQ]at q
 refine aa.write (x:=l) (e:=l) (by rw[ks];exact trivial) (.inl I) (fun Jl u ao dZ=>(bb.get?_update_other s.heap (bo.mapSeq f) (e3 ao)).trans dZ) ⟨_,q⟩ ?_
 exact⟨bw,its',_,bS,q⟩
theorem Inv.KI(aa:Inv X aj ae H s)(bS:Vals aM aW)(bw:aM.length<=bW):
  Inv X aj ae (upd H s.heap.objs.size (.lst aM)) {s with heap:=s.heap.push {cls :=.type "list",data :=.seq aW.toArray},toks:=t'} :=
 aa.laid (fun _ _ q=>fF _ q) (cQ _) ⟨bw,aW,0,bS,gZ _ rfl⟩
theorem Inv.fresh(aa:Inv X aj ae H s):H s.heap.objs.size=aw:=aa.aU.fresh (cQ _)
theorem Inv.uE(aa:Inv X aj ae H s)(ks:H l=J (.lst xs)):xs.length<=bW/\∃(aW:List al)(n:Nat),Vals xs aW/\xs.length=aW.length/\s.heap.get? l=J {cls :=.type "list",data :=.seq aW.toArray n}:=by
 obtain⟨z,aW,n,r,e⟩:=aa.aU l _ ks
 exact⟨z,aW,n,r,r.length,e⟩
theorem XS(h:n<=bW):dh.List.listTooLong n=ay:=by
 unfold dh.List.listTooLong
 exact fo (by omega)
end
section
variable {X:bj}
inductive Gf(x:V)(vs:List V)(H:ar)(Q:ah->List V->V->Prop):Prop where
 |mk (l:ah) (xs:List V) (y:V) (e:x=.ref l) (a:vs=[y]) (h:H l=J (.lst xs)) (c:xs.length<bW) (q:Q l xs y):Gf x vs H Q
noncomputable def ZA:V->List V->ar->bP->Prop:=fun x vs H Q=>Gf x vs H fun l xs y=>Q .aK (upd H l (.lst (xs++[y])))
theorem tJ:GK X "list.append" ZA:=by
 intro aj s ae H x vs v us Q aa bl dG h
 obtain⟨l,xs,y,rfl,rfl,ks,bw,q⟩:=h
 cases bl
 obtain⟨u,rfl,fO⟩:=dG.one
 obtain⟨z,aW,n,r,aH,e⟩:=aa.uE ks
 refine call_meets F.slot_list_append ⟨_,e,I⟩ F.entry_list_append (F.args_list_append_2 _ _) (PySem.list_append l aW.toArray n u (by rw[eV];omega)) ⟨e,?_⟩
 refine⟨.aK,_,aa.KJ (its':=aW++[u]) ks e (by simp) (r.append (.cons fO .nil)) ?_,I,q⟩
 rw[eU,i1]
 omega
noncomputable def ZF:V->List V->ar->bP->Prop:=fun x vs H Q=>∃l xs i k y,x=.ref l/\vs=[.int i]/\H l=J (.lst xs)/\-(2^63)<=i/\i<2^63/\seqIndex? i xs.length=J k/\xs[k]?=J y/\Q y (upd H l (.lst (xs.eraseIdx k)))
theorem Rz:GK X "list.pop" ZF:=by
 intro aj s ae H x vs v us Q aa bl dG h
 obtain⟨l,xs,i,k,y,rfl,rfl,ks,aq,az,hk,bF,q⟩:=h
 cases bl
 obtain⟨u,rfl,fO⟩:=dG.one
 obtain⟨t,rfl⟩:=fO
 obtain⟨z,aW,n,r,aH,e⟩:=aa.uE ks
 obtain⟨w,hw,xC⟩:=r.get bF
 refine call_meets F.slot_list_pop ⟨_,e,I⟩ F.entry_list_pop (F.args_list_pop_2 _ _)
  (MeetsSeq.list_pop_at l aW.toArray n i t k w (fitsIndex_both aq az) (by rw[eV,<-aH];exact hk) (by rw[<-Array.getElem?_toList];exact hw) (by rw[eV];omega)) ⟨e,?_⟩
 refine⟨y,_,aa.KJ (its':=aW.eraseIdx k) ks e ?_ (r.eraseIdx k) ?_,xC,q⟩
 ·show aW.toArray.eraseIdxIfInBounds k=(aW.eraseIdx k).toArray
  rw[List.eraseIdxIfInBounds_toArray]
 ·have:=HM xs k
  omega
def ZC:ic:=fun x y H Q=>∃l b xs zs,x=.ref l/\y=.ref b/\H l=J (.lst xs)/\H b=J (.lst zs)/\xs.length+zs.length<=bW/\∀p,H p=aw->Q (.ref p) (upd H p (.lst (xs++zs)))
theorem zj:dO X (jT .Add) ZC:=by
 intro aj s ae H x y v u Q aa bl cw h
 obtain⟨l,b,xs,zs,rfl,rfl,ks,fU,bw,q⟩:=h
 cases bl
 cases cw
 obtain⟨z,aW,n,r,aH,e⟩:=aa.uE ks
 obtain⟨el,gA,es,eL,f7,bg⟩:=aa.uE fU
 refine PySem.P.add_list e bg ?_ (by rw[eV,eV];omega)
 have c6:aW.toArray++gA.toArray=(aW++gA).toArray:=by simp
 rw[c6]
 exact⟨.ref _,_,aa.KI (t':=s.toks) (r.append eL) (by rw[eU];omega),I,q _ aa.fresh⟩
def ZG:ic:=fun x y H Q=>∃l k xs,x=.ref l/\y=.int k/\H l=J (.lst xs)/\-(2^63)<=k/\k<2^63/\xs.length*k.toNat<=bW/\
 ∀p,H p=aw->Q (.ref p) (upd H p (.lst (List.replicate k.toNat xs).flatten))
theorem Su(xs:List α)(k:Nat):(List.replicate k xs).flatten.length=k*xs.length:=by
 induction k with
 |zero=>simp
 |succ k cp=>rw[List.replicate_succ,o4,eU,cp,Nat.succ_mul,Nat.add_comm]
theorem I8:dO X (jT .Mult) ZG:=by
 intro aj s ae H x y v u Q aa bl cw h
 obtain⟨l,k,xs,rfl,rfl,ks,aq,az,bw,q⟩:=h
 cases bl
 obtain⟨t,rfl⟩:=cw
 obtain⟨z,aW,n,r,aH,e⟩:=aa.uE ks
 have cG:aW.toArray.size*k.toNat<=bW:=by rw[eV,<-aH];exact bw
 have rW:¬aW.toArray.size*k.toNat > (2^63-1)/8:=by
  have:(bW:Nat)<=(2^63-1)/8:=by decide
  omega
 have oq:¬(!dh.List.listFitsIndex k)=au:=by
  rw[fitsIndex_both aq az]
  exact g0
 have VX:¬dh.List.listTooLong (aW.toArray.size*k.toNat)=au:=by
  rw[XS cG]
  exact g0
 have V6:List.foldl (fun e7 dF=>e7++dF) #[] (List.replicate (if aW.toArray.isEmpty=au then 0 else k.toNat) aW.toArray)=(List.replicate k.toNat aW).flatten.toArray:=by
  have f0:∀m:Nat,List.foldl (fun e7 dF=>e7++dF) #[] (List.replicate m aW.toArray)=(List.replicate m aW).flatten.toArray:=fun m=>by
   have:=HP aW m []
   rw[List.nil_append]at this
   exact this
  rw[f0]
  cases aW with
  |nil=>simp
  |cons a dE=>rw[if_neg (by simp)]
 refine wpAny_binaryOp_repeat_ref (T:="list") (U:="int") (by decide) ⟨_,e,I⟩ (fun aR=>typeIs_int aR k t) noFill_list_mul F.fills_int_mul F.slot_int_rmul repeat_list F.slot_int_index.lookup
  (call_meets F.slot_int_rmul (typeIs_int s k t) F.entry_int_rmul (F.args_int_rmul_2 _ _) (int___rmul___int_list k t l aW.toArray n)
   ⟨e,rfl,⟨_,e,rfl⟩,call_meets F.slot_list_mul ⟨_,e,rfl⟩ F.entry_list_mul (F.args_list_mul_2 _ _) (AutoListH.list___mul___list_int_3 l aW.toArray n k t oq rW VX) ⟨e,?_⟩⟩)
 rw[V6]
 exact⟨.ref _,_,aa.KI (t':=s.toks) (r.rep k.toNat) (by rw[Su,Nat.mul_comm];exact bw),I,q _ aa.fresh⟩
end
end cM
variable {loose:List af} {tP:(af->Option al)->bb->Prop} {qn:cD->bb->Prop}
namespace Gg
open PySem PySem.W PySem.Calls PyProof.Rows
variable {P:Params}
theorem OI:∀(ns:List Int)(vs:List al),WellAll P h vs (ns.map WData.int)->IntsAre vs ns:=by
 intro ns
 induction ns with
 |nil =>
  intro vs w
  rw[List.map_nil]at w
  cases w
  exact .nil
 | cons n ns cp =>
  intro vs w
  rw[jB]at w
  cases w with
  |cons a b =>
   cases a
   exact .cons _ _ (cp _ b)
variable {l:OpenLaw}
theorem QJ(bf:l.most=J n){args:List WData}{vals:List al}
  (zY:l.row.toRowW.claim.pre args=au) (ny:WellAll P h vals args) :
  ∃a vs ns,vals=[al.ref a]/\args=[WData.list (ns.map WData.int)]/\h.get? a=J {cls :=.type "list",data :=.seq vs.toArray}/\IntsAre vs ns/\ns.length<=n:=by
 have Wk:WShape.hasAll [] args [.list .int]=au:=(pre_splitW zY).1
 have hc:l.pre.holds [] {args:=args}=au:=(pre_splitW zY).2
 obtain⟨d,r,rfl,aq,az⟩:=hasAllW_cons Wk
 obtain rfl:=hasAllW_nil az
 obtain⟨xs,rfl,bE⟩:=hasW_list aq
 obtain⟨ns,rfl⟩:=items_int bE
 have cG:ns.length<=n:=by
  unfold OpenLaw.pre at hc
  have cz:(WTm.not (.lt (.lit (.int (n:Int))) (.len (.arg 0)))).holds [] {args:=[.list (ns.map .int)]}=au:=by
   have cz:=(holds_andW hc).1
   rw[bf]at cz
   exact cz
  have dY:=condW_of cz (w_not (w_lt w_lit (w_len_list (w_arg rfl))))
  rw[cI]at dY
  refine Nat.le_of_not_lt fun q=>?_
  have fw:(n:Int)<((ns.length:Nat):Int):=by omega
  first
   |(rw[eY fw]at dY;exact absurd dY (by decide))
   |(simp at dY;omega)
 cases ny with
 |cons l1 iU =>
  cases iU
  cases l1 with
  |list aD i6=>exact⟨_,_,ns,I,I,aD,OI ns _ i6,cG⟩
theorem QL(l:OpenLaw)(args:List WData):l.row.toRowW.claim.post args (.bool au) args=au :=
 postW_of (r:=l.row.toRowW) (X:=(au == au))
  (show WShape.has [] (.bool au) .bool=au by first|rfl|decide|simp[WShape.has,WShape.arms,WShape.armsAll])
  (show(WTm.eq .res (.lit (.bool au))).value [] {args:=args,res:=J (.bool au),after:=args}=J (.bool (au == au))from w_eq_bool (w_res rfl) w_lit) rfl
theorem TM{q:cW}{d:DefRec}
  (bf:l.most=J n) (wK:d.params.defaults=[])
  (call:∀(w:cD)(dq dQ:aJ)(mg mz:af->Option al)(fa:ah)(o:bo)(pm dX doc:al)(a:ah)(vs:List al)(ns:List Int),
   Ground q loose [] tP w dq mg mz dQ.heap->qn w dQ.heap->
   dQ.heap.get? fa=J o->o.data=.func (docDef d.name d.params d.body d.scope pm dX doc)->dQ.heap.CodeRec dX d.name->mg d.name=J (.ref fa)->
   dQ.heap.get? a=J {cls :=.type "list",data :=.seq vs.toArray}->IntsAre vs ns->ns.length<=n->dQ.gens=#[]->
   lu (model l.prog w) callerA (.call (.ref fa) ⟨[.ref a],[]⟩) (fun r aR=>r=.ok (.ret (.bool au))/\OldK dQ.heap aR.heap/\aR.os=dQ.os/\AllBare aR.gens) dQ) :
  WalkO q loose tP qn l.row.toRowW d [] (fun f vs=>PySem.call f vs):=by
 intro w dq dQ mg mz G Y fa o pm dX doc zp gq aD hd lO dz hmg aN args vals as zY acd ack ny acf
 obtain rfl:zp=.none:=Dflts.none dz wK
 obtain rfl:gq=.none:=Dflts.noKw dz
 obtain⟨a,vs,ns,rfl,rfl,EF,hints,cG⟩:=QJ bf zY ny
 refine enter_call (oQ (call w dq dQ mg mz fa o pm dX doc a vs ns G Y aD (fd_plain hd) lO hmg EF hints cG aN) fun r aR aT=>?_)
 obtain⟨rfl,az,bE,cz⟩:=aT
 exact⟨.inl ⟨.bool au,.bool au,[],I,fun _=>I,.bool au,QL l _,fun _=>⟨List.Pairwise.nil,fun _ hm=>(nomatch hm)⟩⟩,az,bE,cz⟩
section
variable {prog:cW} {w:cD} {A:c1} {E:al->aJ->Prop} {s:aJ} {K:Frag}
noncomputable def acv(h:bb)(L d:ah):List (ah×bo):=(List.range h.objs.size).filterMap fun a=>if a=L\/a=d then aw else(h.get? a).map fun o=>(a,o)
end
end Gg
variable {CX:cM.kG} {fa:ah} {X:cM.bj} {B:Prop} {H1 ax ai:cM.ar}
namespace cM
open PySem PySem.Spec PyProof.Rows
theorem HA:∀{vs:List al}{ns:List Int},IntsAre vs ns->Vals (ns.map V.int) vs
 |_,_,.nil =>.nil
 |_,_,.cons n t h =>.cons ⟨t,rfl⟩ (HA h)
def BB(H:ar):Prop:=∀b,H b=aw\/∃o xs,H b=J (.iO o (.lst xs))
theorem Xd{mz:af->Option al}{sp:cT}{dQ:aJ}{ns:List Int}
  (KX:K.In dQ.heap) (Ke:dQ.heap.Ns d3 mg) (ao:dQ.heap.Ns builtinsNs mz) (Vn:∀x:af,x≠"__name__"->mz x=jf x) (VV:dQ.heap.NoLimit) (aN:dQ.gens=#[])
  (bz:dQ.heap.get? a=J {cls :=.type "list",data :=.seq vs.toArray}) (aE:IntsAre vs ns) (aH:ns.length<=bW) (aF:fY k callerA)
  (F:∀base:bb,K.In base->base.Ns d3 mg->di P w K mg base CX k fa fd [x] sp) (Vo:∀(s:aJ)(u:al),BindsTo s fd ⟨[u],[]⟩ [(x,u)])
  (ou:∀H:ar,BB H->dr K H a (ns.map V.int)->sp [.ref a] H (fun v _=>v=.aC au) fun _ _ _=>False)
  (DZ:∀H e aR,CX [] H dQ (fun _ _ _=>False) e aR->False) :
  lu (model P w) callerA (.call (.ref fa) ⟨[.ref a],[]⟩) (fun r aR=>r=.ok (.ret (.bool au))/\OldK dQ.heap aR.heap/\aR.os=dQ.os/\AllBare aR.gens) dQ:=by
 have dG:=HA aE
 have Xf:=aE.length
 have core:∀H:ar,BB H->dr K H a (ns.map V.int)->fg P w H dQ.heap->(∀b,H b≠aw->b=a)->(H a≠aw->K.lookup a=aw)->
   lu (model P w) callerA (.call (.ref fa) ⟨[.ref a],[]⟩) (fun r aR=>r=.ok (.ret (.bool au))/\OldK dQ.heap aR.heap/\aR.os=dQ.os/\AllBare aR.gens) dQ:=by
  intro H zO fu aU kr gN
  have base_of:∀{b:ah}{o:bo},dQ.heap.get? b=J o->H b=aw->(pF dQ.heap H).get? b=J o:=fun e n=>RE e n
  have xl:∀{b:ah}{o:bo}{aV:Array DictEntry}{fK:Nat},dQ.heap.get? b=J o->o.data=.dict aV fK->H b=aw:=fun{b o aV fK}e d=>by
   cases q:H b with
   |none=>rfl
   |some u =>
    have cR:b=a:=kr b (by rw[q];simp)
    subst cR
    rw[bz]at e;cases e
    have d':Data.seq vs.toArray _=Data.dict aV fK:=d
    cases d'
  have so:∀{b:ah}{m:af->Option al},dQ.heap.Ns b m->(pF dQ.heap H).Ns b m:=fun {b m} ⟨o,aV,fK,e,d,r⟩=>⟨o,aV,fK,base_of e (xl e d),d,r⟩
  have JM:K.In (pF dQ.heap H):=fun b o e=>base_of (KX b o e) (by
   cases q:H b with
   |none=>rfl
   |some u =>
    have cR:b=a:=kr b (by rw[q];simp)
    subst cR
    rw[gN (by rw[q];simp)]at e;cases e)
  have jJ:Mod K mg (pF dQ.heap H):=⟨JM,so Ke,⟨mz,so ao,Vn⟩,let ⟨Xw,aq,az⟩:=VV;⟨Xw,so aq,az⟩⟩
  have eI:q6 P w K mg (pF dQ.heap H) callerA [] dQ H:=⟨rfl,jJ,fun b o e=>Sl e,Nat.le_of_eq (Q2 _ _),trivial,fun b ao=>absurd (show b∈([]:List ah)from ao) (by simp),aU,.of_eq aN⟩
  refine oQ ((F _ JM (so Ke)).run callerA [] dQ H ⟨[.ref a],[]⟩ [.ref a] [.ref a] _ _ aF eI (Vo dQ (.ref a)) (.cons I .nil) (ou H zO fu)) fun r aR h=>?_
  cases r with
  |error e=>exact(DZ H e aR h).elim
  | ok fT =>
   cases fT with
   |next=>exact False.elim h
   |brk=>exact False.elim h
   |cont=>exact False.elim h
   | ret u =>
    obtain⟨v,ai,os,bare,un,Wa,dE,q⟩:=h
    have fw:v=.aC au:=q
    subst fw
    obtain rfl:u=al.bool au:=dE
    refine⟨I,OldK.of_keep fun b o e=>?_,os,bare⟩
    cases q:H b with
    |none=>exact un.keep b o e q (by intro z;exact absurd (show b∈([]:List ah)from z) (by simp)) (by simp)
    | some u =>
     rcases zO b with z|⟨dD,xs,z⟩
     .rw[q]at z;cases z
     ·have el:=un.kq b dD _ z
      obtain⟨ba,_⟩:=aU b _ z
      obtain⟨bg,_⟩:=Wa b _ el
      rw[e]at ba;cases ba
      exact bg
 cases hk:K.lookup a with
 |some o =>
  have e:=KX a o hk
  rw[bz]at e
  cases e
  refine core (fun _=>aw) (fun _ =>.inl I) (.inr ⟨_,vs.toArray,_,hk,I,I,I,by rw[eV,Xf];exact aH,by simpa using dG⟩) (fun b u z=>by have nM:(aw:Option dC)=J u:=z;cases nM) (fun b z=>absurd rfl z) fun z=>absurd rfl z
 | none =>
  refine core (fun b=>if b=a then J (.iO {cls :=.type "list",data :=.seq vs.toArray} (.lst (ns.map V.int)))else aw) (fun b=>?_) (.inl (.inr ⟨{cls :=.type "list",data :=.seq vs.toArray},if_pos rfl⟩)) (fun b u z=>?_) (fun b z=>?_) fun _=>hk
  ·by_cases ao:b=a
   .exact .inr ⟨_,_,if_pos ao⟩
   .exact .inl (if_neg ao)
  ·by_cases ao:b=a
   ·have nM:=(if_pos ao).symm.trans z
    cases nM
    subst ao
    exact⟨bz,by rw[cI];exact aH,vs,_,dG,bz⟩
   ·have nM:=(if_neg ao).symm.trans z
    cases nM
  ·by_cases ao:b=a
   .exact ao
   .exact absurd (if_neg ao) z
theorem R2{l:PySem.W.OpenLaw}{q:cW}{d:DefRec}{K:Params->bH}{CX:cD->kG}{sp:cD->cT}
  (bf:l.most=J n) (r2:n<=bW) (wK:d.params.defaults=[]) (aF:fY k callerA)
  (Ec:∀(w:cD)(h:bb),qn w h->(K w.params).In h)
  (F:∀(w:cD)(mg:af->Option al)(fa:ah)(h:bb),(K w.params).In h->h.Ns d3 mg->mg d.name=J (.ref fa)->
   ∃fd:hB,(∀(s:aJ)(u:al),BindsTo s fd ⟨[u],[]⟩ [(x,u)])/\
    ∀base:bb,(K w.params).In base->base.Ns d3 mg->di l.prog w (K w.params) mg base (CX w) k fa fd [x] (sp w))
  (ou:∀(w:cD)(H:ar)(a:ah)(ns:List Int),ns.length<=n->BB H->dr (K w.params) H a (ns.map V.int)->sp w [.ref a] H (fun v _=>v=.aC au) fun _ _ _=>False)
  (DZ:∀(w:cD)(H:ar)(s:aJ)(e:al)(aR:aJ),CX w [] H s (fun _ _ _=>False) e aR->False) :
  PySem.W.WalkO q loose tP qn l.row.toRowW d [] (fun f vs=>PySem.call f vs):=by
 refine Gg.TM bf wK fun w dq dQ mg mz fa o pm dX doc a vs ns G Y aD hd lO hmg EF hints cG aN=>?_
 have KX:=Ec w _ Y
 obtain⟨fd,ao,eJ⟩:=F w mg fa _ KX G.T.g hmg
 exact Xd KX G.T.g G.T.b G.T.builtins G.T.nolimit aN EF hints (dp cG r2) aF eJ ao (fun H zO fu=>ou w H a ns cG zO fu) fun H e aR=>DZ w H dQ e aR
noncomputable def fq(s:bG)(j:Nat):bG:=match s with
 |.ClassDef _ _ _ body _ _ _ _ _ _ _=>body.getD j (.Pass ⟨0,0,0,0⟩)
 |_ => .Pass ⟨0,0,0,0⟩
noncomputable def oc(s:bG):Arguments:=match s with
 |.FunctionDef _ a _ _ _ _ _ _ _ _=>a
 |_=>{posonlyargs:=[],args:=[],vararg:=aw,kwonlyargs:=[],kw_defaults:=[],kwarg:=aw,defaults:=[]}
noncomputable def jF(s:bG):List bG:=match s with
 |.FunctionDef _ _ b _ _ _ _ _ _ _=>b
 |_=>[]
noncomputable def b4(s:bG):Scope:=match s with
 |.FunctionDef _ _ _ _ _ _ sc _ _ _=>sc
 |_=>{kind :=.function,names:=[],isGenerator:=ay,isCoroutine:=ay}
noncomputable abbrev eb:kG:=fun _ _ _ _ _ _=>False
abbrev h9:cC:=fun _ _ _=>False
theorem An:Passes eb X h9:=fun _ _ _ _ _ _ _ h=>h.elim
structure dV(K:bH)(x dH:af)(st:bG)(f:ah)(fd:hB):Prop where
 ex:∃(h2:al)(od:Option ah)(gq doc pm:al)(an:Option ah)(bD ct:al)(lW:Array (Option al)),
  fd=nN x dH (oc st) (jF st) (b4 st) .none gq doc pm an bD ct/\K.lookup f=J ⟨h2,od,.func fd,lW⟩/\A3 K bD dH=au
 ik:oO K (.ref f)=au
section
variable {P:cW} {w:cD} {K:bH} {mg:af->Option al} {base:bb}
theorem dV.ok{st:bG}{sp:cT}(F:dV K x dH st f fd)(S:cP N aI (b4 st))(len:∀vs H Q E,sp vs H Q E->vs.length=aI.length)
  (kt:∀(bD:al)(A:c1)(outer:List Env)(s:aJ)(H:ar)(vs:List V)(Q:bP)(E:cC),fY k (A.deeper (envOfC dH (b4 st) s.heap.objs.size f bD))->sp vs H Q E->
   ∃t,hD (kQ eb P w K mg base N dH (b4 st) f bD A outer s H E).pO (jF st) t/\t {nx:=fun _ ai=>Q .aK ai,rt:=Q} (start N vs) H):di P w K mg base eb (k+1) f fd aI sp:=by
 obtain⟨h2,od,gq,doc,pm,an,bD,ct,lW,rfl,qI,lO⟩:=F.ex
 refine Ji qI lO S len fun A outer s H vs Q E aF ou=>?_
 obtain⟨t,h,q⟩:=kt bD A outer s H vs Q E aF ou
 exact⟨t,h.pO,q⟩
theorem dV.binds{st:bG}(F:dV K x dH st f fd)
  (h:∀(gq doc pm:al)(an:Option ah)(bD ct:al)(us:List al),us.length=aI.length->bindArgs (nN x dH (oc st) (jF st) (b4 st) .none gq doc pm an bD ct) ⟨us,[]⟩=pure (aI.zip us)):Binds K fd aI []:=by
 obtain⟨h2,od,gq,doc,pm,an,bD,ct,lW,rfl,qI,lO⟩:=F.ex
 exact .all (h gq doc pm an bD ct)
theorem Jc{st:bG}{gq:al}(l:K.lookup f=J ⟨h2,od,.func (nN x dH (oc st) (jF st) (b4 st) .none gq doc pm an bD ct),lW⟩)
  (c:A3 K bD dH=au) (k:oO K (.ref f)=au):dV K x dH st f (nN x dH (oc st) (jF st) (b4 st) .none gq doc pm an bD ct):=⟨⟨h2,od,gq,doc,pm,an,bD,ct,lW,rfl,l,c⟩,k⟩
end
section
variable {X:bj}
theorem ag(i:Nat)(b9:X.N[i]?=J x:=by rfl)(bS:yA X.env.scope x:=by first|exact Or.inl I|exact Or.inr (Or.inl I)|exact Or.inr (Or.inr I))(hd:(x == ("__debug__":af))=ay:=by decide)
  (lO:(x == ("__classdict__":af))=ay:=by decide):b6 X (.Name x aX) (kz i):=SY b9 bS hd lO
end
variable {A:Prop}
theorem bT(h:B):if ay=au then A else B:=by
 rw[if_neg g0]
 exact h
theorem bN(h:A):if au=au then A else B:=by
 rw[if_pos rfl]
 exact h
theorem la{c:Prop}[Decidable c](hc:c)(h:B):if(!decide c)=au then A else B:=by
 rw[eY hc]
 exact bT h
def dJ(H ai:ar):Prop:=∀b o,H b=J o->ai b=J o
theorem dJ.refl(H:ar):dJ H H:=fun _ _ h=>h
theorem dJ.trans(a:dJ H H1)(b:dJ H1 ax):dJ H ax:=fun c o h=>b c o (a c o h)
theorem dJ.free(e:dJ H ai){l:ah}(h:ai l=Option.none):H l=Option.none:=by
 cases q:H l with
 |none=>rfl
 |some o =>
  rw[e l o q]at h
  cases h
theorem dJ.seq(e:dJ H ai)(h:dr K H a xs):dr K ai a xs:=by
 rcases h with(h|⟨o,h⟩)|h
 .exact .inl (.inl (e _ _ h))
 .exact .inl (.inr ⟨o,e _ _ h⟩)
 .exact .inr h
end cM
variable {o:cM.dC} {cE:cM.hg} {fj:cM.TE} {acc:al} {xF:cM.cT}
section
namespace cM
open PySem PySem.Spec PyProof.Rows
section
variable {X:bj}
theorem vQ:tD X "int.bit_length" (fun x xs H Q=>∃i,x=.int i/\xs=[]/\Q (.int ((dh.Int.intBits i:Nat):Int)) H):=by
 intro aj s ae H x xs v us Q aa bl dG h
 obtain⟨i,rfl,rfl,q⟩:=h
 obtain⟨t,rfl⟩:=bl
 cases dG
 exact call_gives F.slot_int_bit_length (typeIs_int s i t) F.entry_int_bit_length (F.args_int_bit_length_1 _) (AutoIntG2.int_bit_length_int_0 i t) ⟨.int _,H,aa.tok _,⟨_,I⟩,q⟩
theorem IF:∀{aM:List af}{aW:List al},Vals (aM.map V.str) aW->StrsAre aW aM
 |[],_,.nil =>.nil
 |_::_,_,.cons ⟨_,e⟩ r=>by subst e;exact .cons _ _ (IF r)
theorem tX:tD X "str.join" (fun x xs H Q=>∃y a aM,x=.str y/\xs=[.ref a]/\dr X.K H a (aM.map V.str)/\(aM.map (·.length)).sum+aM.length*y.length<=16777216/\Q (.str (Txt.join y aM)) H):=by
 intro aj s ae H x xs v us Q aa bl dG h
 obtain⟨y,a,aM,rfl,rfl,aT,bw,q⟩:=h
 obtain⟨t,rfl⟩:=bl
 obtain⟨u,rfl,fO⟩:=dG.one
 cases fO
 obtain⟨aW,r,pl,_⟩:=aa.list aT
 exact join_list pl.isList (by simpa using IF r) bw fun t' k=>⟨.str _,H,aa.tok _,⟨_,I⟩,q⟩
theorem Qo:dO X (jT .Mult) (fun x y H Q=>∃z i,x=.str z/\y=.int i/\i<2^40/\-(2^40)<i/\z.length*i.toNat<=bW/\Q (.str (Txt.mul z i)) H):=by
 intro aj s ae H x y v u Q aa bl cw h
 obtain⟨z,i,rfl,rfl,aq,az,bE,q⟩:=h
 obtain⟨t,rfl⟩:=bl
 obtain⟨t',rfl⟩:=cw
 refine SB.mul ⟨?_,fun cz _=>?_,fun cz _=>?_⟩ fun t' k=>⟨.str _,H,aa.tok _,⟨_,I⟩,q⟩
 .simp only[Bool.or_eq_false_iff,decide_eq_false_iff_not];omega
 ·intro c
  have bf:(0:Int)<i:=by omega
  have ab2:=sd
  have e:(z.length:Int)*i<=2^63-1:=by
   have:((z.length*i.toNat:Nat):Int)=(z.length:Int)*i:=by rw[Int.natCast_mul];congr 1;omega
   omega
  have:=(Int.le_ediv_iff_mul_le bf).mpr e
  omega
 .unfold dh.Str.tooLong;simpa using bE
theorem Pf:gR X (.type "int") (fun xs H Q=>∃x n,xs=[.str x]/\PySem.intText? x=J n/\x.length<=640/\Q (.int n) H):=by
 intro aj s ae H xs us Q aa r h
 obtain⟨x,n,rfl,bf,aH,q⟩:=h
 obtain⟨u,rfl,t,rfl⟩:=vals1 r
 exact PySem.W.KIN.call_text bf aH ⟨.int n,H,aa.tok _,⟨_,I⟩,q⟩
theorem SR:qh X (fun x lo aE H Q=>∃z,x=.str z/\z.length<=bW/\Q (.str (Txt.slice z lo aE)) H):=by
 intro aj s ae H x v mK mL lo aE dB Q aa bl hs pl pu h
 obtain⟨z,rfl,bw,q⟩:=h
 obtain⟨t,rfl⟩:=bl
 refine⟨"str",_,F.slot_str_getitem.lookup,typeIs_str s z t,?_⟩
 have aZ:∀(t':Tok)(k:Nat),hN X aj ae Q (.str (Txt.slice z lo aE) t') {s with toks:=k}:=fun t' k=>⟨.str _,H,aa.tok _,⟨_,rfl⟩,q⟩
 obtain⟨o,aD,hc,hd⟩:=hs
 cases pl with
 |none =>
  cases pu with
  |none=>exact A5 (l:=aw) (u:=aw) (st:=aw) ⟨o,aD,hc,hd⟩ I (post_val_or_str ⟨dp (Txt.slice_le z _ _) bw,aZ⟩)
  |int j FY=>exact A5 (l:=aw) (u:=J (j,FY)) (st:=aw) ⟨o,aD,hc,hd⟩ I (post_val_or_str ⟨dp (Txt.slice_le z _ _) bw,aZ⟩)
 |int i MF =>
  cases pu with
  |none=>exact A5 (l:=J (i,MF)) (u:=aw) (st:=aw) ⟨o,aD,hc,hd⟩ I (post_val_or_str ⟨dp (Txt.slice_le z _ _) bw,aZ⟩)
  |int j FY=>exact A5 (l:=J (i,MF)) (u:=J (j,FY)) (st:=aw) ⟨o,aD,hc,hd⟩ I (post_val_or_str ⟨dp (Txt.slice_le z _ _) bw,aZ⟩)
theorem Qa:gR X (.builtin "isinstance") (fun xs H Q=>∃x T t b,xs=[x,.ty T]/\iy X.K H x t/\fD X.K t (.type T)=J b/\Q (.aC b) H):=by
 intro aj s ae H xs us Q aa r h
 obtain⟨x,T,t,b,rfl,ty,e,q⟩:=h
 obtain⟨u,hA,rfl,b5,eL⟩:=vals2 r
 cases(show hA=al.type T from eL)
 exact HO aa b5 ty e fun c0=>⟨.aC b,H,aa.tok _,I,q⟩
theorem PM:gR X (.builtin "isinstance") (fun xs H Q=>∃x C t b,xs=[x,.ref C]/\iy X.K H x t/\fD X.K t (.ref C)=J b/\Q (.aC b) H):=by
 intro aj s ae H xs us Q aa r h
 obtain⟨x,C,t,b,rfl,ty,e,q⟩:=h
 obtain⟨u,hA,rfl,b5,eL⟩:=vals2 r
 cases(show hA=al.ref C from eL)
 exact HO aa b5 ty e fun c0=>⟨.aC b,H,aa.tok _,I,q⟩
end
noncomputable def Gz(lo c:Int)(n:Nat):jW:=⟨fun i _=>i<n,fun i H x ai=>ai=H/\x=.int (lo+i*c),fun i _=>n<=i⟩
theorem PO(it:ah)(lo c:Int)(n:Nat):Turn P w K ek (Gz lo c n) [it] it (fun i h=>IsRangeIter h it (lo+(i:Nat)*c) ((n:Int)-(i:Nat)) c) where
 mem:=by simp
 obj:=fun i h st b ao=>by
  have e:b=it:=by simpa using ao
  subst e
  exact⟨_,st,fun v z=>by
   have nM:Data.fields _=Data.cell v:=z
   cases nM⟩
 keep:=fun i h h' st k=>k it (by simp) _ st
 item:=by
  intro X c7 hw gN hc i aj s ae H E aa aQ st aN
  subst c7 hw gN
  obtain⟨f0,f1,f2,hh,f4,hv⟩:=aQ it (by simp)
  have W:=Walks.range (prog:=X.prog) (w:=X.w) (aa.ok.hd hc) it lo c n
  refine W.item i s _ _ aN st fun v h' c0 bS jc er=>?_
  obtain⟨t,rfl⟩:=bS
  have bc:Inv X aj ae H {s with heap:=h',toks:=c0}:=aa.turned (fun b o ao e=>er b o (by simpa using ao) e) f0 f1 hh f4 hv
  exact⟨_,I,wc (s:={s with heap:=h',toks:=c0}) (n:="range_iterator") jc I I (by decide) ⟨.int (lo+i*c),H,bc,⟨t,I⟩,⟨I,I⟩,jc,fun b ao=>(aQ b ao).1⟩⟩
 done:=by
  intro X c7 hw gN hc i aj s ae H E aa aQ st aN
  subst c7 hw gN
  obtain⟨f0,f1,f2,hh,f4,hv⟩:=aQ it (by simp)
  exact wpAny_pyNext_range_end (aa.ok.hd hc) st (by have:n<=i:=aN;omega) fun h' fi=>⟨I,aa.turned (t':=s.toks) (fun b o ao e=>fi b o ao e) f0 f1 hh f4 hv⟩
 self:=fun _ _ _ _ _ st h=>wpAny_pyIter_rangeiter st h
section
variable {X:bj} {ek:cq}
def WO(cE:hg):dW:=fun ae H R=>cE ae H fun vs H1=>∃i j:Int,vs=[.int i,.int j,.int (-1)]/\(-(2^61)<=i/\i<2^61/\-(2^61)<=j/\j<2^61)/\R (Gz i (-1) (i-j).toNat) H1
end
section
variable {X:bj} {ek:cq}
theorem Qi{a b:Int}(bz : -(2^61)<=a)(zR:a<2^61)(ao : -(2^61)<=b)(mq:b<2^61):dh.Range.small a b (-1)=au:=by
 unfold dh.Range.small dh.Range.rangeSize
 simp only[dh.Range.rangeFitsLong,jA,Bool.or_eq_true,mc,beq_iff_eq,show ¬((-1:Int) > 0) by decide,if_false,Int.neg_neg,Int.ediv_one]
 split<;>omega
theorem OR(a b:Int):dh.Range.rangeSize a b (-1)=(((a-b).toNat:Nat):Int):=by
 unfold dh.Range.rangeSize
 rw[if_neg (by decide)]
 simp only[Int.neg_neg,Int.ediv_one]
 split<;>omega
theorem QO{a b:cq}{p:Pos}(aN:iI X "range")(hm:X.mg "range"=aw)(bz:ib X [a,b,c] cE)
  (hs:dN [a,b,c] X.env=[(ay,eval a X.env),(ay,eval b X.env),(ay,eval c X.env)]:=by rfl) (c8:dN [b,c] X.env=[(ay,eval b X.env),(ay,eval c X.env)]:=by rfl) :
  iJ X ek (.Call (.Name "range" p) [a,b,c] [] aX) (WO cE):=by
 intro aj s ae H R aa h
 refine Call_ (pd aa aN hm boot_range (PyProof.Rows.callWith_type1 (cO (bz aX aj s ae H _ aa h) fun us s1 ⟨vs,H1,bc,b5,cA⟩=>?_) (by rw[hs,c8]) (by rw[c8];rfl)))
 obtain⟨i,j,e,⟨cA,cc,fx,Fu⟩,q⟩:=cA
 subst e
 cases b5 with
 | cons r mD =>
  cases mD with
  | cons dE mD =>
   cases mD with
   | cons Zw mD =>
    cases mD
    obtain⟨t,rfl⟩:=r
    obtain⟨t',rfl⟩:=dE
    obtain⟨ZZ,rfl⟩:=Zw
    refine call_range_3 (by decide) ?_ (.inl (PyProof.noPylong_small (by decide)))
    refine wpAny_pyIter_range (IsRange.new ..) (Qi cA cc fx Fu) ?_
    have bM:Inv X aj ae H1 {s1 with heap:=s1.heap.push {cls :=.type "range",data :=.fields #[.int i t,.int j t',.int (-1) ZZ]}}:=bc.kept (t':=s1.toks) fun b o e=>fF _ e
    refine⟨_,[_],_,_,H1,I,bM.kept (t':=s1.toks) fun b o e=>fF _ e,PO _ i (-1) (i-j).toNat,?_,fun b ao=>?_,q⟩
    ·have ba:i+((0:Nat):Int)*(-1)=i:=by simp
     have bg:(((i-j).toNat:Nat):Int)-((0:Nat):Int)=dh.Range.rangeSize i j (-1):=by rw[OR];simp
     show IsRangeIter _ _ (i+((0:Nat):Int)*(-1)) ((((i-j).toNat:Nat):Int)-((0:Nat):Int)) (-1)
     rw[ba,bg]
     exact gZ _ I
    ·have e:=hq.mp ao
     subst e
     exact bM.pq (cQ _) (bM.aU.fresh (cQ _))
end
noncomputable def tf(x:af):jW:=⟨fun i _=>i<x.cps.size,fun i H v ai=>ai=H/\∃c,x.cps[i]?=J c/\v=.str ⟨#[c]⟩,fun i _=>x.cps.size<=i⟩
section
variable {X:bj} {ek:cq}
theorem H3{ek:cq}(x:af)(it:ah)(n:String)(t:Tok)(W:∀sW:c1,sW.handled=aw->Walks P w sW it [it] [it] x.cps.size (SignAt x) (fun i h=>h.IsStrIter it n x t i))
  (bf:["enumerate","zip","dict_itemiterator","dict_reverseitemiterator","odict_iterator","itertools.zip_longest","itertools.pairwise"].contains n=ay)
  (Vx:∀(A:c1)(i:Nat)(s:aJ)(Q:Option al->aJ->Prop)(E:al->aJ->Prop),A.handled=aw->s.heap.IsStrIter it n x t i->x.cps.size<=i->(∀h',(∀b o,b≠it->s.heap.get? b=J o->h'.get? b=J o)->Q aw {s with heap:=h'})->bK (model P w) A (pyNext (.ref it)) Q E s)
  (Wj:∀(A:c1)(i:Nat)(s:aJ)(Q:al->aJ->Prop)(E:al->aJ->Prop),s.heap.IsStrIter it n x t i->Q (.ref it) s->bK (model P w) A (pyIter (.ref it)) Q E s) :
  Turn P w K ek (tf x) [it] it (fun i h=>h.IsStrIter it n x t i) where
 mem:=by simp
 obj:=fun i h st b ao=>by
  have e:b=it:=by simpa using ao
  subst e
  obtain⟨o,aD,hc,hd⟩:=st
  exact⟨o,aD,fun v z=>by rw[hd]at z;cases z⟩
 keep:=fun i h h' st k=>by
  obtain⟨o,aD,r⟩:=st
  exact⟨o,k it (by simp) o aD,r⟩
 item:=by
  intro X c7 hw gN hc i aj s ae H E aa aQ st aN
  subst c7 hw gN
  obtain⟨f0,f1,f2,hh,f4,hv⟩:=aQ it (by simp)
  refine(W X.A (aa.ok.hd hc)).item i s _ _ aN st fun v h' c0 bS jc er=>?_
  obtain⟨c,u,oo,rfl⟩:=bS
  have bc:Inv X aj ae H {s with heap:=h',toks:=c0}:=aa.turned (fun b o ao e=>er b o (by simpa using ao) e) f0 f1 hh f4 hv
  obtain⟨o,aD,pC,hd⟩:=id jc
  exact⟨_,I,wc (s:={s with heap:=h',toks:=c0}) (n:=n) aD pC hd bf ⟨.str ⟨#[c]⟩,H,bc,⟨u,I⟩,⟨I,c,oo,I⟩,jc,fun b ao=>(aQ b ao).1⟩⟩
 done:=by
  intro X c7 hw gN hc i aj s ae H E aa aQ st aN
  subst c7 hw gN
  obtain⟨f0,f1,f2,hh,f4,hv⟩:=aQ it (by simp)
  exact Vx X.A i s _ _ (aa.ok.hd hc) st aN fun h' fi=>⟨I,aa.turned (t':=s.toks) (fun b o ao e=>fi b o ao e) f0 f1 hh f4 hv⟩
 self:=fun A i s Q E st h=>Wj A i s Q E st h
def E2(fj:TE):dW:=fun ae H R=>fj ae H fun x H1=>∃y,x=.str y/\R (tf y) H1
theorem SW(aH:b6 X l fj):iJ X ek l (E2 fj):=by
 intro aj s ae H R aa h
 refine cO (aH aj s ae H _ aa h) fun v s1 bJ=>?_
 obtain⟨x,H1,bc,b5,cA⟩:=bJ
 obtain⟨y,e,q⟩:=cA
 subst e
 obtain⟨t,rfl⟩:=b5
 have aZ:∀(o:bo)(h5:Nat->bb->Prop),Turn X.prog X.w X.K ek (tf y) [s1.heap.objs.size] s1.heap.objs.size h5->h5 0 (s1.heap.push o)->BC X aj ae ek R (.ref s1.heap.objs.size) {s1 with heap:=s1.heap.push o}:=fun o h5 T bt=>by
  refine⟨s1.heap.objs.size,[s1.heap.objs.size],h5,tf y,H1,I,bc.kept (t':=s1.toks) fun b o e=>fF _ e,T,bt,fun b ao=>?_,q⟩
  have e:=hq.mp ao
  subst e
  exact bc.pq (cQ _) (bc.aU.fresh (cQ _))
 cases bz:y.cps.all (· < 128)
 ·refine wpAny_pyIter_wide bz (aZ _ _ (H3 y _ "str_iterator" t (fun sW kr=>Walks.strWide kr _ y t) (by decide) (fun A i s Q E dM st aE fV=>?_) fun A i s Q E st aT=>wpAny_pyIter_striter_wide st aT) ⟨_,gZ _ I,I,I⟩)
  exact wpAny_pyNext_wide_end dM st (by simpa using aE) fun h' rX=>fV h' fun b o ao e=>rX b o ao e
 ·refine wpAny_pyIter_ascii bz (aZ _ _ (H3 y _ "str_ascii_iterator" t (fun sW kr=>Walks.strAscii kr _ y t) (by decide) (fun A i s Q E dM st aE fV=>?_) fun A i s Q E st aT=>wpAny_pyIter_striter_ascii st aT) ⟨_,gZ _ I,I,I⟩)
  exact wpAny_pyNext_ascii_end dM st (by simpa using aE) fun h' rX=>fV h' fun b o ao e=>rX b o ao e
end
noncomputable def zm(sc:Scope)(cs:List af):Bool :=
 sc.kind ==.function&&sc.names.all (fun y=>y.2 !=.cell)&&sc.names.all (fun y=>y.2 !=.local||sc.names.lookup y.1 == J .local) &&
  sc.names.all (fun y=>y.2 !=.free||cs.contains y.1)&&cs.all (fun x=>sc.names.lookup x == J .free)
noncomputable def q0(X:bj):List (Nat×af)->Prop
 |[]=>True
 |(j,x)::r=>X.N[j]?=J x/\(X.env.kindOf x=J .cell\/X.env.kindOf x=J .free)/\q0 X r
theorem q0.at{X:bj}:∀{cs:List (Nat×af)},q0 X cs->∀p∈cs,X.N[p.1]?=J p.2/\(X.env.kindOf p.2=J .cell\/X.env.kindOf p.2=J .free)
 |[],_,_,h=>nomatch h
 |(j,x)::r,⟨aq,az,bE⟩,p,h=>by
  rcases dy.mp h with e|e
  .subst e;exact⟨aq,az⟩
  .exact q0.at bE p e
noncomputable def zo(X:bj)(cX:Scope)(cl:List (af×ah))(C:ah)(N:List af)(s2:aJ)(ax:ar)(bX:List ah):bj where
 prog:=X.prog
 w:=X.w
 K:=X.K
 mg:=X.mg
 base:=X.base
 A:=X.A
 N:=N
 dq:=s2
 iu:=ax
 env:=compEnvC cX cl C X.env
 outer:=X.stack
 stack:=X.stack
 ex:=bX
 calm:=X.calm
 fn:=fun _=>ay
 pn:=[]
 xe:=fun _ _=>False
theorem Cq{env:Env}:∀(names:List (af×je)),(∀y∈names,y.2=.free->∃c,env.cells.lookup y.1=J c)->
  ∀acc:List (af×ah),(∀x c,acc.lookup x=J c->env.cells.lookup x=J c)->∃cl,
  (forIn names acc fun(x:af×je)r=>do
   if x.2 ==.free then pure (ForInStep.yield ((x.1,<-cellOf env x.1)::r))else pure (ForInStep.yield r):Sem (List (af×ah)))=pure cl/\
  (∀x c,cl.lookup x=J c->env.cells.lookup x=J c)/\(∀y∈names,y.2=.free->∃c,cl.lookup y.1=J c)/\∀x c,acc.lookup x=J c->∃gw,cl.lookup x=J gw
 |[],_,acc,bz=>⟨acc,rfl,bz,(fun _ h=>nomatch h),fun _ c h=>⟨c,h⟩⟩
 | (n,k)::r,bf,acc,bz=>by
  by_cases hk:k=.free
  ·subst hk
   obtain⟨c,hc⟩:=bf _ gU rfl
   have zR:∀x gw,((n,c)::acc).lookup x=J gw->env.cells.lookup x=J gw:=fun x gw e=>by
    rw[List.lookup_cons]at e
    by_cases av:x=n
    ·subst av
     rw[beq_self_eq_true]at e
     cases e
     exact hc
    ·rw[beq_false_of_ne av]at e
     exact bz x gw e
   obtain⟨cl,e,aq,az,bE⟩:=Cq r (fun y bF=>bf y (eo _ bF)) ((n,c)::acc) zR
   refine⟨cl,?_,aq,fun y bF aQ=>?_,fun x gw av=>?_⟩
   ·rw[List.forIn_cons]
    simp only[cellOf,hc,beq_self_eq_true,if_true]
    exact e
   ·rcases dy.mp bF with cR|cR
    ·subst cR
     exact bE n c (by rw[List.lookup_cons,beq_self_eq_true])
    .exact az y cR aQ
   ·by_cases Ks:x=n
    ·subst Ks
     exact bE x c (by rw[List.lookup_cons,beq_self_eq_true])
    .exact bE x gw (by rw[List.lookup_cons,beq_false_of_ne Ks];exact av)
  ·obtain⟨cl,e,aq,az,bE⟩:=Cq r (fun y bF=>bf y (eo _ bF)) acc bz
   refine⟨cl,?_,aq,fun y bF aQ=>?_,bE⟩
   ·rw[List.forIn_cons]
    have ao:(k == je.free)=ay:=by simpa using hk
    simp only[ao,Bool.false_eq_true,if_false]
    exact e
   ·rcases dy.mp bF with cR|cR
    ·subst cR
     exact absurd aQ hk
    .exact az y cR aQ
def mP(dS:jW)(g:gG)(gb:gH)(cH:TE)(Q:bP)(fk:St)(H1:ar)(D:ah):Prop :=
 ∃ W:Nat->Nat->St->ar->Prop,(∃m,W 0 m fk (upd H1 D (.lst [])))/\∀i m bV ax,W i m bV ax->
  (dS.stop i ax/\Q (.ref D) ax)\/
  (dS.go i ax/\∀x bL,dS.p3 i ax x bL->g x bV bL fun bI hO=>gb bI hO fun b ew =>
   if b=au then cH bI ew fun y e1=>∃xs cv,e1 D=J (.lst xs)/\xs.length<bW/\cv<m/\W (i+1) cv bI (upd e1 D (.lst (xs++[y])))
   else ∃cv,cv<m/\W (i+1) cv bI ew)
def FQ(h7:dW)(g:gG)(gb:gH)(cH:TE)(fk:St->St):TE:=fun ae H Q=>h7 ae H fun dS H1=>∀D,H1 D=aw->mP dS g gb cH Q (fk ae) H1 D
def qU:gH:=fun _ H Q=>Q au H
def tH(X:bj)(ifs:List cq)(t:gH):Prop :=
 ∀(aj:List (ah×bo))(s:aJ)(ae:St)(H:ar)(Q:Bool->ar->Prop),Inv X aj ae H s->t ae H Q->
  bK (model X.prog X.w) X.A (forIn ifs au fun c r=>if r=au then do let ok <-isTrue c X.env (eval c X.env);pure (ForInStep.yield ok)else pure (ForInStep.yield r)) (yv X aj ae Q) X.xe s
theorem iA:tH X [] qU:=fun _ _ _ H _ aa h=>wpAny_tests_nil ⟨H,aa,h⟩
theorem za{t:gH}(h:jY X c t):tH X [c] t:=fun aj s ae H Q aa q=>wpAny_tests_one (h aj s ae H Q aa q)
section
variable {prog:cW} {w:cD} {A:c1} {E:al->aJ->Prop} {R:Result->aJ->Prop} {s:aJ}
theorem PK{elt iq:cq}{ifs:List cq}{it:al}(aa:Nat->aJ->Prop)
  (turn:∀n s,aa n s->bK (model prog w) A (pyNext it) (fun r dQ=>match r with
   |none=>R (.ok .next) dQ
   | some v=>bK (model prog w) A (letOwnedTupleGo iq it v) (fun _ Ml=>bK (model prog w) A (assign iq env v) (fun _ mG =>
     bK (model prog w) A (forIn ifs au fun c r=>if r=au then do let ok <-isTrue c env (eval c env);pure (ForInStep.yield ok)else pure (ForInStep.yield r)) (fun ok sJ =>
      if ok=au then bK (model prog w) A (eval elt env) (fun x Mm =>
       bK (model prog w) A (call (.builtin "list.append") [acc,x]) (fun _ Mn=>∃m,m<n/\aa m Mn) (notedBy (model prog w) A env fun e aR=>R (.error e) aR) Mm) (notedBy (model prog w) A env fun e aR=>R (.error e) aR) sJ
      else ∃m,m<n/\aa m sJ) (notedBy (model prog w) A env fun e aR=>R (.error e) aR) mG) (notedBy (model prog w) A env fun e aR=>R (.error e) aR) Ml) (notedBy (model prog w) A env fun e aR=>R (.error e) aR) dQ) (notedBy (model prog w) A env fun e aR=>R (.error e) aR) s)
  (n:Nat) (h:aa n s) :
  lu (model prog w) A (.compLoop (.ListComp elt [⟨iq,iter,ifs,0⟩] cX aX) 0 it acc env) R s:=by
 refine codeAny_loop I aa (fun n s fN=>?_) n h
 show bK _ A ((compTurn (.ListComp elt [⟨iq,iter,ifs,0⟩] cX aX) 0 it acc env).onRaise (fun x=>do noteFrame x env;theTreesLotGoes x)) _ _ s
 refine wpAny_noted ?_
 rw[compTurn_list]
 refine bQ (wpAny_standAt (bQ (jU (turn n s fN) (fun r dQ hI=>?_) fun _ _ h'=>h')))
 cases r with
 |none=>exact eF hI
 | some v =>
  refine bQ (jU hI (fun _ Ml WD=>?_) fun _ _ h'=>h')
  refine bQ (jU WD (fun _ mG WE=>bQ (jU WE (fun ok sJ Kx=>?_) fun _ _ h'=>h')) fun _ _ h'=>h')
  cases ok with
  |false=>exact eF ⟨I,Kx⟩
  |true =>
   exact bQ (bQ (jU Kx (fun x Mm WG=>bQ (jU WG (fun _ Mn WH=>eF (eF ⟨I,WH⟩)) fun _ _ h'=>h')) fun _ _ h'=>h'))
end
section
variable {X:bj} {elt iq iter:cq} {ifs:List cq} {cX:Scope} {aX p:Pos} {fJ:List (Nat×af)} {gE:List af} {h7:dW} {g:gG} {gb:gH} {cH:TE}
noncomputable def n9(gE:List af)(fJ:List (Nat×af)):St->St:=fun ae=>List.replicate gE.length aw++fJ.map fun p=>(ae[p.1]?).join
theorem Hd{env:Env}:∀{names:List (af×je)}{x:af},names.lookup x=J .free->
  ((names.map fun(n,k)=>if(k == je.free&&env.scope.kind ==.function&&env.kindOf n == J .cell)then(n,je.cell)else(n,k)).lookup x=J .cell\/
   (names.map fun(n,k)=>if(k == je.free&&env.scope.kind ==.function&&env.kindOf n == J .cell)then(n,je.cell)else(n,k)).lookup x=J .free)
 |[],_,h=>by cases h
 | (n,k)::r,x,h=>by
  rw[List.lookup_cons]at h
  rw[jB]
  by_cases av:x=n
  ·subst av
   rw[beq_self_eq_true]at h
   cases h
   dsimp only
   split
   .exact .inl (by rw[List.lookup_cons,beq_self_eq_true])
   .exact .inr (by rw[List.lookup_cons,beq_self_eq_true])
  ·rw[beq_false_of_ne av]at h
   have cp:=Hd (env:=env) h
   dsimp only
   split<;>(rw[List.lookup_cons,beq_false_of_ne av];exact cp)
theorem He{env:Env}:∀{names:List (af×je)}{x:af},((names.map fun(n,k)=>if(k == je.free&&env.scope.kind ==.function&&env.kindOf n == J .cell)then(n,je.cell)else(n,k)).lookup x=J .cell\/
   (names.map fun(n,k)=>if(k == je.free&&env.scope.kind ==.function&&env.kindOf n == J .cell)then(n,je.cell)else(n,k)).lookup x=J .free)->(∀y∈names,y.2≠.cell)->names.lookup x=J .free
 |[],_,h,_=>by rcases h with h|h<;>cases h
 | (n,k)::r,x,h,bf=>by
  rw[List.lookup_cons]
  by_cases av:x=n
  ·subst av
   rw[beq_self_eq_true]
   have hk:=bf _ gU
   rw[jB]at h
   dsimp only at h
   split at h
   ·rename_i c
    simp only[jA,beq_iff_eq]at c
    exact congrArg J c.1.1
   ·rw[List.lookup_cons,beq_self_eq_true]at h
    rcases h with h|h
    .cases h;exact absurd I hk
    .exact h
  ·rw[beq_false_of_ne av]
   refine He (env:=env) ?_ fun y bF=>bf y (eo _ bF)
   rw[jB]at h
   dsimp only at h
   split at h<;>(rw[List.lookup_cons,beq_false_of_ne av]at h;exact h)
theorem Bv:∀{names:List (af×je)}{x:af}{k:je},names.lookup x=J k->(x,k)∈names
 |[],_,_,h=>by cases h
 | (n,jo)::r,x,k,h=>by
  rw[List.lookup_cons]at h
  by_cases av:x=n
  ·subst av
   rw[beq_self_eq_true]at h
   cases h
   exact gU
  ·rw[beq_false_of_ne av]at h
   exact eo _ (Bv h)
set_option maxHeartbeats 1000000
noncomputable abbrev A9(α:Type):=List (af×ah)->ah->aJ->ar->List ah->α
end
noncomputable def ma(H:ar)(a:ah):dC->Prop
 |.ins _ aG _=>H aG=J (.own a)
 |.iO _ u=>ma H a u
 |_=>True
def kH(H:ar):Prop:=∀a o,H a=J o->ma H a o
theorem ma.of(x:gY P w H h a o):ma H a o:=by
 induction o with
 |ins C aG fs=>exact x.1
 |iO dD u cp=>exact cp x.2
 |_=>trivial
theorem fg.closed(x:fg P w H h):kH H:=fun a o e=>ma.of (x a o e)
theorem ma.mono(s:∀b u,H b=J u->ai b=J u)(x:ma H a o):ma ai a o:=by
 induction o with
 |ins C aG fs=>exact s _ _ x
 |iO dD u cp=>exact cp x
 |_=>trivial
theorem gY.sub(x:gY P w ai h a o)(uN:ma H a o):gY P w H h a o:=by
 induction o with
 |ins C aG fs=>exact⟨uN,x.2⟩
 |iO dD u cp=>exact⟨x.1,cp x.2 uN⟩
 |lst _=>exact x
 |tup _=>exact x
 |lH _=>exact x
 |ob _=>exact x
 |set _ _=>exact x
 |own _=>exact x
 |jS _=>exact x
 |met _ _=>exact x
 |xx _ _=>exact x
 |p0 _=>exact x
 |ext _=>exact x
structure Sub(H ir ai:ar):Prop where
 le:dJ ir ai
 ge:∀b o,H b=J o->∃u,ir b=J u
 cl:kH H->kH ir
theorem Sub.refl(h:dJ H ai):Sub H H ai:=⟨h,fun _ o e=>⟨o,e⟩,id⟩
theorem Sub.all(h:∀b o,H b=J o->∃u,ai b=J u)(c:kH H->kH ai):Sub H ai ai:=⟨dJ.refl _,h,c⟩
theorem c3(h:H p=aw):dJ H (upd H p o):=fun b u q=>by rw[cn (gv q h)];exact q
theorem yU(c:kH H)(h:H p=aw)(aD:ma (upd H p o) p o):kH (upd H p o):=fun a u e=>by
 by_cases z:a=p
 .subst z;rw[aP]at e;cases e;exact aD
 ·rw[cn z]at e
  exact(c a u e).mono (c3 h)
theorem Sub.new(h:H p=aw)(hs:dJ H ai)(e:ai p=J o)(aD:ma (upd H p o) p o):Sub H (upd H p o) ai :=
 ⟨fun b u q=>by
  by_cases z:b=p
  .subst z;rw[aP]at q;cases q;exact e
  .rw[cn z]at q;exact hs b u q,fun b u q=>⟨u,c3 h b u q⟩,fun c=>yU c h aD⟩
section
variable {X:bj} {aj:List (ah×bo)} {ae:St} {H ai ir:ar} {s s0:aJ}
theorem fy.sub{fs ex:List ah}{Br:ar}{aq az:bb}(xN:fy fs ex Br H h aq)(u:fy fs ex Br ai h az)(d:Sub H ir ai):fy fs ex Br ir h az:=by
 refine⟨u.keep,u.slot,fun b o e n av=>?_,u.there,fun b xs e=>?_,fun b o v e=>?_,fun b aI e=>?_⟩
 ·cases q:ir b with
  |none=>rfl
  |some v=>have:=d.le b v q;rw[u.free b o e n av]at this;cases this
 ·obtain⟨v,bS⟩:=d.ge b _ (xN.lq b xs e)
  have:=d.le b v bS;rw[u.lq b xs e]at this;cases this;exact bS
 ·obtain⟨z,bS⟩:=d.ge b _ (xN.kq b o v e)
  have:=d.le b z bS;rw[u.kq b o v e]at this;cases this;exact bS
 ·obtain⟨m0,eI⟩:=xN.lp b aI e
  obtain⟨z,bS⟩:=d.ge b _ eI
  obtain⟨m,ba⟩:=u.lp b aI e
  have:=d.le b z bS;rw[ba]at this;cases this;exact⟨m,bS⟩
theorem fg.sub(x:fg P w ai h)(c:kH ir)(d:dJ ir ai):fg P w ir h:=fun a o e=>(x a o (d a o e)).sub (c a o e)
end
inductive gf(H ai:ar)(Q:ar->Prop):Prop where
 |mk (ir:ar) (s:Sub H ir ai) (q:Q ir):gf H ai Q
theorem di.keep{sp:cT}(F:di P w K mg base eb k f fd aI sp)
  (h:∀vs H Q E,xF vs H Q E->sp vs H (fun v ai=>gf H ai (Q v)) E):di P w K mg base eb k f fd aI xF:=by
 refine⟨fun vs H Q E q=>F.len vs H _ E (h vs H Q E q),fun A outer s H args us vs Q E aF eI ao r q=>oQ (F.run A outer s H args us vs _ E aF eI ao r (h vs H Q E q)) fun rs aR c=>?_⟩
 cases rs with
 |error e=>exact c
 | ok fT =>
  cases fT with
  |ret u =>
   obtain⟨v,ai,os,bare,un,aU,dG,ir,d,fw⟩:=c
   exact⟨v,ir,os,bare,fy.sub (fy.refl (h:=s.heap)) un d,aU.sub (d.cl eI.aU.closed) d.le,dG,fw⟩
  |next=>exact c
  |brk=>exact c
  |cont=>exact c
theorem dV.K6{st:bG}{sp:cT}(F:dV K x dH st f fd)(S:cP N aI (b4 st))(len:∀vs H Q E,sp vs H Q E->vs.length=aI.length)
  (kt:∀(bD:al)(A:c1)(outer:List Env)(s:aJ)(H:ar)(vs:List V)(Q:bP)(E:cC),fY k (A.deeper (envOfC dH (b4 st) s.heap.objs.size f bD))->sp vs H Q E->
   ∃t,hD (kQ eb P w K mg base N dH (b4 st) f bD A outer s H E).pO (jF st) t/\t {nx:=fun _ ai=>gf H ai (Q .aK),rt:=fun v ai=>gf H ai (Q v)} (start N vs) H):di P w K mg base eb (k+1) f fd aI sp :=
 (F.ok (sp:=fun vs H Q E=>∃jj,Q=(fun v ai=>gf H ai (jj v))/\sp vs H jj E) S (fun vs H Q E ⟨jj,_,h⟩=>len vs H jj E h) (fun bD A outer s H vs Q E aF ⟨jj,e,h⟩=>by
  subst e
  exact kt bD A outer s H vs jj E aF h)).keep fun vs H Q E h=>⟨Q,rfl,h⟩
end cM
end
section
namespace fQ
noncomputable def gu(n:Nat):Nat->List Bool
 |0=>[]
 |w+1=>n.testBit w::gu n w
noncomputable def bp(n:Nat):Nat:=if n=0 then 0 else n.log2+1
theorem kK(n w:Nat):(gu n w).length=w:=by
 induction w with
 |zero=>rfl
 |succ w cp=>simp[gu,cp]
theorem rC(n:Nat):n<2^bp n:=by
 unfold bp
 split
 .omega
 .exact Nat.lt_log2_self
theorem jm{w:Nat}(h:n<2^w):bp n<=w:=by
 unfold bp
 split
 .omega
 ·rename_i bt
  exact(Nat.log2_lt bt).mpr h
theorem rn(h:n≠0):0<bp n:=by unfold bp;rw[if_neg h];omega
theorem IW(h:n≠0):2^(bp n-1)<=n:=by
 unfold bp;rw[if_neg h];exact Nat.log2_self_le h
theorem HW{m:Nat}(h:m<=n):bp m<=bp n:=jm (Nat.lt_of_le_of_lt h (rC n))
noncomputable def ZL(a:Nat)(l:List Bool):Nat:=l.foldl (fun x b=>2*x+b.toNat) a
theorem abO(a:Nat):ZL a []=a:=rfl
noncomputable def ko(e:Nat):List Bool:=if e=8 then []else [ay]
noncomputable def cnt(n:Nat):List Bool :=
 List.replicate (bp (bp (n+1))-1) au++(ko (bp (bp (n+1)))++(gu (bp (n+1)) (bp (bp (n+1))-1)++gu (n+1) (bp (n+1)-1)))
theorem Hz(h:n+1<2^255):(cnt n).length<=bp (n+1)+14:=by
 unfold cnt
 have hd:bp (n+1)<=255:=jm h
 have he:bp (bp (n+1))<=8:=jm (by omega)
 have aT:0<bp (n+1):=rn (by omega)
 simp only[eU,List.length_replicate,kK]
 have:(ko (bp (bp (n+1)))).length<=if bp (bp (n+1))=8 then 0 else 1:=by
  unfold ko;split<;>simp
 split at this<;>omega
noncomputable def jR(n:Int):List Bool:=if n<0 then ay::(cnt (-1-n).toNat).map (!·)else au::cnt n.toNat
end fQ
end
section
namespace fQ
open PySem cM
noncomputable def kO(b:Bool):Nat:=if b then 49 else 48
noncomputable def bR(l:List Bool):af:=⟨(l.map kO).toArray⟩
theorem CO{a b:af}(h:a.cps.toList=b.cps.toList):a=b:=by
 obtain⟨x⟩:=a;obtain⟨y⟩:=b
 exact congrArg af.mk (Array.ext' h)
theorem qf(l:List Bool):(bR l).cps.toList=l.map kO:=by simp[bR]
theorem fI(l:List Bool):(bR l).length=l.length:=by simp[bR,af.length]
theorem Tj{a b:Bool}(h:kO a=kO b):a=b:=by cases a<;>cases b<;>first|rfl|(revert h;decide)
theorem Rn{a b:List Bool}(h:bR a=bR b):a=b:=by
 have:=congrArg (fun x:af=>x.cps.toList) h
 simp only[qf]at this
 exact List.map_inj_right (fun _ _=>Tj) |>.mp this
theorem kL(a b:List Bool):bR a++bR b=bR (a++b):=by
 apply CO
 show((bR a).cps++(bR b).cps).toList=_
 rw[Array.toList_append,qf,qf,qf,ie]
theorem s1:(af.ofString "1")=bR [au]:=by decide+kernel
theorem s0:(af.ofString "0")=bR [ay]:=by decide+kernel
theorem ZQ:(af.ofString "")=bR []:=by decide+kernel
theorem Ro(a b:List Bool):decide (V.str (bR a)=V.str (bR b))=decide (a=b):=by
 by_cases h:a=b
 .subst h;simp
 ·have:¬V.str (bR a)=V.str (bR b):=fun q=>h (Rn (V.str.inj q))
  rw[fo h,fo this]
theorem PI:∀aM:List af,(Txt.join (af.ofString "") aM).cps.toList=(aM.map (·.cps.toList)).flatten:=by
 have e:(af.ofString "").cps=#[]:=by decide+kernel
 have key:∀(aM:List af)(acc:Array Nat),(aM.foldl (fun acc p=>acc++(af.ofString "").cps++p.cps) acc).toList=acc.toList++(aM.map (·.cps.toList)).flatten:=by
  intro aM
  induction aM with
  |nil=>intro acc;simp
  |cons y r cp=>intro acc;rw[List.foldl_cons,cp,e];simp
 intro aM
 cases aM with
 |nil=>rfl
 |cons y r =>
  show((r.foldl (fun acc p=>acc++(af.ofString "").cps++p.cps) y.cps)).toList=_
  rw[key];simp
theorem rf(ls:List (List Bool)):Txt.join (af.ofString "") (ls.map bR)=bR ls.flatten:=by
 apply CO
 rw[PI,qf,i2,List.map_flatten]
 exact congrArg List.flatten (o5 fun l _=>qf l)
theorem Q4(l:List Bool):(l.map fun b=>[b]).flatten=l:=by
 induction l with
 |nil=>rfl
 |cons b r cp=>rw[jB,o4,cp];rfl
theorem HN(l:List Bool):Txt.join (af.ofString "") (l.map fun b=>bR [b])=bR l:=by
 have:=rf (l.map fun b=>[b])
 rw[i2]at this
 rw[show(fun b=>bR [b])=bR ∘ (fun b=>[b])from rfl,this]
 exact congrArg bR (Q4 l)
theorem zd(b:Bool)(n:Int):Txt.mul (bR [b]) n=bR (List.replicate n.toNat b):=by
 unfold Txt.mul
 by_cases h:n<1
 .rw[if_pos h,show n.toNat=0 by omega];rfl
 ·rw[if_neg h]
  by_cases aq:n=1
  .subst aq;rfl
  ·have:(n == 1||(bR [b]).length == 0)=ay:=by simp[fI,aq]
   rw[this,if_neg (by decide)]
   apply CO
   have key:∀(k:Nat)(acc:Array Nat),((List.replicate k (bR [b]).cps).foldl (· ++ ·) acc).toList=acc.toList++(List.replicate k b).map kO:=by
    intro k
    induction k with
    |zero=>intro acc;simp
    |succ k cp=>intro acc;rw[List.replicate_succ,List.foldl_cons,cp,List.replicate_succ];simp[bR]
   rw[qf]
   simpa using key n.toNat #[]
theorem ZT(lo aE:Option Int)(n:Nat):dh.Str.strSliceIndices lo aE 1 n=(List.range (eR.gs n n aE-eR.gs n 0 lo)).map (eR.gs n 0 lo+·):=by
 unfold dh.Str.strSliceIndices
 rw[<-sliceRange_one]
 simp only[show((1:Int) > 0)=True from eq_true (by decide),if_true]
 congr 1
 ·cases lo with
  |none=>rfl
  |some i =>
   simp only[eR.gs]
   by_cases h:i<0
   .simp only[h,if_true];omega
   .simp only[h,if_false];omega
 ·cases aE with
  |none=>rfl
  |some i =>
   simp only[eR.gs]
   by_cases h:i<0
   .simp only[h,if_true];omega
   .simp only[h,if_false];omega
theorem tI(x:af)(lo aE:Option Int):(Txt.slice x lo aE).cps.toList=(x.cps.toList.drop (eR.gs x.length 0 lo)).take (eR.gs x.length x.length aE-eR.gs x.length 0 lo):=by
 have aH:x.cps.toList.length=x.length:=by simp[af.length]
 have aq:=eR.Lj x.length x.length (cQ _) aE
 have az:=eR.Lj x.length 0 (UF _) lo
 unfold Txt.slice
 rw[ZT]
 split
 ·rename_i c
  simp only[cI,kl,jA,beq_iff_eq]at c
  have a0:eR.gs x.length 0 lo=0\/x.length=0:=by omega
  rcases a0 with a0|a0
  .rw[a0,List.drop_zero,UV (by omega)]
  ·have:x.cps.toList=[]:=List.length_eq_zero_iff.mp (by omega)
   rw[this];simp
 .rw[pick_run]
theorem t2(n:Nat):dh.Int.intBits ((n:Nat):Int)=bp n:=by
 unfold dh.Int.intBits bp
 by_cases h:n=0
 .subst h;rfl
 ·have:(((n:Nat):Int) == 0)=ay:=by simpa using h
  rw[this,if_neg (by decide),if_neg h]
  simp
theorem Rm{l:List Bool}{c:Nat}(h:(bR l).cps[i]?=J c):V.str ⟨#[c]⟩=V.str (bR [l.getD i ay]):=by
 have h':(bR l).cps.toList[i]?=J c:=by simpa using h
 rw[qf,gm]at h'
 rw[eM]
 cases e:l[i]? with
 |none=>rw[e]at h';cases h'
 |some b =>
  rw[e]at h'
  have:kO b=c:=gk h'
  rw[<-this];rfl
end fQ
end
section
namespace cM
open PySem PySem.Spec PyProof.Rows
section
variable {X:bj}
noncomputable def eE:=dO.or (S4 (X:=X)) Qp
theorem gB:dO X (jT .Sub) (lY fun i j =>.int (i-j)):=SZ
noncomputable def lg:=dO.or (S2 (X:=X)) Qo
noncomputable def oE:=dO.or (To (X:=X)) QR
noncomputable def cb:=mW.or (mW.or (Sw (X:=X)) S9) Ta
noncomputable def sH:=qh.or (R7 (X:=X)) SR
theorem iJ.or{it:cq}{h7 ML:dW}(h:iJ X ek it h7)(h':iJ X ek it ML):iJ X ek it (fun ae H R=>h7 ae H R\/ML ae H R):=fun aj s ae H R aa q=>q.elim (h aj s ae H R aa) (h' aj s ae H R aa)
theorem ja(aH:b6 X l fj):iJ X ek l (fun ae H R=>E1 X.K fj ae H R\/E2 fj ae H R):=(Sb aH).or (SW aH)
end
def ed(K:bH)(mg:af->Option al)(x:af)(st:bG)(aI:List af)(f:ah)(fd:hB):Prop:=dV K x x st f fd/\Binds K fd aI []/\mg x=J (.ref f)
def bx(P:cW)(w:cD)(K:bH)(mg:af->Option al)(base:bb)(k:Nat)(x:af)(aI:List af)(sp:cT):Prop :=
 ∃f fd,di P w K mg base eb k f fd aI sp/\Binds K fd aI []/\oO K (.ref f)=au/\mg x=J (.ref f)
def tC(P:cW)(w:cD)(K:bH)(mg:af->Option al)(base:bb)(k:Nat)(C:ah)(m:af)(aI:List af)(sp:cT):Prop :=
 ∃f fd,di P w K mg base eb k f fd aI sp/\Binds K fd aI []/\tB K C m f
def jX(P:cW)(w:cD)(K:bH)(mg:af->Option al)(base:bb)(k:Nat)(x:af)(C:ah)(aI:List af)(sp:cT):Prop :=
 ∃f fd,Bz K C f/\di P w K mg base eb k f fd aI sp/\Binds K fd aI []/\mg x=J (.ref C)
def eT(mg:af->Option al)(x:af)(v:V):Prop:=∃u,mg x=J u/\RelV v u
section
variable {X:bj} {k jo:Nat} {x m:af} {C:ah} {aI:List af} {sp:cT} {e o:cq} {aV:List cq} {t:hg} {cE:TE} {p aX apos:Pos} {v:V}
theorem i4(h:eT X.mg x v)(aN:iI X x:=by rfl)(hd:(x == ("__debug__":af))=ay:=by decide+kernel):b6 X (.Name x p) (iH v):=by
 obtain⟨u,aq,az⟩:=h
 exact Sg aN aq az hd
theorem cu(h:bx X.prog X.w X.K X.mg X.base k x aI sp)(aF:fY jo X.A)(bz:ib X (e::aV) t)(hk:k<=jo:=by decide)(aN:iI X x:=by rfl)(jK:(x == ("__debug__":af))=ay:=by decide+kernel)
  (he:dN (e::aV) X.env=(ay,eval e X.env)::dN aV X.env:=by rfl) (hx:(backTo aX (dN aV X.env)).any (·.1)=ay:=by rfl):b6 X (.Call (.Name x p) (e::aV) [] aX) (FP sp [] h9 t):=by
 obtain⟨f,fd,F,ao,ik,hm⟩:=h
 exact Sh F (aF.mono hk) aN hm ik ao .nil An bz jK he hx
theorem Ru(h:tC X.prog X.w X.K X.mg X.base k C m aI sp)(c:h8 X.K C)(aF:fY jo X.A)(he:b6 X o cE)(bz:ib X (e::aV) t)(hk:k<=jo:=by decide)
  (nv:dN (e::aV) X.env=(ay,eval e X.env)::dN aV X.env:=by rfl) (hx:(backTo aX (dN aV X.env)).any (·.1)=ay:=by rfl)
  (aO:eval (.Call (.Attribute o m apos) (e::aV) [] aX) X.env=(do
   let hK <-eval o X.env
   standAt apos.atName
   let (f,first) <-holding [hK] (getMethod hK m pl)
   callWith aX f first (backTo aX (dN (e::aV) X.env)) (backToKw aX (xW [] X.env))):=by rfl) :
  b6 X (.Call (.Attribute o m apos) (e::aV) [] aX) (Ms C m sp [] h9 cE t):=by
 obtain⟨f,fd,F,ao,hm⟩:=h
 exact Se he c hm F (aF.mono hk) ao .nil An bz nv hx aO
theorem rj(h:jX X.prog X.w X.K X.mg X.base k x C aI sp)(aF:fY jo X.A)(bz:ib X (e::aV) t)(hk:k+1<=jo:=by decide)(aN:iI X x:=by rfl)(jK:(x == ("__debug__":af))=ay:=by decide+kernel)
  (he:dN (e::aV) X.env=(ay,eval e X.env)::dN aV X.env:=by rfl) (hx:(backTo aX (dN aV X.env)).any (·.1)=ay:=by rfl):b6 X (.Call (.Name x p) (e::aV) [] aX) (Mr C sp [] h9 t):=by
 obtain⟨f,fd,M,F,ao,hm⟩:=h
 exact Sf M F (aF.mono hk) aN hm ao .nil An bz jK he hx
end
theorem ed.ok{st:bG}{sp:cT}(F:ed K mg x st aI f fd)(S:cP N aI (b4 st))(len:∀vs H Q E,sp vs H Q E->vs.length=aI.length)
  (kt:∀(bD:al)(A:c1)(outer:List Env)(s:aJ)(H:ar)(vs:List V)(Q:bP)(E:cC),fY k (A.deeper (envOfC x (b4 st) s.heap.objs.size f bD))->sp vs H Q E->
   ∃t,hD (kQ eb P w K mg base N x (b4 st) f bD A outer s H E).pO (jF st) t/\t {nx:=fun _ ai=>gf H ai (Q .aK),rt:=fun v ai=>gf H ai (Q v)} (start N vs) H):bx P w K mg base (k+1) x aI sp :=
 ⟨f,fd,F.1.K6 S len kt,F.2.1,F.1.ik,F.2.2⟩
section
variable {X:bj} {e:cq} {aX:Pos}
theorem cN:dO X (hC .Eq) pS:=Ts
theorem nB:dO X (hC .NotEq) Lf:=Tn
theorem sq:dO X (hC .LtE) (lY fun i j =>.aC (decide (i<=j))):=Tp
theorem il:dO X (hC .Gt) (lY fun i j =>.aC (decide (j<i))):=Tq
theorem Fp:dO X (hC .GtE) (lY fun i j =>.aC (decide (j<=i))):=Tr
theorem gR.or'{f:al}{r:List V->ar->bP->Prop}(h:gR X f r)(h':gR X f dE):gR X f (fun xs H Q=>r xs H Q\/dE xs H Q):=fun aj s ae H xs us Q aa dG q=>q.elim (h aj s ae H xs us Q aa dG) (h' aj s ae H xs us Q aa dG)
noncomputable def yZ:=gR.or' (Rb (X:=X)) Pf
noncomputable def fH:=gR.or' (Qa (X:=X)) PM
theorem CQ{cE:TE}(bz:b6 X e cE):b6 X (.UnaryOp .Not e aX) (fun ae H Q=>cE ae H fun x ai=>∃k,vM X.K x ai k/\Q (.aC (!k)) ai):=by
 intro aj s ae H Q aa h
 refine UnaryOp_ (cO (bz aj s ae H _ aa h) fun v s1 bJ=>?_)
 obtain⟨x,H1,bc,b5,k,u7,cA⟩:=bJ
 exact not_of (cO (I3 aj s1 ae H1 x v (fun b ai=>b=k/\Q (.aC (!k)) ai) bc b5 ⟨k,u7,I,cA⟩) fun b s2 ⟨ax,bM,e,cc⟩=>by subst e;exact⟨.aC (!b),ax,bM,I,cc⟩)
end
end cM
namespace cM
open PySem
theorem n4:jf "int"=J (.type "int"):=by decide+kernel
theorem qp:jf "str"=J (.type "str"):=by decide+kernel
theorem o2:jf "bool"=J (.type "bool"):=by decide+kernel
theorem m5:jf "tuple"=J (.type "tuple"):=by decide+kernel
theorem rB:jf "list"=J (.type "list"):=by decide+kernel
theorem d4:jf "len"=J (.builtin "len"):=by decide+kernel
theorem eA:jf "isinstance"=J (.builtin "isinstance"):=by decide+kernel
theorem C6:jf "min"=J (.builtin "min"):=by decide+kernel
theorem Th:jf "max"=J (.builtin "max"):=by decide+kernel
theorem Ti:jf "abs"=J (.builtin "abs"):=by decide+kernel
theorem wb:jf "all"=J (.builtin "all"):=by decide+kernel
end cM
end
variable {g:cM.gG} {dS:cM.jW} {cH:cM.TE} {fk:cM.St}
section
namespace cM
open PySem PySem.Spec PyProof.Rows fQ
theorem kn{u:dC}:upd (upd H a o) a u=upd H a u:=by
 funext b
 unfold upd
 split<;>rfl
theorem CJ{Q:bP}{D:ah}(n:Nat)(xs i5:Nat->V)(S:St->Prop)(bf:n<=bW)(bt:S fk)
  (wW:∀i H,i<n->dS.go i H) (EP:∀H,dS.stop n H) (bF:∀i H x ai,i<n->dS.p3 i H x ai->ai=H/\x=xs i)
  (aO:∀i bV H1,i<n->S bV->∀R:St->V->ar->Prop,(∀bI,S bI->R bI (i5 i) H1)->g (xs i) bV H1 fun bI ax=>cH bI ax fun y bL=>R bI y bL)
  (aT:Q (.ref D) (upd H D (.lst ((List.range n).map i5)))) :
  mP dS g qU cH Q fk H D:=by
 refine⟨fun i m bV ax=>i<=n/\m=n-i/\S bV/\ax=upd H D (.lst ((List.range i).map i5)),⟨n,UF _,I,bt,I⟩,?_⟩
 rintro i m bV ax ⟨aq,rfl,az,rfl⟩
 rcases jC i n with z|z
 ·refine .inr ⟨wW i _ z,fun x bL y=>?_⟩
  obtain⟨rfl,rfl⟩:=bF i _ x bL z y
  refine aO i bV _ z az (fun bI y e1=>∃xs cv,e1 D=J (.lst xs)/\xs.length<bW/\cv<n-i/\(i+1<=n/\cv=n-(i+1)/\S bI/\upd e1 D (.lst (xs++[y]))=upd H D (.lst ((List.range (i+1)).map i5)))) fun bI fx=>?_
  refine⟨_,n-(i+1),aP,?_,by omega,by omega,rfl,fx,?_⟩
  .rw[cI,kl];omega
  .rw[kn,List.range_succ,ie];rfl
 ·have e:i=n:=by omega
  subst e
  exact .inl ⟨EP _,aT⟩
end cM
namespace cM
open PySem
theorem QC(h:H a=J o):upd H a o=H:=by
 funext b
 unfold upd
 split
 .rename_i e;rw[e,h]
 .rfl
end cM
namespace fQ
theorem vU(l:List Bool):l.map (xor ay)=l:=by
 rw[show(xor ay)=(id:Bool->Bool)from funext fun b=>by cases b<;>rfl,List.map_id]
end fQ
namespace cM
open PySem
theorem Ii(K:bH)(t:al):fD K t t=J au:=by
 unfold fD;rw[beq_self_eq_true,if_pos rfl]
end cM
namespace fQ
theorem Ht{n:Int}(aq : -(2^255)<n)(az:n<2^255-1):(jR n).length<=270:=by
 have c:∀m:Nat,m+1<2^255->(cnt m).length<=269:=fun m h=>by
  have:=Hz h
  have:=jm h
  omega
 unfold jR
 split
 .rw[ep,cI];have:=c (-1-n).toNat (by omega);omega
 .rw[ep];have:=c n.toNat (by omega);omega
end fQ
end
variable {h':bb}
section
namespace cM
open PySem PySem.Spec PyProof.Rows
def vB(e:ah)(o:Option ah)(c:Option al)(d:Option ah):Prop:=(o=d/\(d=aw\/c=J .none))\/(d=J e/\o=aw/\c=J .none)
def kI(h:bb)(e:ah)(cls:al)(d:Option ah)(T:ah)(fT:al):Prop :=
 ∃eQ vs jt iT,h.get? e=J eQ/\eQ.cls=cls/\vB e eQ.dict vs[2]? d/\eQ.data=.fields vs/\vs[1]?=J (.ref T)/\T≠e/\h.get? T=J jt/\jt.data=.fields iT/\iT[3]?=J fT/\True
structure vL(fs:List ah)(e:ah)(T:Option ah)(h h':bb):Prop where
 keep:∀b o,b≠e->J b≠T->b∉fs->h.get? b=J o->h'.get? b=J o
 slot:∀b o,b≠e->J b≠T->h.get? b=J o->∃dB,h'.get? b=J {o with slots:=dB}
section
variable {M:Model} {A:c1} {E:al->aJ->Prop} {s:aJ} {base:bb} {env:Env} {outer:List Env} {L e T:ah} {eQ:bo} {vs:Array al} {head:al} {Vk:Bool} {Q:Unit->aJ->Prop} {cls:al} {d:Option ah} {fT:al}
theorem OX(o:bo)(f):(o.mapFields f).dict=o.dict:=by
 obtain⟨c,d,TV,dB⟩:=o;cases TV<;>rfl
theorem Dv(pE:A.frames=J (env::outer))(aH:s.heap.FunFrames base (env::outer))(aQ:env.frame=J L)(he:s.heap.get? e=J eQ)(hd:eQ.data=.fields vs)(iG:1<vs.size)(kZ:vB e eQ.dict vs[2]? d)
  (h:∀h' dK,kI h' e eQ.cls d dK (rawInt L)->s.heap.get? dK=aw->h'.FunFrames base (env::outer)->vL ((env::outer).filterMap (·.frame)) e aw s.heap h'->Q () {s with heap:=h'}) :
  bK M A (do let a <-frameOf env;let pl <-entryPlaceOf L Vk;let b <-EntryCells.newEntry head a .none (rawInt L) .none pl;setField (.ref e) 1 b) Q E s:=by
 have VD:e∉(env::outer).filterMap (·.frame):=fun hm=>by
  obtain⟨_,o,aD,i8⟩:=aH.mem hm
  rw[he]at aD;injection aD with aD;subst aD;exact i8 vs hd
 refine bQ (wpAny_frameOf_fun pE aH aQ fun hI w7=>?_)
 refine bQ (wpAny_entryPlaceOf fun pl hx=>?_)
 unfold EntryCells.newEntry newFields
 refine bQ (wpAny_newObj_type ?_ (hx.sizeOk5 _ _ _ _ _))
 have JZ:hI.get? e=J eQ:=(w7.2.1 e VD).trans he
 generalize Kg:({cls :=.type "traceback",dict:=aw,data :=.fields ([head,.ref L,.none,rawInt L,.none]++(if pl.isEmpty then List.replicate 6 al.none else pl)).toArray}:bo)=jt
 have J0:=fF (h:=hI) jt JZ
 refine sV J0 hd iG ?_
 have kW:hI.objs.size≠e:=Nat.ne_of_gt (en JZ)
 have JT:=bo.data_mapFields hd (·.setIfInBounds 1 (al.ref hI.objs.size))
 have VC:=bb.get?_update_self (bo.mapFields (·.setIfInBounds 1 (al.ref hI.objs.size))) J0 (bo.isFreed_of_fields JT)
 have D9:((hI.push jt).update e (bo.mapFields (·.setIfInBounds 1 (al.ref hI.objs.size)))).get? hI.objs.size=J jt :=
  (bb.get?_update_other _ _ (e3 kW)).trans (gZ hI (by rw[<-Kg];rfl))
 have keep:∀b o,b≠e->hI.get? b=J o->((hI.push jt).update e (bo.mapFields (·.setIfInBounds 1 (al.ref hI.objs.size)))).get? b=J o:=fun b o lM ao=>by
  rw[bb.get?_update_other _ _ (e3 lM)];exact fF _ ao
 have sk:∀b o,s.heap.get? b=J o->(∀vs,o.data≠.fields vs)->b≠e:=fun b o ao i8 q=>by
  rw[q,he]at ao;injection ao with ao;subst ao;exact i8 vs hd
 refine h _ hI.objs.size ⟨_,_,jt,_,VC,bo.cls_mapFields _ _,(by rw[OX,Array.getElem?_setIfInBounds_ne (by decide)];exact kZ),JT,by simp[iG],kW,D9,by rw[<-Kg],?_,trivial⟩ ?_ (aH.of_keeps fun b o ao i8=>?_) ⟨fun b o lM _ rV ao=>keep b o lM ((w7.2.1 b rV).trans ao),fun b o lM _ ao=>?_⟩
 .first|(simp;done)|(rcases hx with rfl|⟨_,_,_,_,_,_,_,rfl⟩<;>simp)
 .exact bb.get?_none_of_le (by rw[w7.1];exact cQ _)
 ·obtain⟨dB,hs⟩:=w7.2.2 b o ao
  exact⟨_,keep b _ (sk b o ao i8) hs,I⟩
 ·obtain⟨dB,hs⟩:=w7.2.2 b o ao
  exact⟨dB,keep b _ lM hs⟩
theorem z7(aH:s.heap.FunFrames base outer)(aO:kI s.heap e cls d T fT)
  (h:∀h',kI h' e cls d T .none->h'.FunFrames base outer->(∀b o,b≠T->s.heap.get? b=J o->h'.get? b=J o)->Q () {s with heap:=h'}):bK M A (setFlight (.ref e) aw) Q E s:=by
 obtain⟨eQ,vs,jt,iT,he,hc,lP,hd,aq,kW,cF,hF,bE,kZ⟩:=aO
 have w6:3<iT.size:=(Array.getElem?_eq_some_iff.mp bE).1
 unfold setFlight
 refine bQ (iW he hd aq ?_)
 rw[if_pos (show(al.ref T != al.none)=au from by simp)]
 have other:∀b,b≠T->(s.heap.update T (bo.mapFields (·.setIfInBounds 3 ((aw:Option ah).elim al.none fun f=>rawInt f)))).get? b=s.heap.get? b:=fun b ao=>bb.get?_update_other _ _ (e3 ao)
 have sk:∀b o,s.heap.get? b=J o->(∀vs,o.data≠.fields vs)->b≠T:=fun b o ao i8 q=>by
  rw[q,cF]at ao;injection ao with ao;subst ao;exact i8 iT hF
 refine sV cF hF w6 (h _ ⟨eQ,vs,_,_,(other e (e3 kW)).trans he,hc,lP,hd,aq,kW,bb.get?_update_self _ cF (bo.isFreed_of_fields (bo.data_mapFields hF _)),bo.data_mapFields hF _,by simp[w6],kZ⟩
  (aH.of_keeps fun b o ao i8=>⟨o,(other b (sk b o ao i8)).trans ao,rfl⟩) fun b o ao q=>(other b ao).trans q)
theorem K1(pE:A.frames=J (env::outer))(aH:s.heap.FunFrames base (env::outer))(aQ:env.frame=J L)(aO:kI s.heap e cls d T .none)
  (h:∀h' dK,kI h' e cls d dK (rawInt L)->s.heap.get? dK=aw->h'.FunFrames base (env::outer)->vL ((env::outer).filterMap (·.frame)) e (J T) s.heap h'->Q () {s with heap:=h'}):bK M A (noteFrame (.ref e) env) Q E s:=by
 obtain⟨eQ,vs,jt,iT,he,hc,lP,hd,aq,kW,cF,hF,bE,kZ⟩:=aO
 unfold noteFrame
 simp only[aQ]
 refine bQ (iW he hd aq ?_)
 rw[if_pos (show(al.ref T != al.none)=au from by simp)]
 refine bQ (iW cF hF bE ?_)
 rw[if_neg (show ¬((al.none == rawInt L)=au)from by simp[rawInt])]
 refine bQ (sV cF hF (Array.getElem?_eq_some_iff.mp bE).1 ?_)
 have other:∀b,b≠T->(s.heap.update T (bo.mapFields (·.setIfInBounds 3 al.none))).get? b=s.heap.get? b:=fun b ao=>bb.get?_update_other _ _ (e3 ao)
 have sk:∀b o,s.heap.get? b=J o->(∀vs,o.data≠.fields vs)->b≠T:=fun b o ao i8 q=>by
  rw[q,cF]at ao;injection ao with ao;subst ao;exact i8 iT hF
 have back:∀b,(s.heap.update T (bo.mapFields (·.setIfInBounds 3 al.none))).get? b=aw->s.heap.get? b=aw:=fun b ao=>by
  by_cases z:b=T
  ·subst z
   rw[bb.get?_update_self _ cF (bo.isFreed_of_fields (bo.data_mapFields hF _))]at ao;cases ao
  .rw[other b z]at ao;exact ao
 subst hc
 refine Dv (s:={s with heap:=s.heap.update T (bo.mapFields (·.setIfInBounds 3 al.none))}) pE (aH.of_keeps fun b o ao i8=>⟨o,(other b (sk b o ao i8)).trans ao,I⟩) aQ ((other e (e3 kW)).trans he) hd (Array.getElem?_eq_some_iff.mp aq).1 lP fun h' dK e7 dF kB jd=>?_
 exact h h' dK e7 (back _ dF) kB ⟨fun b o aq az bE cz=>jd.keep b o aq (by simp) bE ((other b (fun z=>az (by rw[z]))).trans cz),fun b o aq az cz=>jd.slot b o aq (by simp) ((other b (fun z=>az (by rw[z]))).trans cz)⟩
theorem PH(pE:A.frames=J (env::outer))(aH:s.heap.FunFrames base (env::outer))(aQ:env.frame=J L)(he:s.heap.get? e=J eQ)(hd:eQ.data=.fields vs)(aq:vs[1]?=J .none)(kZ:vB e eQ.dict vs[2]? d)
  (h:∀h' dK,kI h' e eQ.cls d dK .none->s.heap.get? dK=aw->vL ((env::outer).filterMap (·.frame)) e aw s.heap h'->Q () {s with heap:=h'}):bK M A (leaving env (.ref e)) Q E s:=by
 unfold leaving noteFrame
 simp only[aQ]
 refine bQ (bQ (iW he hd aq ?_))
 rw[if_neg (by decide)]
 refine Dv pE aH aQ he hd (Array.getElem?_eq_some_iff.mp aq).1 kZ fun aq dK e7 dF kB jd=>?_
 refine z7 kB e7 fun az cj _ sP=>h az dK cj dF ⟨fun b o aq az bE cz=>sP b o (fun z=>by rw[z,dF]at cz;cases cz) (jd.keep b o aq az bE cz),fun b o aq az cz=>?_⟩
 obtain⟨dB,e⟩:=jd.slot b o aq az cz
 exact⟨dB,sP b _ (fun z=>by rw[z,dF]at cz;cases cz) e⟩
end
noncomputable def kh(P:cW)(w:cD):kG:=fun outer H s E e aR=>∃a C d ai T,e=.ref a/\aR.os=s.os/\AllBare aR.gens/\fy (ij outer) [] H ai s.heap aR.heap/\fg P w ai aR.heap/\
 kI aR.heap a (.ref C) d T .none/\ai a=aw/\ai T=aw/\s.heap.get? a=aw/\s.heap.get? T=aw/\E (.ref C) d ai
theorem fg.there(ok:fg P w H h)(e:H a=J o):∃u,h.get? a=J u:=by
 have x:=ok a o e
 cases o with
 |lst xs=>obtain⟨_,_,_,_,e⟩:=x;exact⟨_,e⟩
 |tup xs=>obtain⟨_,_,_,p⟩:=x;obtain⟨o,e,_⟩:=p;exact⟨_,e⟩
 |lH fB=>obtain⟨_,_,_,_,o,_,_,e,_⟩:=x;exact⟨_,e⟩
 |ob fB=>exact(show False from x).elim
 |set S n=>obtain⟨o,_,_,_,e,_⟩:=x;exact⟨_,e⟩
 |ins C aG fs=>obtain⟨_,_,_,e,_⟩:=x;exact⟨_,e⟩
 |own y=>exact x
 |jS fs=>obtain⟨_,⟨_,_,_,e,_⟩,_⟩:=x;exact⟨_,e⟩
 |xx lo aE=>obtain⟨_,_,_,e⟩:=x;exact⟨_,e⟩
 |iO dD u=>obtain⟨e,_⟩:=x;exact⟨_,e⟩
 |p0 aI=>exact⟨_,x⟩
 |met f y=>exact⟨_,x⟩
 |ext sS=>exact x.2.1
theorem fg.none(ok:fg P w H h)(e:h.get? a=aw):H a=aw:=by
 cases q:H a with
 |none=>rfl
 |some o=>obtain⟨u,z⟩:=ok.there q;rw[e]at z;cases z
section
variable {P:cW} {w:cD} {K:bH} {mg:af->Option al} {base:bb} {N:List af} {dH:af} {cX:Scope} {f:ah} {bD:al} {A:c1} {outer:List Env} {s:aJ} {H:ar} {E:cC}
theorem SQ{s1:aJ}{T:Option ah}(aa:Inv X aj ae H1 s1)(av:X.ex=[])(hs:X.stack=X.env::X.outer)(S:vL (ij X.stack) a T s1.heap h')
  (js:X.dq.heap.get? a=aw) (jO:∀t,T=J t->X.dq.heap.get? t=aw) (fa:H1 a=aw) (j3:∀t,T=J t->H1 t=aw):fy (ij X.outer) [] X.iu H1 X.dq.heap h'/\fg X.prog X.w H1 h':=by
 have B:=aa.base
 rw[av]at B
 have Fm:∀b o,X.dq.heap.get? b=J o->b≠a:=fun b o e z=>by rw[z,js]at e;cases e
 have neT:∀b o,X.dq.heap.get? b=J o->J b≠T:=fun b o e z=>by have:=jO b z.symm;rw[e]at this;cases this
 have qM:∀b o,X.dq.heap.get? b=J o->b≠X.env.locals:=fun b o e=>fE (ez (en e) aa.ok.above)
 refine⟨⟨fun b o e n ao av=>?_,fun b o e n ao av=>?_,B.free,fun b o e av=>?_,B.lq,B.kq,B.lp⟩,fun b u e=>(aa.aU b u e).nG (fun c v hc q=>?_) (fun _ q=>q) fun _ _ q=>q⟩
 ·refine S.keep b o (Fm b o e) (neT b o e) (fun z=>?_) (B.keep b o e n ao av)
  exact(dy.mp (aa.qS b z)).elim (qM b o e) ao
 ·obtain⟨dB,ba⟩:=B.slot b o e n ao av
  obtain⟨ky,bg⟩:=S.slot b _ (Fm b o e) (neT b o e) ba
  exact⟨ky,bg⟩
 ·obtain⟨eh,ba⟩:=B.there b o e av
  obtain⟨ky,bg⟩:=S.slot b _ (Fm b o e) (neT b o e) ba
  exact⟨_,bg⟩
 ·have pD:∃z,H1 c=J z:=by
   rcases hc with rfl|hc
   .exact⟨_,e⟩
   .exact⟨_,hc⟩
  obtain⟨z,bw⟩:=pD
  refine S.keep c v (fun y=>?_) (fun y=>?_) (fun y=>?_) q
  .rw[y,fa]at bw;cases bw
  .rw[j3 c y.symm]at bw;cases bw
  .rw[aa.xM c y]at bw;cases bw
end
section
variable {P:cW} {w:cD} {K:bH} {mg:af->Option al} {base:bb} {N:List af} {dH:af} {cX:Scope} {f:ah} {bD:al} {A:c1} {outer:List Env} {s:aJ} {H:ar} {E:cC}
def G3(X:bj)(E:cC):Prop:=∀(aj:List (ah×bo))(ae:St)(H1:ar)(s1:aJ)(a C:ah)(eQ:bo)(vs:Array al)(d:Option ah),Inv X aj ae H1 s1->s1.heap.get? a=J eQ->eQ.cls=.ref C->eQ.data=.fields vs->vs[1]?=J .none->vB a eQ.dict vs[2]? d->
 H1 a=aw->X.dq.heap.get? a=aw->E (.ref C) d H1->X.xe (.ref a) s1
theorem QG:G3 (kQ (kh P w) P w K mg base N dH cX f bD A outer s H E) E:=by
 intro aj ae H1 s1 a C eQ vs d aa he hc hd aq kZ fa js q
 refine PH (base:=base) aa.ok.frames aa.stack I he hd aq kZ fun h' dK e7 dF kB=>?_
 have j3:=aa.aU.none dF
 obtain⟨u,hk⟩:=SQ (T:=aw) aa rfl rfl kB js (fun t z=>by cases z) fa (fun t z=>by cases z)
 refine⟨a,C,d,H1,dK,I,aa.os,aa.bare,u,hk,hc ▸ e7,fa,j3,js,?_,q⟩
 cases z:s.heap.get? dK with
 |none=>rfl
 |some o =>
  obtain⟨eh,e⟩:=aa.base.there dK o z (show dK∉([]:List ah) by simp)
  rw[dF]at e;cases e
end
end cM
end
variable {T:ah} {c0:Tok} {np u6:Pos} {pn:List (ah×bo)} {Eh:cM.St->cM.cC} {de:cM.eG}
section
namespace cM
open PySem PySem.W PySem.Spec PyProof.Rows
structure ExcC(K:Frag)(C:ah):Prop where
 ga:findIn K (.ref C) "__getattribute__"=J (J (.builtin "BaseException.__getattribute__"))
 gt:findIn K (.ref C) "__getattr__"=J aw
 cl:findIn K (.ref C) "__class__"=J (J (.builtin "object.__class__"))
 dD:mroIn K C (.type "object")=J au
 be:mroIn K C (.type "BaseException")=J au
 is:isClsIn K C=au
 bf:specialIn K (.builtin "object.__class__") "__get__"=J (J (.builtin "getset_descriptor.__get__"))
 c0:takesIn K (.builtin "object.__class__")=J au
section
variable {K:Frag} {prog:cW} {w:cD} {A:c1} {E:al->aJ->Prop} {h:bb} {g:Array GenState} {d:Drawn} {t:Nat} {os:OsState} {x C:ah} {ox:bo} {oF:Option bo} {name:af}
theorem RK{R:Result->aJ->Prop}(X:K.In h)(aa:InstAt h x ox C oF)(c:ExcC K C)
  (aT:bK (model prog w) A.in1 (dh.«object.__getattribute__» ⟨[.ref x,.str name c0],[]⟩) (fun aZ aR=>match aZ with|.done (.ret v)=>R (.ok (.ret v)) aR|_=>False) (fun _ _=>False) ⟨h,g,d,t,os⟩) :
  lu (model prog w) A (.call (.builtin "BaseException.__getattribute__") ⟨[.ref x,.str name c0],[]⟩) R ⟨h,g,d,t,os⟩:=by
 have nR:=aa.type (M:=model prog w)
 have ix:=looks_mroIn (M:=model prog w) X c.be
 refine Gb F.attr_ValueError.ga.plain F.entry_bexc_ga (check_slot (i:="BaseException.__getattribute__") (owner:="BaseException") (n:="__getattribute__") (by decide+kernel) (by decide+kernel) (nR.andThen ix) (F.args_bexc_ga _ _) ?_)
 refine jU aT (fun aZ aR z=>?_) fun _ _ z=>False.elim z
 rcases aZ with(_|_|_|_)|_<;>first|exact z|exact z.elim
theorem Tc{fill:Bool}(X:K.In h)(aa:InstAt h x ox C oF)(c:ExcC K C)
  (aT:∀A:c1,bK (model prog w) A (dh.«object.__getattribute__» ⟨[.ref x,.str name c0],[]⟩) (fun aZ aR=>match aZ with|.done (.ret v)=>Q v aR/\handedIn v=au|_=>False) (fun _ _=>False) ⟨h,g,d,t,os⟩) :
  bK (model prog w) A (getAttrBy (.ref x) (.str name c0) fill expr) Q E ⟨h,g,d,t,os⟩:=by
 have nR:=aa.type (M:=model prog w)
 have ix:=looks_findIn (M:=model prog w) X c.ga
 have cM:=looks_findIn (M:=model prog w) X c.gt
 have hh:=F.attr_ValueError.ga.bind (.ref x)
 have Kp:(expr&&onTheHeap (al.builtin "BaseException.__getattribute__"))=ay:=by cases expr<;>rfl
 have r9:(al.builtin "BaseException.__getattribute__" == al.builtin "object.__getattribute__")=ay:=by decide+kernel
 have d0:(onTheHeap (al.ref C)&&al.builtin "BaseException.__getattribute__" == al.builtin "object.__getattribute__")=ay:=by rw[r9];rfl
 unfold getAttrBy
 refine wpAny_holding (bQ (nR.at (bQ (ix.at ?_))))
 dsimp only
 rw[if_neg (by rw[d0];decide)]
 have rest:∀A:c1,lu (model prog w) A (.call (.builtin "BaseException.__getattribute__") ⟨[.ref x,.str name c0],[]⟩) (fun r aR=>match r with|.ok (.ret v)=>Q v aR/\handedIn v=au|_=>False) ⟨h,g,d,t,os⟩:=fun A=>RK X aa c (jU (aT A.in1) (fun aZ aR z=>by rcases aZ with(_|_|_|_)|_<;>first|exact z|exact z.elim) fun _ _ z=>z.elim)
 repeat (any_goals (first|assumption|with_reducible refine cM.at ?_|wp_step))
 refine oQ (rest A) fun r aR z=>?_
 cases r with
 |error e=>exact z.elim
 |ok fT=>cases fT with
  |ret v=>exact handed_on z.2 z.1
  |next=>exact z.elim
  |brk=>exact z.elim
  |cont=>exact z.elim
theorem OJ{Q:Fin->aJ->Prop}(X:K.In h)(aa:InstAt h x ox C oF)(c:ExcC K C)(aT:Q (.done (.ret (.ref C))) ⟨h,g,d,t,os⟩):
  bK (model prog w) A (dh.«object.__getattribute__» ⟨[.ref x,.str "__class__" c0],[]⟩) Q E ⟨h,g,d,t,os⟩:=by
 have nR:=aa.type (M:=model prog w)
 obtain⟨dX,hc⟩:=Option.isSome_iff_exists.mp (show(clsIn K C).isSome=au from c.is)
 have aQ:findObj K C oF "__class__"=J (.bind (.builtin "getset_descriptor.__get__") (.builtin "object.__class__")):=by
  unfold findObj
  rw[hc,Option.bind_some,c.cl,Option.bind_some]
  simp[c.bf,c.c0]
 have ix:=looks_find (M:=model prog w) X aa aQ
 repeat (any_goals (first|assumption|with_reducible refine nR.at ?_|with_reducible refine ix.at ?_|wp_step))
 refine class_get (s:=⟨h,g,d,t,os⟩) (ox:=ox) (od:=oF) X aa c.dD ?_
 repeat (any_goals (first|assumption|wp_step))
theorem Q5{Q:Option al->aJ->Prop}(X:K.In s.heap)(aa:InstAt s.heap x ox C oF)(c:ExcC K C)(aT:Q (J (.ref C)) {s with toks:=s.toks+1}):bK (model prog w) A (getAttr? (.ref x) "__class__") Q E s:=by
 obtain⟨h,g,d,t,os⟩:=s
 unfold getAttr? getAttrBy?
 refine bQ (wpAny_mkText (bQ (wpAny_attempt ?_)))
 exact Tc X aa c fun A=>OJ X aa c ⟨eF aT,I⟩
theorem Ih(c:ExcC K C):KitX K (.ref x) (.ref C) (fun h=>∃ox oF,InstAt h x ox C oF) where
 ty:=fun _ _ _ ⟨_,_,aa⟩=>aa.type
 it:=fun _ _ X _=>by
  obtain⟨Jq,lN⟩:=Option.isSome_iff_exists.mp (show(clsIn K C).isSome=au from c.is)
  unfold clsIn at lN
  split at lN
  ·rename_i gw d' Jp ky aD
   intro sW jj qb aR k q
   unfold isType loadHead
   exact bQ (wpAny_loadPart (k _ _ (X _ _ aD)) (eF q))
  .cases lN
 ne:=fun h aaA dd aW n dB X Ws=>by
  obtain⟨Jq,lN⟩:=Option.isSome_iff_exists.mp (show(clsIn K C).isSome=au from c.is)
  refine Bool.eq_false_iff.mpr fun q=>?_
  have e:C=aaA:=al.ref.inj (beq_iff_eq.mp q)
  subst e
  unfold clsIn at lN
  split at lN
  ·rename_i gw d' Jp ky aD
   have z:=(X _ _ aD).symm.trans Ws
   cases z
  .cases lN
 ca:=fun X ⟨_,_,aa⟩ k=>Q5 X aa c k
end
section
variable {P:cW} {w:cD} {K:bH} {mg:af->Option al} {base:bb}
def zv(H:ar)(E:cC):cC:=fun c d ai=>gf H ai (E c d)
theorem di.WY{sp:cT}(F:di P w K mg base (kh P w) k f fd aI sp)
  (h:∀vs H Q E,xF vs H Q E->sp vs H (fun v ai=>gf H ai (Q v)) (zv H E)):di P w K mg base (kh P w) k f fd aI xF:=by
 refine⟨fun vs H Q E q=>F.len vs H _ _ (h vs H Q E q),fun A outer s H args us vs Q E aF eI ao r q=>oQ (F.run A outer s H args us vs _ _ aF eI ao r (h vs H Q E q)) fun rs aR c=>?_⟩
 cases rs with
 | error e =>
  obtain⟨a,C,d,ai,T,rfl,os,bare,un,aU,lJ,fa,j3,js,jO,ir,dd,fw⟩:=c
  have nn:∀b,ai b=aw->ir b=aw:=fun b ao=>by
   cases z:ir b with
   |none=>rfl
   |some o=>have:=dd.le b o z;rw[ao]at this;cases this
  exact⟨a,C,d,ir,T,I,os,bare,fy.sub (fy.refl (h:=s.heap)) un dd,aU.sub (dd.cl eI.aU.closed) dd.le,lJ,nn a fa,nn T j3,js,jO,fw⟩
 | ok fT =>
  cases fT with
  |ret u =>
   obtain⟨v,ai,os,bare,un,aU,dG,ir,d,fw⟩:=c
   exact⟨v,ir,os,bare,fy.sub (fy.refl (h:=s.heap)) un d,aU.sub (d.cl eI.aU.closed) d.le,dG,fw⟩
  |next=>exact c
  |brk=>exact c
  |cont=>exact c
theorem dV.XZ{st:bG}{sp:cT}(F:dV K x dH st f fd)(S:cP N aI (b4 st))(len:∀vs H Q E,sp vs H Q E->vs.length=aI.length)
  (kt:∀(bD:al)(A:c1)(outer:List Env)(s:aJ)(H:ar)(vs:List V)(Q:bP)(E:cC),fY k (A.deeper (envOfC dH (b4 st) s.heap.objs.size f bD))->sp vs H Q E->
   ∃t,hD (kQ (kh P w) P w K mg base N dH (b4 st) f bD A outer s H (zv H E)) (jF st) t/\t {nx:=fun _ ai=>gf H ai (Q .aK),rt:=fun v ai=>gf H ai (Q v)} (start N vs) H):di P w K mg base (kh P w) (k+1) f fd aI sp:=by
 refine di.WY (sp:=fun vs H Q E=>∃jj qb,Q=(fun v ai=>gf H ai (jj v))/\E=zv H qb/\sp vs H jj qb) ?_ fun vs H Q E h=>⟨Q,E,I,I,h⟩
 obtain⟨h2,od,gq,doc,pm,an,bD,ct,lW,rfl,qI,lO⟩:=F.ex
 refine Ji qI lO S (fun vs H Q E ⟨jj,qb,_,_,h⟩=>len vs H jj qb h) fun A outer s H vs Q E aF bJ=>?_
 obtain⟨jj,qb,ba,bg,ou⟩:=bJ
 subst ba bg
 exact kt bD A outer s H vs jj qb aF ou
end
def GO(CX:kG)(X:bj)(E:St->cC):Prop:=∀(aj:List (ah×bo))(ae:St)(H:ar)(s:aJ)(e:al)(aR:aJ),Inv X aj ae H s->CX X.stack H s (E ae) e aR->X.xe e aR
abbrev rE:List al:=[.type "ValueError",.type "Exception",.type "BaseException",.type "object"]
structure ClsAt(K:Frag)(h:bb)(C:ah):Prop where
 ex:∃(bm:List al)(N:ah)(nm q:af)(bs:List al)(hdct:Bool)(sn:List af)(sub:List al)(ab:Bool)(col:Option Bool)(dd:Option ah)(k0 k1 k2 k3 k5:Option al)(mN:af->Option al),
  h.get? C=J (excClassObj nm q C N bs bm hdct sn sub ab col dd k0 k1 k2 k3 k5 "ValueError.__new__")/\h.Ns N mN/\mN "__init__"=aw/\OwnTail h rE bm
variable {K:Frag}
theorem clsAt(X:K.In h)(q:excIn K C rE "ValueError.__new__"=au):ClsAt K h C:=by
 unfold excIn at q
 split at q
 ·rename_i dd dX dB aD
  split at q
  ·rename_i Gh bm k0 k1 k2 k3 n k5 hm hs
   simp only[jA,beq_iff_eq,Bool.not_eq_true']at q
   obtain⟨⟨⟨⟨⟨rfl,rfl⟩,JX⟩,aO⟩,aU⟩,w1⟩:=q
   obtain⟨nm,bs,mro,ns,xu,hd,sn,sub,ab,col,del⟩:=dX
   dsimp only at hm JX aU w1
   subst hm JX
   have EO:dB=#[k0,k1,k2,k3,J (.builtin "ValueError.__new__"),k5]:=by
    obtain⟨l⟩:=dB
    simp only at hs
    rw[hs]
   subst EO
   exact⟨bm,ns,nm,xu,bs,hd,sn,sub,ab,col,dd,k0,k1,k2,k3,k5,_,X _ _ aD,.of_isNs (isNs_of_in X aU),nsMap_none_of_in X aU w1,tail_of_in X aO⟩
  .cases q
 .cases q
def aaf(C:ah)(E:cC)(t:hg):eG:=fun _ ae H=>t ae H fun vs H1=>vs.length<=bW/\E (.ref C) aw H1
theorem Rt{kP:Pos}{t:hg}{E:cC}(T:G3 X E)(gQ:excIn X.K C rE "ValueError.__new__"=au)(hm:X.mg x=J (.ref C))(dM:X.A.handled=aw)(bz:ib X (e::aV) t)
  (hex:X.ex=[]:=by rfl) (aN:iI X x:=by rfl) (jK:(x == ("__debug__":af))=ay:=by decide+kernel)
  (he:dN (e::aV) X.env=(ay,eval e X.env)::dN aV X.env:=by rfl) (hx:(backTo kP (dN aV X.env)).any (·.1)=ay:=by rfl) :
  jz X (.Raise (J (.Call (.Name x np) (e::aV) [] kP)) aw aX) (aaf C E t):=by
 intro aj s ae H D aa h
 obtain⟨bm,N,nm,q,bs,hdct,sn,sub,ab,col,dd,k0,k1,k2,k3,k5,mN,aq,az,bE,cz⟩:=(clsAt aa.ok.mod.qH gQ).ex
 refine wpAny_Raise_call_subU (nm:=nm) (q:=q) (N:=N) (bs:=bs) (hdct:=hdct) (sn:=sn) (sub:=sub) (ab:=ab) (col:=col) (dd:=dd) (k0:=k0) (k1:=k1) (k2:=k2) (k3:=k3) (k5:=k5) F.excBase_ValueError (bmB:=rE) (by decide+kernel) F.excBase_ValueError (mN:=mN) (cz.hasType (by decide+kernel)) dM ?_ bE (tY aa aN hm ⟨I,?_⟩ jK)
 .rw[he];show(ay||(backTo kP (dN aV X.env)).any (·.1))=ay;rw[hx];rfl
 have bh:=bz kP aj s ae H _ aa h
 rw[he]at bh ⊢
 refine Calls.evalArgs_plain (cO bh fun us s1 bJ=>?_)
 obtain⟨vs,H1,bc,r,aH,cA⟩:=bJ
 refine ⟨I,by show us.length<=_;rw[<-r.length];exact aH,bc.bk _ _ aq,az.keeps bc.bk,cz.keeps bc.bk,fun h' a hm=>?_⟩
 obtain⟨tt,aO,_,_⟩:=hm.there
 refine T aj ae H1 _ a C _ _ aw (bc.kept (h':=h') (t':=s1.toks) hm.keeps) aO I I I (.inl ⟨I,.inl I⟩) (bc.aU.none hm.new) ?_ cA
 cases z:X.dq.heap.get? a with
 |none=>rfl
 |some o =>
  obtain⟨eh,e⟩:=bc.base.there a o z (by rw[hex];simp)
  rw[hm.new]at e;cases e
noncomputable def oW(a C:ah)(d:Option ah):dC :=.ext fun h=>∃o vs,h.get? a=J o/\o.cls=.ref C/\vB a o.dict vs[2]? d/\o.data=.fields vs/\True
theorem SD{d:Option ah}{fT:al}(f:kI h a (.ref C) d T fT):gY P w H h a (oW a C d):=by
 obtain⟨eQ,vs,jt,iT,he,hc,lP,hd,_,_,_,_,_,kZ⟩:=f
 exact⟨⟨eQ,vs,he,hc,lP,hd,kZ⟩,⟨eQ,he⟩,fun aq az ⟨o,vs,ba,bg,eZ,ht,rK⟩ k=>⟨o,vs,k o ba,bg,eZ,ht,rK⟩⟩
theorem P7{D:ah}{o:bo}{b:Bool}{Q:Bool->aJ->Prop}(X:K.In s.heap)(he:s.heap.get? a=J o)(hc:o.cls=.ref C)(we:ExcC K D)(p1:typeIn K (.ref D)=J (.type "type"))
  (hm:mroIn K C (.ref D)=J b) (aT:Q b s):bK M A (excMatches (.ref a) (.ref D)) Q E s:=by
 obtain⟨h,g,d,t,os⟩:=s
 have ix:=looks_typeIn (M:=M) X p1
 have cM:=looks_mroIn (M:=M) X we.be
 have ti:=looks_mroIn (M:=M) X hm
 have abz:=(Ih (x:=a) we).it M h X
 have NL:Looks M h (isType (.ref D)) au:=by
  obtain⟨Jq,lN⟩:=Option.isSome_iff_exists.mp (show(clsIn K D).isSome=au from we.is)
  unfold clsIn at lN
  split at lN
  ·rename_i gw d' Jp ky aD
   intro sW jj qb aR k q
   unfold isType loadHead
   exact bQ (wpAny_loadPart (k _ _ (X _ _ aD)) (eF q))
  .cases lN
 have f:=tc_notTuple
 unfold excMatches isExcClass isInstance
 repeat (first|(with_reducible refine abw he ?_;rw[hc])|with_reducible refine ix.at ?_|with_reducible refine NL.at ?_|with_reducible refine cM.at ?_|with_reducible refine ti.at ?_|wp_step)
 cases b
 .repeat (first|exact aT|wp_step)
 .repeat (first|exact aT|wp_step)
section
variable {X:bj} {aj:List (ah×bo)} {ae:St} {H1 ax:ar} {s1 s2:aJ} {h':bb} {a C T dK:ah} {d:Option ah}
theorem Inv.Jo(bc:Inv X aj ae H1 s1)(bM:Inv X aj ae ax s2)(hex:X.ex=[])(js:s1.heap.get? a=aw)(jO:s1.heap.get? T=aw)(fa:ax a=aw)(j3:ax T=aw)
  (keep:∀b o,b≠a->b≠T->b∉ij X.stack->s2.heap.get? b=J o->h'.get? b=J o)
  (slot:∀b o,b≠a->b≠T->s2.heap.get? b=J o->∃dB,h'.get? b=J {o with slots:=dB}) (lJ:kI h' a (.ref C) d dK .none):Inv X aj ae (upd ax a (oW a C d)) {s2 with heap:=h',toks:=t'}:=by
 have ne:∀b o,s1.heap.get? b=J o->b≠a/\b≠T:=fun b o e=>⟨fun z=>(by rw[z,js]at e;cases e),fun z=>(by rw[z,jO]at e;cases e)⟩
 have sj:∀b o,X.dq.heap.get? b=J o->b≠a/\b≠T:=fun b o e=>by
  obtain⟨eh,cR⟩:=bc.base.there b o e (by rw[hex];simp)
  exact ne b eh cR
 have qM:∀b o,X.dq.heap.get? b=J o->b≠X.env.locals:=fun b o e=>fE (ez (en e) bM.ok.above)
 have qL:X.env.locals≠a/\X.env.locals≠T:=by
  obtain⟨m,⟨o,_,_,aD,_⟩,_⟩:=bc.loc
  exact ne _ o aD
 have xk:∀x c,X.env.cells.lookup x=J c->c≠a/\c≠T:=fun x c e=>by
  obtain⟨v,o,aD,_⟩:=bc.cell x c e
  exact ne c o aD
 have cellK:∀x c,X.env.cells.lookup x=J c->∀v,s2.heap.IsCell c v->h'.IsCell c v:=fun x c e v ⟨o,aD,hd⟩=>by
  obtain⟨dB,q⟩:=slot c o (xk x c e).1 (xk x c e).2 aD
  exact⟨_,q,hd⟩
 refine⟨bM.ok,bM.os,bM.bare,⟨fun b o e n ao av=>?_,fun b o e n ao av=>?_,fun b o e n av=>?_,fun b o e av=>?_,fun b xs e=>?_,fun b o u e=>?_,fun b aI e=>?_⟩,?_,fun x c e=>?_,?_,fun x c e=>?_,fun p bh=>?_,fun b u e=>?_,bM.len⟩
 ·refine keep b o (sj b o e).1 (sj b o e).2 (fun z=>?_) (bM.base.keep b o e n ao av)
  exact(dy.mp (bM.qS b z)).elim (qM b o e) ao
 ·obtain⟨dB,ba⟩:=bM.base.slot b o e n ao av
  obtain⟨ky,bg⟩:=slot b _ (sj b o e).1 (sj b o e).2 ba
  exact⟨ky,bg⟩
 .rw[cn (sj b o e).1];exact bM.base.free b o e n av
 ·obtain⟨eh,ba⟩:=bM.base.there b o e av
  obtain⟨ky,bg⟩:=slot b _ (sj b o e).1 (sj b o e).2 ba
  exact⟨_,bg⟩
 ·have:=bM.base.lq b xs e
  rw[cn (gv this fa)];exact this
 ·have:=bM.base.kq b o u e
  rw[cn (gv this fa)];exact this
 ·obtain⟨more,this⟩:=bM.base.lp b aI e
  exact⟨more,by rw[cn (gv this fa)];exact this⟩
 ·obtain⟨m,⟨o,aV,fK,aD,r⟩,aH⟩:=bM.loc
  obtain⟨dB,q⟩:=slot _ o qL.1 qL.2 aD
  refine⟨m,⟨_,aV,fK,q,r⟩,fun i x v ba bg eZ=>?_⟩
  obtain⟨u,r,l⟩:=aH i x v ba bg eZ
  refine⟨u,r,?_⟩
  rcases l with l|⟨k,c,e,z⟩
  .exact .inl l
  .exact .inr ⟨k,c,e,cellK x c e _ z⟩
 ·obtain⟨v,z⟩:=bM.cell x c e
  exact⟨v,cellK x c e v z⟩
 .rw[cn qL.1];exact bM.free
 .rw[cn (xk x c e).1];exact bM.j4 x c e
 ·obtain⟨e,n,ne',lU,dd⟩:=bM.pin p bh
  obtain⟨ba,_⟩:=bc.pin p bh
  refine⟨keep p.1 p.2 (ne _ _ ba).1 (ne _ _ ba).2 (fun z=>(dy.mp (bM.qS _ z)).elim ne' lU) e,?_,ne',lU,dd⟩
  rw[cn (ne _ _ ba).1];exact n
 ·by_cases ao:b=a
  ·subst ao
   rw[aP]at e;cases e
   exact SD lJ
  ·rw[cn ao]at e
   refine(bM.aU b u e).nG (fun c v hc q=>?_) (fun c r=>by rw[cn (gv r fa)];exact r) fun c xs r=>by rw[cn (gv r fa)];exact r
   have pD:∃z,ax c=J z:=by
    rcases hc with rfl|hc
    .exact⟨_,e⟩
    .exact⟨_,hc⟩
   obtain⟨z,bw⟩:=pD
   refine keep c v (gv bw fa) (gv bw j3) (fun y=>?_) q
   rw[bM.xM c y]at bw;cases bw
end
def aaC(X:bj)(pn:List (ah×bo))(Eh:St->cC)(e:al)(aR:aJ):Prop:=∃a C d T bU H1 ai s1,e=.ref a/\Inv {X with pn:=pn} [] bU H1 s1/\Inv {X with pn:=pn} [] bU ai aR/\kI aR.heap a (.ref C) d T .none/\
 ai a=aw/\ai T=aw/\s1.heap.get? a=aw/\s1.heap.get? T=aw/\Eh bU (.ref C) d ai
noncomputable def bj.Mz(X:bj)(pn:List (ah×bo))(Eh:St->cC):bj:={X with pn:=pn,xe:=aaC X pn Eh}
noncomputable def bj.ur(X:bj)(pn:List (ah×bo))(e:ah):bj:={X with pn:=pn,A:=X.A.mark (J (.ref e)),calm:=ay,xe:=fun _ _=>False}
theorem Qn:GO (kh X.prog X.w) (X.Mz pn Eh) Eh:=by
 intro aj ae H1 s1 e s2 aa h
 obtain⟨a,C,d,ax,T,rfl,os,bare,un,aU,lJ,fa,j3,js,jO,q⟩:=h
 have bc:Inv {X with pn:=pn} [] ae H1 s1:=Inv.l0 (X:={X with pn:=pn}) (Inv.Fs (pins':=[]) aa (by simp))
 exact⟨a,C,d,T,ae,H1,ax,s1,I,bc,bc.zk (ch:=[]) os un aU bare (fun b z=>absurd z (by simp)),lJ,fa,j3,js,jO,q⟩
def aah(K:Frag)(D:ah)(i:Nat)(Eh:St->cC)(de oM:eG):eG:=fun qa ae H=>de qa ae H/\∀bU C d ai a,Eh bU (.ref C) d ai->ai a=aw->mroIn K C (.ref D)=J au/\
 oM {nx:=fun ae H=>qa.nx (ae.set i aw) H,rt:=qa.rt,bk:=fun ae H=>qa.bk (ae.set i aw) H,ct:=fun ae H=>qa.ct (ae.set i aw) H} (bU.set i (J (.ref a))) (upd ai a (oW a C d))
theorem bj.Ok.Yb(ok:X.Ok)(pn:List (ah×bo)):bj.Ok {X with pn:=pn} :=
 ⟨ok.mod,ok.kind,ok.glob,ok.blt,ok.above,ok.inj,ok.has,ok.rG,ok.hd,ok.frames,ok.u1,ok.zA,ok.bs,ok.na,ok.sl,ok.ud,ok.kS,ok.pv⟩
theorem bj.Ok.hand(ok:bj.Ok {X with pn:=pn})(e:ah):bj.Ok (X.ur pn e) :=
 ⟨ok.mod,ok.kind,ok.glob,ok.blt,ok.above,ok.inj,ok.has,ok.rG,fun z=>Bool.noConfusion z,ok.frames,ok.u1,ok.zA,ok.bs,ok.na,ok.sl,ok.ud,ok.kS,ok.pv⟩
theorem Inv.hand(aa:Inv {X with pn:=pn} [] ae H s)(e:ah):Inv (X.ur pn e) [] ae H s :=
 ⟨aa.ok.hand e,aa.os,aa.bare,aa.base,aa.loc,aa.cell,aa.free,aa.j4,aa.pin,aa.aU,aa.len⟩
theorem Inv.ins(aa:Inv X aj ae H s):Inv {X with pn:=X.pn++aj} [] ae H s :=
 ⟨aa.ok.Yb _,aa.os,aa.bare,aa.base,aa.loc,aa.cell,aa.free,aa.j4,fun p bh=>aa.pin p (by simpa using bh),aa.aU,aa.len⟩
theorem Inv.Am{Y:bj}(ok:X.Ok)(aa:Inv {X with pn:=X.pn++aj} [] ae H s):Inv X aj ae H s :=
 ⟨ok,aa.os,aa.bare,aa.base,aa.loc,aa.cell,aa.free,aa.j4,fun p bh=>aa.pin p (by simpa using bh),aa.aU,aa.len⟩
theorem Inv.AR{e:ah}(ok:X.Ok)(aa:Inv (X.ur (X.pn++aj) e) [] ae H s):Inv X aj ae H s :=
 ⟨ok,aa.os,aa.bare,aa.base,aa.loc,aa.cell,aa.free,aa.j4,fun p bh=>aa.pin p (by simpa [bj.ur] using bh),aa.aU,aa.len⟩
theorem Inv.gone{n:af}{Q:Unit->aJ->Prop}(aa:Inv X aj ae H s)(b9:X.N.Nodup)(aE:X.N[i]?=J n)(aH:X.env.scope.names.lookup n=J .local)
  (h:∀aR,Inv X aj (ae.set i aw) H aR->Q () aR):bK M A (do bindName X.env n .none;unbindBehindTheSuite X.env n aX) Q E s:=by
 obtain⟨m,bf,VW⟩:=id aa.loc
 have Ej:(X.env.scope.kind ==.class||(X.env.scope.kind ==.module&&X.env.locals != X.env.globals))=ay:=by rw[aa.ok.kind];rfl
 have zV:i<ae.length:=by rw[aa.len];exact(lE.mp aE).1
 refine wpAny_nameGoes_keeps aH bf Ej fun h' v k8 hs=>?_
 obtain⟨K4,_,_,Kf,_⟩:=id bf
 have tracked:fg X.prog X.w H h':=fun b dD e=>by
  refine(aa.aU b dD e).nG (fun c hA hc q=>(hs.2 c ?_).trans q) (fun _ q=>q) fun _ _ q=>q
  rintro rfl
  rcases hc with rfl|hc
  .rw[aa.free]at e;cases e
  .rw[aa.free]at hc;cases hc
 refine h _ ⟨aa.ok,aa.os,aa.bare,⟨fun b o e n ao av=>?_,fun b o e n ao av=>?_,aa.base.free,fun b o e av=>?_,aa.base.lq,aa.base.kq,aa.base.lp⟩,⟨_,k8,fun j y df ba bg eZ=>?_⟩,fun y c e=>?_,aa.free,aa.j4,fun p bh=>?_,tracked,by simpa using aa.len⟩
 .exact(hs.2 b (fE (ez (en e) aa.ok.above))).trans (aa.base.keep b o e n ao av)
 ·obtain⟨dB,ba⟩:=aa.base.slot b o e n ao av
  exact⟨dB,(hs.2 b (fE (ez (en e) aa.ok.above))).trans ba⟩
 ·obtain⟨eh,ba⟩:=aa.base.there b o e av
  exact⟨eh,(hs.2 b (fE (ez (en e) aa.ok.above))).trans ba⟩
 ·by_cases c4:j=i
  ·subst c4
   rw[List.getElem?_set_self zV]at bg
   cases bg
  ·rw[List.getElem?_set_ne (e3 c4)]at bg
   obtain⟨qV,dE,q⟩:=VW j y df ba bg eZ
   refine⟨qV,dE,?_⟩
   rcases q with⟨k,e⟩|⟨k,c,e,z⟩
   ·refine .inl ⟨k,?_⟩
    have:y≠n:=fun e=>c4 (CF b9 ba (e ▸ aE))
    simp[this,e]
   .exact .inr ⟨k,c,e,z.sameBut hs (aa.ph y c e)⟩
 ·obtain⟨hA,z⟩:=aa.cell y c e
  exact⟨hA,z.sameBut hs (aa.ph y c e)⟩
 ·obtain⟨e,n,ne,lU,d⟩:=aa.pin p bh
  exact⟨(hs.2 p.1 ne).trans e,n,ne,lU,d⟩
theorem SS{Mk:List bG}{Jm:bG}{n:af}{D:ah}{oM:eG}(ao:∀pn,hD (X.Mz pn Eh) body de)(dM:∀pn e,hD (X.ur pn e) (Jm::Mk) oM)
  (hm:X.mg x=J (.ref D)) (we:ExcC X.K D) (p1:typeIn X.K (.ref D)=J (.type "type")) (b9:X.N.Nodup) (aE:X.N[i]?=J n:=by rfl) (aH:X.env.scope.names.lookup n=J .local:=by rfl)
  (hs:X.stack=X.env::X.outer:=by rfl) (aQ:X.env.frame=J X.env.locals:=by rfl) (hex:X.ex=[]:=by rfl) (aN:iI X x:=by rfl) (jK:(x == ("__debug__":af))=ay:=by decide+kernel) :
  jz X (.Try body [.ExceptHandler (J (.Name x np)) (J n) (Jm::Mk) aX] [] [] u6) (aah X.K D i Eh de oM):=by
 intro aj s ae H qa aa ⟨aq,az⟩
 have ok:=aa.ok
 refine wpAny_Try_except (jU (ao (X.pn++aj) [] s ae H qa (aa.ins.l2 _) aq) (fun f s1 z=>?_) (fun e s1 z=>?_))
 ·cases f with
  |next =>
   obtain⟨bU,ai,gF,q⟩:=z
   exact cx (X:=X) aj s1 bU ai qa (Inv.Am (Y:=X) ok (Inv.l0 (X:={X with pn:=X.pn++aj}) gF)) q
  |brk=>obtain⟨bU,ai,gF,q⟩:=z;exact⟨bU,ai,Inv.Am (Y:=X) ok (Inv.l0 (X:={X with pn:=X.pn++aj}) gF),q⟩
  |cont=>obtain⟨bU,ai,gF,q⟩:=z;exact⟨bU,ai,Inv.Am (Y:=X) ok (Inv.l0 (X:={X with pn:=X.pn++aj}) gF),q⟩
  |ret u=>obtain⟨v,bU,ai,gF,r,q⟩:=z;exact⟨v,bU,ai,Inv.Am (Y:=X) ok (Inv.l0 (X:={X with pn:=X.pn++aj}) gF),r,q⟩
 obtain⟨a,C,d,T,bU,H1,ai,s0,rfl,bc,bM,lJ,fa,j3,js,jO,q⟩:=z
 obtain⟨V2,aO⟩:=az bU C d ai a q fa
 have fr:X.A.frames=J (X.env::X.outer):=ok.frames.trans (congrArg J hs)
 have fst:s1.heap.FunFrames X.base (X.env::X.outer):=hs ▸ bM.stack
 refine K1 fr fst aQ lJ fun h' dK e7 dF kB jd=>?_
 refine z7 (s:={s1 with heap:=h'}) kB e7 fun az cj iV sP=>?_
 have oC:∀b o,s1.heap.get? b=J o->b≠dK:=fun b o e z=>by rw[z,dF]at e;cases e
 have k2:∀b o,b≠a->b≠T->b∉ij X.stack->s1.heap.get? b=J o->az.get? b=J o:=fun b o ba bg eZ ht=>sP b o (oC b o ht) (jd.keep b o ba (fun z=>bg (gk z)) (fun z=>eZ (by rw[hs];exact z)) ht)
 have dx:∀b o,b≠a->b≠T->s1.heap.get? b=J o->∃dB,az.get? b=J {o with slots:=dB}:=fun b o ba bg ht=>by
  obtain⟨dB,e⟩:=jd.slot b o ba (fun z=>bg (gk z)) ht
  exact⟨dB,sP b _ (oC b o ht) e⟩
 have GA:=(bc.Jo (h':=az) (t':=s1.toks) bM hex js jO fa j3 k2 dx cj).hand a
 refine wpAny_handleBy_cons (codeAny_handlers_test (tY GA aN hm ?_ jK)) (by intro q;cases q)
 obtain⟨eQ,vs,jt,iT,he,hc,lP,hd,_⟩:=id cj
 refine P7 (K:=X.K) GA.gp he hc we p1 V2 ?_
 refine codeAny_handlers_suite_as (z7 (s:={s1 with heap:=az}) iV cj fun bE l1 iU nK=>?_)
 have es:∀b o,b≠dK->az.get? b=J o->bE.get? b=J o:=nK
 have NH:=(bc.Jo (h':=bE) (t':=s1.toks) bM hex js jO fa j3 (fun b o ba bg eZ ht=>nK b o (oC b o ht) (k2 b o ba bg eZ ht)) (fun b o ba bg ht=>by
  obtain⟨dB,e⟩:=dx b o ba bg ht
  exact⟨dB,nK b _ (oC b o ht) e⟩) l1).hand a
 refine CA (X:=X.ur (X.pn++aj) a) (v :=.ref a) NH b9 aE (.inl aH) I (fun pU ra=>?_) (.inr aH)
 refine jU (dM (X.pn++aj) a [] pU _ _ _ ra aO) (fun f uZ z=>?_) fun _ _ z=>False.elim z
 cases f with
 |next =>
  obtain⟨xU,ew,mU,pR⟩:=z
  exact Inv.gone (mU.AR ok) b9 aE aH fun sC mV=>⟨_,ew,mV,pR⟩
 |brk =>
  obtain⟨xU,ew,mU,pR⟩:=z
  exact Inv.gone (mU.AR ok) b9 aE aH fun sC mV=>⟨_,ew,mV,pR⟩
 |cont =>
  obtain⟨xU,ew,mU,pR⟩:=z
  exact Inv.gone (mU.AR ok) b9 aE aH fun sC mV=>⟨_,ew,mV,pR⟩
 |ret u =>
  obtain⟨v,xU,ew,mU,qQ,pR⟩:=z
  exact Inv.gone (mU.AR ok) b9 aE aH fun sC mV=>⟨v,_,ew,mV,qQ,pR⟩
section
variable {X:bj}
inductive Gx(K:bH)(xs:List V)(H:ar)(Q:Bool->Prop):Prop where
 |mk (a C:ah) (d:Option ah) (c:V) (b:Bool) (e:xs=[.ref a,c]) (h:H a=J (oW a C d)) (k:ExcC K C) (l:d=aw\/∃aG fs,d=J aG/\H aG=J (.jS fs)) (m:∀mi,RelV c mi->fD K (.ref C) mi=J b) (q:Q b):Gx K xs H Q
theorem m8:gR X (.builtin "isinstance") (fun xs H Q=>Gx X.K xs H fun b=>Q (.aC b) H):=by
 intro aj s ae H xs us Q aa r h
 obtain⟨a,C,d,c,b,rfl,c6,gQ,hd,iD,q⟩:=h
 obtain⟨u,hA,rfl,b5,eL⟩:=vals2 r
 cases(show u=al.ref a from b5)
 obtain⟨⟨o,vs,ba,bg,eZ,ht,_⟩,_⟩:=(show gY X.prog X.w H s.heap a (oW a C d)from aa.aU a _ c6)
 have dS:∃ox oF,W.InstAt s.heap a ox C oF:=by
  obtain⟨cls,dict,data,dB⟩:=o
  subst bg ht
  rcases eZ with⟨eZ,_⟩|⟨_,eZ,_⟩
  ·dsimp only at eZ
   subst eZ
   rcases hd with rfl|⟨aG,fs,rfl,av⟩
   .exact⟨_,aw,ba,I,I,trivial⟩
   ·obtain⟨u,Uu⟩:=aa.aU.there av
    exact⟨_,J u,ba,I,I,Uu⟩
  ·dsimp only at eZ
   subst eZ
   exact⟨_,aw,ba,I,I,trivial⟩
 exact oP (Ih gQ) aa.gp dS (iD hA eL) (fun z=>nomatch z) fun c0=>⟨.aC b,H,aa.tok _,I,q⟩
theorem Sk:dO X (jT .Mult) (oH (fun i j=>dh.Int.intBits i<=2^20/\dh.Int.intBits j<=2^20) fun i j =>.int (i*j)):=qP fun _ _ _ _ _ _ _ hc q=>mul_int q (IntMulOk.of_bits hc.1 hc.2)
theorem Fw(aF:fY k A):A.units+64<cLine:=by have:=aF.un;omega
end
end cM
namespace cM
open PySem
theorem Pg:jf "ValueError"=J (.type "ValueError"):=by decide+kernel
end cM
end
section
namespace cM
open PySem PySem.W PySem.Spec PyProof.Rows PySem.Builtin.ObjectAttr
end cM
end
variable {gb:cM.gH}
section
namespace cM
open PySem PySem.W PySem.Spec PyProof.Rows
noncomputable abbrev abB:=af->St->ar->bP->Prop
def GJ(P:cW)(w:cD)(K:bH)(mg:af->Option al)(base:bb)(k:Nat)(C:ah)(m:af)(aI:List af)(sp:cT):Prop :=
 ∃f fd,di P w K mg base (kh P w) k f fd aI sp/\Binds K fd aI []/\tB K C m f
section
variable {X:bj}
noncomputable def xo:=dO.or (eE (X:=X)) zj
noncomputable def Ai:=dO.or (lg (X:=X)) I8
end
section
variable {X:bj}
def Ba(i j:Int):Prop:=0<j/\(dh.Int.intBits j<=9000\/dh.Int.intBits i<=dh.Int.intBits j+4000)
theorem HL{j:Int}(h:j≠0):j.natAbs.log2+1=dh.Int.intBits j:=by
 unfold dh.Int.intBits
 rw[if_neg (by simpa using h)]
theorem Ba.ok{i j:Int}(h:Ba i j):dh.divisionGoesByPylong i j=ay:=by
 unfold dh.divisionGoesByPylong
 have c4:=HL (Int.ne_of_gt h.1)
 have az:=h.2
 have j2:(j == 0)=ay:=by have:=h.1;simp;omega
 simp only[Bool.and_eq_false_iff,decide_eq_false_iff_not,j2,if_neg (show ¬(ay=au)from by decide)]
 rcases az with az|az
 .left;omega
 ·right
  by_cases aE:i=0
  .subst aE;rw[if_pos (by decide)];omega
  ·have ab9:=HL aE
   rw[if_neg (by simpa using aE)]
   omega
theorem rk:dO X (jT .FloorDiv) (oH Ba fun i j =>.int (i/j)):=qP fun i j _ _ _ _ _ hc q=>by
 have e:i.fdiv j=i/j:=Int.fdiv_eq_ediv_of_nonneg _ (Int.le_of_lt hc.1)
 exact floordiv_int (by have:=hc.1;omega) (by rw[e];exact q) (.inl hc.ok)
end
section
variable {X:bj} {ek:cq}
theorem vX(hc:X.calm=au):gR X (.builtin "all") (fun xs H Q=>∃a,∃bs:List Bool,xs=[.ref a]/\dr X.K H a (bs.map .aC)/\Q (.aC (bs.all id)) H):=by
 intro aj s ae H xs us Q aa r h
 obtain⟨a,bs,rfl,aT,q⟩:=h
 obtain⟨u,rfl,fO⟩:=vals1 r
 obtain rfl:u=al.ref a:=fO
 obtain⟨aW,dG,pl,bw⟩:=aa.list aT
 have cG:=dG.length
 have iF:a<s.heap.objs.size:=by obtain⟨o,aD,_⟩:=pl.isList;exact en aD
 refine call_all_walkS (wpAny_pyIter_list pl.isList ?_)
 refine⟨s.heap.objs.size,[s.heap.objs.size,a],[s.heap.objs.size],_,aW.toArray.size,_,_,fun i=>bs.getD i ay,I,(Walks.list (A:=X.A.in1) (aa.ok.hd hc) s.heap.objs.size a (fE iF) aW.toArray).toS,⟨⟨_,gZ _ I,I,I⟩,?_⟩,?_,fun aR oB=>?_⟩
 .obtain⟨o,aD,r⟩:=pl.isList;exact⟨o,fF _ aD,r⟩
 ·intro i v s2 abA gd bS cc
  have nw:aW[i]?=J v:=by simpa using bS
  have aE:i<bs.length:=by
   have:=(lE.mp nw).1
   rw[cI]at cG;omega
  have ao:(bs.map V.aC)[i]?=J (.aC (bs.getD i ay)):=by rw[gm,cV aE,eM,cV aE];rfl
  obtain⟨u,dZ,fO⟩:=dG.get ao
  rw[nw]at dZ;cases dZ
  obtain rfl:v=al.bool (bs.getD i ay):=fO
  exact xY cc
 ·have i6:(List.range aW.toArray.size).all (fun i=>bs.getD i ay)=bs.all id:=by
   rw[eV,<-cG,cI]
   apply Bool.eq_iff_iff.mpr
   rw[ig,ig]
   constructor
   ·intro h x av
    obtain⟨i,aE,rfl⟩:=List.mem_iff_getElem.mp av
    have:=h i (List.mem_range.mpr aE)
    rw[eM,cV aE]at this
    exact this
   ·intro h i aE
    have rY:=List.mem_range.mp aE
    rw[eM,cV rY]
    exact h _ (List.getElem_mem rY)
  rw[i6]
  refine⟨.aC _,H,?_,I,q⟩
  have bM:Inv X aj ae H {s with heap:=s.heap.push {cls :=.type "list_iterator",data :=.fields #[.ref a,.int 0 0]}}:=aa.kept (t':=s.toks) fun b o e=>fF _ e
  obtain⟨f0,f1,f2,hh,f4,hv⟩:=aa.pq (b:=s.heap.objs.size) (cQ _) (aa.aU.fresh (cQ _))
  have e:aR={s with heap:=aR.heap,toks:=aR.toks}:=by
   obtain⟨aq,g1,eW,t1,xm⟩:=aR
   have:=oB.gens;have:=oB.drawn;have:=oB.os
   dsimp only at *
   subst_vars;rfl
  have iv:=bM.turned (t':=aR.toks) (it:=s.heap.objs.size) (h':=aR.heap) (fun b o ao e=>oB.heap b o (by simpa using ao) e) f0 f1 hh f4 hv
  rw[e]
  exact iv
end
theorem Q9(l:List V):qs l (J 1) aw=l.drop 1:=by
 unfold qs eR.gs
 cases l with
 |nil=>rfl
 |cons a r=>simp
theorem Cx{Q:bP}{D:ah}(f:V->V)(S:St->Prop)(bw:xs.length<=bW)(bt:S fk)(dz:H D=aw)(aH:dr K H a xs)
  (aO:∀x,x∈xs->∀bV H1,S bV->dJ H H1->∀R:St->V->ar->Prop,(∀bI,S bI->R bI (f x) H1)->g x bV H1 fun bI ax=>cH bI ax fun y bL=>R bI y bL)
  (aT:Q (.ref D) (upd H D (.lst (xs.map f)))) :
  mP (oY K a) g qU cH Q fk H D:=by
 refine⟨fun i m bV ax=>i<=xs.length/\m=xs.length-i/\S bV/\ax=upd H D (.lst ((xs.take i).map f)),⟨xs.length,UF _,I,bt,I⟩,?_⟩
 rintro i m bV ax ⟨aq,rfl,az,rfl⟩
 have f7:=(c3 (o :=.lst ((xs.take i).map f)) dz).seq aH
 rcases jC i xs.length with z|z
 ·refine .inr ⟨⟨xs,xs[i],f7,cV z⟩,?_⟩
  rintro x bL ⟨rfl,av⟩
  have av:=av xs f7
  refine aO x (iL av) bV _ az (c3 dz) (fun bI y e1=>∃aM cv,e1 D=J (.lst aM)/\aM.length<bW/\cv<xs.length-i/\(i+1<=xs.length/\cv=xs.length-(i+1)/\S bI/\upd e1 D (.lst (aM++[y]))=upd H D (.lst ((xs.take (i+1)).map f)))) fun bI fx=>?_
  refine⟨_,xs.length-(i+1),aP,?_,by omega,by omega,rfl,fx,?_⟩
  .rw[cI,kj];omega
  .rw[kn,m4,av,ie];rfl
 ·have e:i=xs.length:=by omega
  subst e
  rw[List.take_length]
  rw[List.take_length]at f7
  exact .inl ⟨⟨xs,f7,cQ _⟩,aT⟩
theorem P9{Q:bP}{D:ah}(keep:V->Bool)(f:V->V)(S:St->Prop)(bw:xs.length<=bW)(bt:S fk)(dz:H D=aw)(aH:dr K H a xs)
  (aO:∀x,x∈xs->∀bV H1,S bV->dJ H H1->∀(R:St->V->ar->Prop)(jZ:St->ar->Prop),(∀bI,S bI->if keep x=au then R bI (f x) H1 else jZ bI H1)->g x bV H1 fun bI ax=>gb bI ax fun b bL=>if b=au then cH bI bL fun y hO=>R bI y hO else jZ bI bL)
  (aT:Q (.ref D) (upd H D (.lst ((xs.filter keep).map f)))) :
  mP (oY K a) g gb cH Q fk H D:=by
 refine⟨fun i m bV ax=>i<=xs.length/\m=xs.length-i/\S bV/\ax=upd H D (.lst (((xs.take i).filter keep).map f)),⟨xs.length,UF _,I,bt,I⟩,?_⟩
 rintro i m bV ax ⟨aq,rfl,az,rfl⟩
 have f7:=(c3 (o :=.lst (((xs.take i).filter keep).map f)) dz).seq aH
 rcases jC i xs.length with z|z
 ·refine .inr ⟨⟨xs,xs[i],f7,cV z⟩,?_⟩
  rintro x bL ⟨rfl,av⟩
  have av:=av xs f7
  refine aO x (iL av) bV _ az (c3 dz) (fun bI y e1=>∃aM cv,e1 D=J (.lst aM)/\aM.length<bW/\cv<xs.length-i/\(i+1<=xs.length/\cv=xs.length-(i+1)/\S bI/\upd e1 D (.lst (aM++[y]))=upd H D (.lst (((xs.take (i+1)).filter keep).map f))))
   (fun bI ew=>∃cv,cv<xs.length-i/\(i+1<=xs.length/\cv=xs.length-(i+1)/\S bI/\ew=upd H D (.lst (((xs.take (i+1)).filter keep).map f)))) fun bI fx=>?_
  have ng:xs.take (i+1)=xs.take i++[x]:=by rw[m4,av];rfl
  by_cases hk:keep x=au
  ·rw[if_pos hk]
   refine⟨_,xs.length-(i+1),aP,?_,by omega,by omega,rfl,fx,?_⟩
   ·rw[cI]
    have:=List.length_filter_le keep (xs.take i)
    rw[kj]at this;omega
   .rw[kn,ng,List.filter_append,ie,List.filter_cons_of_pos hk];rfl
  ·rw[if_neg hk]
   refine⟨xs.length-(i+1),by omega,by omega,rfl,fx,?_⟩
   rw[ng,List.filter_append,ie,List.filter_cons_of_neg hk];simp
 ·have e:i=xs.length:=by omega
  subst e
  rw[List.take_length]
  rw[List.take_length]at f7
  exact .inl ⟨⟨xs,f7,cQ _⟩,aT⟩
end cM
end
section
namespace fQ
open PySem cM
noncomputable def qx:List Int->Int×Int
 |[]=>(1,0)
 |a::r=>(a*(qx r).1+(qx r).2,(qx r).1)
def Tail(r:List Int):Prop:=(∀x∈r,1<=x)/\∀h:r≠[],2<=r.getLast h
noncomputable def Good:List Int->Prop
 |[]=>False
 |_::r=>Tail r
noncomputable def e0(p q:Int):List Int:=if h:0<q then(p/q)::e0 q (p%q)else []
termination_by q.toNat
decreasing_by
 have:=fR p h
 have:=fp p (Int.ne_of_gt h)
 omega
theorem lF{p q:Int}(h:0<q):e0 p q=(p/q)::e0 q (p%q):=by rw[e0,dif_pos h]
theorem nY(p:Int):e0 p 0=[]:=by rw[e0,dif_neg (by decide)]
theorem CM(i:Int):dh.Int.intBits i=bp i.natAbs:=by
 unfold dh.Int.intBits bp
 by_cases h:i=0
 .subst h;rfl
 .rw[if_neg (by simpa using h),if_neg (by omega)]
theorem SH{i:Int}(h:i.natAbs<2^k):dh.Int.intBits i<=k:=by rw[CM];exact jm h
theorem RN{p q:Int}{B:Nat}(h:0<q)(hs:(p/q).natAbs<2^B):dh.Int.intBits p<=dh.Int.intBits q+(B+1):=by
 rw[CM,CM]
 refine jm ?_
 have e:=Int.mul_ediv_add_emod p q
 have ip:=fp p (Int.ne_of_gt h)
 have b5:=fR p h
 have z:=Int.natAbs_add_le (q*(p/q)) (p%q)
 rw[e,Int.natAbs_mul]at z
 have aT:=rC q.natAbs
 have m:q.natAbs*(p/q).natAbs<=q.natAbs*2^B:=Nat.mul_le_mul_left _ (Nat.le_of_lt hs)
 rw[Nat.pow_add,Nat.pow_succ]
 have jr:q.natAbs*2^B<=2^bp q.natAbs*2^B:=Nat.mul_le_mul_right _ (Nat.le_of_lt aT)
 have ao:1<=2^B:=Nat.one_le_two_pow
 have Aa:2^bp q.natAbs*1<=2^bp q.natAbs*2^B:=Nat.mul_le_mul_left _ ao
 have eZ:2^bp q.natAbs*(2^B*2)=2^bp q.natAbs*2^B+2^bp q.natAbs*2^B:=by rw[<-Nat.mul_assoc,Nat.mul_two]
 omega
end fQ
end
variable {elts:List cq}
section
namespace cM
open PySem PySem.W PySem.Spec PyProof.Rows
section
variable {X:bj} {aj:List (ah×bo)} {ae:St} {H:ar} {s:aJ} {h':bb}
theorem Inv.MC(aa:Inv X aj ae H s)(k:∀b u,b∉ch->s.heap.get? b=J u->h'.get? b=J u)(aQ:∀b∈ch,oX X aj H b)(bz:s.heap.objs.size<=a)(new:gY X.prog X.w (upd H a o) h' a o):
  Inv X aj ae (upd H a o) {s with heap:=h',toks:=t'}:=by
 have bf:=aa.aU.fresh bz
 have nA:∀b u,H b=J u->b∉ch:=fun b u e z=>by have:=(aQ b z).1;rw[this]at e;cases e
 have ne:∀b u,s.heap.get? b=J u->b≠a:=fun b u e z=>by subst z;exact absurd (ez (en e) bz) (Nat.lt_irrefl _)
 refine aa.step (g':=s.gens) (d':=s.drawn) (ch:=ch) (fun b ao=>?_) (fun b o _ _ hc e _=>k b o hc e) (fun b o _ _ hc e _=>⟨o.slots,k b o hc e⟩) (fun b u _ e n=>by rw[cn (ne b u e)];exact n)
  (fun b o hc e=>⟨o,k b o hc e⟩) (fun b xs e=>by rw[cn (gv e bf)];exact e) (fun b u v e=>by rw[cn (gv e bf)];exact e) (fun b aI e=>⟨#[],by rw[cn (gv e bf),e];simp⟩) (fun m hm=>?_) (fun b u e=>?_) aa.bare
 ·obtain⟨f0,f1,f2,hh,f4,hv⟩:=aQ b ao
  exact⟨hh,f1,f4,hv⟩
 ·obtain⟨dD,aV,fK,aD,r⟩:=hm
  exact⟨dD,aV,fK,k _ dD (fun z=>(aQ _ z).2.1 I) aD,r⟩
 ·by_cases ao:b=a
  .subst ao;rw[aP]at e;cases e;exact new
  ·rw[cn ao]at e
   refine(aa.aU b u e).nG (fun c v hc q=>k c v ?_ q) (fun c q=>by rw[cn (gv q bf)];exact q) fun c xs q=>by rw[cn (gv q bf)];exact q
   rcases hc with z|z
   .rw[z];exact nA b u e
   .exact nA c _ z
theorem Inv.MB(aa:Inv X aj ae H s)(k:∀b u,b∉ch->s.heap.get? b=J u->h'.get? b=J u)(aQ:∀b∈ch,oX X aj H b):Inv X aj ae H {s with heap:=h',toks:=t'}:=by
 have nA:∀b u,H b=J u->b∉ch:=fun b u e z=>by have:=(aQ b z).1;rw[this]at e;cases e
 refine aa.step (g':=s.gens) (d':=s.drawn) (ch:=ch) (fun b ao=>?_) (fun b o _ _ hc e _=>k b o hc e) (fun b o _ _ hc e _=>⟨o.slots,k b o hc e⟩) (fun _ _ _ _ n=>n)
  (fun b o hc e=>⟨o,k b o hc e⟩) (fun _ _ e=>e) (fun _ _ _ e=>e) (fun b aI e=>⟨#[],by rw[e];simp⟩) (fun m hm=>?_) (fun b u e=>?_) aa.bare
 ·obtain⟨f0,f1,f2,hh,f4,hv⟩:=aQ b ao
  exact⟨hh,f1,f4,hv⟩
 ·obtain⟨dD,aV,fK,aD,r⟩:=hm
  exact⟨dD,aV,fK,k _ dD (fun z=>(aQ _ z).2.1 I) aD,r⟩
 ·refine(aa.aU b u e).nG (fun c v hc q=>k c v ?_ q) (fun _ q=>q) fun _ _ q=>q
  rcases hc with z|z
  .rw[z];exact nA b u e
  .exact nA c _ z
end
noncomputable def rb(K:bH)(a:ah)(xs:List V):jW :=
 ⟨fun i H=>dr K H a xs/\i<xs.length,fun i H x ai=>∃(T:ah)(y:V),H T=aw/\xs[i]?=J y/\x=.ref T/\ai=upd H T (.tup [.int (i:Nat),y]),fun i H=>dr K H a xs/\xs.length<=i⟩
theorem QF(a e it:ah)(xs:List V)(aq:e≠it)(az:a≠e)(bE:a≠it):
  Turn P w K (.Tuple elts k aX) (rb K a xs) [e,it] e (fun i h=>i<=xs.length/\(∃old,IsEnum h e it (i:Nat) old)/\h.IsListIter it a i) where
 mem:=by simp
 obj:=fun i h st b ao=>by
  obtain⟨_,⟨old,lj⟩,jv⟩:=st
  rcases dy.mp ao with z|z
  ·subst z
   exact⟨_,lj,fun v z=>by cases z⟩
  ·obtain rfl:=hq.mp z
   obtain⟨o,e,c,d⟩:=jv
   exact⟨o,e,fun v z=>by rw[d]at z;cases z⟩
 keep:=fun i h h' st k=>by
  obtain⟨aE,⟨old,lj⟩,jv⟩:=st
  exact⟨aE,⟨old,k e (by simp) _ lj⟩,jv.at fun o e=>k it (by simp) o e⟩
 item:=by
  intro X c7 hw gN hc i aj s ae H E aa aQ st aN
  subst c7 hw gN
  obtain⟨aT,aE⟩:=aN
  obtain⟨aW,dG,p,bw⟩:=aa.list aT
  have cG:=dG.length
  have W:=WalksT.enumerate (prog:=X.prog) (w:=X.w) (aa.ok.hd hc) e it a aq az bE aW.toArray
  refine W.item i s _ _ (by rw[eV];omega) ⟨st.2.1,st.2.2,p.isList⟩ fun T vals h' c0 bS cF Wt mid er=>?_
  refine⟨_,I,W.go elts k aX i T _ _ _ mid fun JG jc KA=>?_⟩
  obtain⟨t,u,dZ,rfl⟩:=bS
  have Wu:aW[i]?=J u:=by simpa using dZ
  have bF:xs[i]?=J (xs[i]'aE):=cV aE
  obtain⟨dR,r8,fO⟩:=dG.get bF
  rw[Wu]at r8;cases r8
  have Ea:=aa.aU.fresh cF
  have jO:T∉[e,it]:=W.apart i T h' mid
  refine⟨.ref T,upd H T (.tup [.int (i:Nat),xs[i]'aE]),?_,I,⟨T,_,Ea,bF,I,I⟩,⟨by omega,jc.1,jc.2.1⟩,fun b ao=>?_⟩
  ·refine aa.MC (ch:=[e,it]) (t':=c0) (fun b o ao fi=>KA b o ao (er b o ao fi)) aQ cF ?_
   refine⟨by show 2<=bW;decide,[al.int (i:Nat) t,u],.cons ⟨t,rfl⟩ (.cons fO .nil),?_⟩
   obtain⟨o,aD,r⟩:=Wt
   exact⟨o,KA T o jO aD,r⟩
  ·have:=(aQ b ao).1
   rw[cn]
   .exact this
   .intro z;subst z;exact jO ao
 done:=by
  intro X c7 hw gN hc i aj s ae H E aa aQ st aN
  subst c7 hw gN
  obtain⟨aT,aE⟩:=aN
  obtain⟨aW,dG,p,bw⟩:=aa.list aT
  have cG:=dG.length
  have W:=WalksT.enumerate (prog:=X.prog) (w:=X.w) (aa.ok.hd hc) e it a aq az bE aW.toArray
  have gn:i=aW.toArray.size:=by rw[eV];have:=st.1;omega
  subst gn
  exact W.done s _ _ ⟨st.2.1,st.2.2,p.isList⟩ fun h' c0 er=>⟨I,aa.MB (t':=c0) er aQ⟩
 self:=fun A i s Q E st h=>by
  obtain⟨_,⟨old,lj⟩,_⟩:=st
  exact wpAny_pyIter_enum lj h
section
variable {X:bj}
def WM(K:bH)(fj:TE):dW:=fun ae H R=>fj ae H fun x H1=>∃a xs,x=.ref a/\dr K H1 a xs/\R (rb K a xs) H1
theorem Sd{p:Pos}(aN:iI X "enumerate")(hm:X.mg "enumerate"=aw)(aH:b6 X l fj)(hs:dN [l] X.env=[(ay,eval l X.env)]:=by rfl):iJ X (.Tuple elts k u6) (.Call (.Name "enumerate" p) [l] [] aX) (WM X.K fj):=by
 intro aj s ae H R aa h
 have bz:ib X [l] _:=ak aH aB (hs:=hs.trans rfl)
 refine Call_ (pd aa aN hm boot_enumerate (callWith_type1 (cO (bz aX aj s ae H (fun vs H1=>∃x,vs=[x]/\∃a xs,x=.ref a/\dr X.K H1 a xs/\R (rb X.K a xs) H1) aa ?_) fun us s1 ⟨vs,H1,bc,b5,cA⟩=>?_) (by rw[hs];rfl) I))
 ·have h':fj ae H fun x H1=>∃a xs,x=.ref a/\dr X.K H1 a xs/\R (rb X.K a xs) H1:=h
  show fj ae H fun x H1=>∃y,[x]=[y]/\_
  exact cast (congrArg (fj ae H) (funext fun x=>funext fun H1=>propext ⟨fun q=>⟨x,I,q⟩,fun⟨y,e,q⟩=>by cases e;exact q⟩)) h'
 ·obtain⟨x,rfl,a,xs,rfl,aT,q⟩:=cA
  obtain⟨u,rfl,fO⟩:=vals1 b5
  obtain rfl:u=al.ref a:=fO
  obtain⟨aW,dG,pl,bw⟩:=bc.list aT
  have iF:a<s1.heap.objs.size:=by obtain⟨o,aD,_⟩:=pl.isList;exact en aD
  refine call_enumerate_list pl.isList fun h' he aE iG er=>?_
  have bM:Inv X aj ae H1 {s1 with heap:=h'}:=bc.kept (t':=s1.toks) er
  refine wpAny_pyIter_enum he ?_
  refine⟨_,[s1.heap.objs.size+1,s1.heap.objs.size],_,_,H1,I,bM,QF a _ _ xs (Nat.succ_ne_self _) (fE (Nat.lt_succ_of_lt iF)) (fE iF),⟨UF _,⟨_,he⟩,aE⟩,fun b ao=>?_,q⟩
  rcases dy.mp ao with z|z
  .subst z;exact bc.pq (by omega) (bc.aU.fresh (by omega))
  ·obtain rfl:=hq.mp z
   exact bc.pq (cQ _) (bc.aU.fresh (cQ _))
theorem RI{D:Ends}(Pv:Nat->St->ar->Prop)(bt:Pv 0 ae H)(aH:∀i ae H,i<=xs.length->Pv i ae H->dr K H a xs)
  (hs:∀i x ae H T,xs[i]?=J x->H T=aw->Pv i ae H->g (.ref T) ae (upd H T (.tup [.int (i:Nat),x])) fun bI ax=>de {D with nx:=Pv (i+1),ct:=Pv (i+1),bk:=D.nx} bI ax) (hd:∀ae H,Pv xs.length ae H->D.nx ae H) :
  ∃W:Nat->Nat->St->ar->Prop,(∃m,W 0 m ae H)/\∀i m ae H,W i m ae H->
   ((rb K a xs).stop i H/\D.nx ae H)\/((rb K a xs).go i H/\∃N:St->ar->Prop,(∀bU ai,N bU ai->∃cv,cv<m/\W (i+1) cv bU ai)/\∀x ai,(rb K a xs).p3 i H x ai->g x ae ai fun bI ax=>de {D with nx:=N,ct:=N,bk:=D.nx} bI ax):=by
 refine⟨fun i m ae H=>i<=xs.length/\m=xs.length-i/\Pv i ae H,⟨xs.length,UF _,I,bt⟩,?_⟩
 rintro i m ae H ⟨aq,rfl,az⟩
 rcases jC i xs.length with z|z
 ·refine .inr ⟨⟨aH i ae H aq az,z⟩,Pv (i+1),fun bU ai q=>⟨xs.length-(i+1),by omega,by omega,rfl,q⟩,?_⟩
  rintro x ai ⟨T,y,cF,bF,rfl,rfl⟩
  exact hs i y ae H T bF cF az
 ·have e:i=xs.length:=by omega
  subst e
  exact .inl ⟨⟨aH _ ae H (cQ _) az,cQ _⟩,hd ae H az⟩
end
end cM
end
section
namespace fQ
open PySem cM
noncomputable def more:List Int->List Bool
 |[]=>[ay]
 |b::r=>au::(cnt (b-1).toNat++more r).map (!·)
noncomputable def ue:List Int->List Bool
 |[]=>[]
 |a::r=>jR a++more r
noncomputable def odd(k:Nat):Bool:=decide (k%2=1)
theorem Rx(k:Nat):odd (k+1)=!odd k:=by
 unfold odd
 have h:k%2=0\/k%2=1:=by omega
 rcases h with h|h
 ·have:(k+1)%2=1:=by omega
  simp[h,this]
 ·have:(k+1)%2=0:=by omega
  simp[h,this]
noncomputable def hz(k:Nat)(x:Int)(last:Bool):List Bool:=((if k=0 then jR x else cnt (x-1).toNat)++[!last]).map (xor (odd k))
noncomputable def gC:Nat->List Int->List (List Bool)
 |_,[]=>[]
 |k,x::r=>hz k x r.isEmpty::gC (k+1) r
theorem Cn(k:Nat)(s:List Int):(gC k s).length=s.length:=by
 induction s generalizing k with
 |nil=>rfl
 |cons x r cp=>simp only[gC,ep,cp]
theorem IM{s:List Int}{x:Int}(h:s[i]?=J x):(gC k s)[i]?=J (hz (k+i) x (decide (i+1=s.length))):=by
 induction s generalizing k i with
 |nil=>cases h
 | cons y r cp =>
  cases i with
  |zero =>
   cases h
   show J (hz k x r.isEmpty)=_
   congr 2
   cases r<;>simp
  |succ i =>
   have h':r[i]?=J x:=h
   have:=cp (k:=k+1) h'
   show(gC (k+1) r)[i]?=_
   rw[this]
   congr 2
   .omega
   .simp
theorem Ri(l:List Bool)(t:Bool):(l.map (!·)).map (xor t)=l.map (xor (!t)):=by
 rw[i2]
 exact o5 fun b _=>by cases t<;>cases b<;>rfl
theorem Rv(hk:k≠0)(b:Int)(r:List Int):(gC k (b::r)).flatten=(cnt (b-1).toNat++more r).map (xor (odd k)):=by
 induction r generalizing k b with
 |nil =>
  show(hz k b au++[])=_
  rw[List.append_nil]
  unfold hz
  rw[if_neg hk];rfl
 |cons c r cp =>
  show hz k b ay++(gC (k+1) (c::r)).flatten=_
  rw[cp (by omega) c]
  unfold hz
  rw[if_neg hk,Rx,more,<-Ri,<-ie,rp];rfl
theorem Si(a:Int)(r:List Int):(gC 0 (a::r)).flatten=ue (a::r):=by
 have eI:∀l:List Bool,l.map (xor (odd 0))=l:=fun l=>vU l
 cases r with
 |nil =>
  show(hz 0 a au++[])=_
  rw[List.append_nil]
  unfold hz
  rw[if_pos rfl,eI];rfl
 |cons b r =>
  show hz 0 a ay++(gC 1 (b::r)).flatten=_
  rw[Rv (by decide)]
  unfold hz
  rw[if_pos rfl,eI]
  show _=jR a++(au::(cnt (b-1).toNat++more r).map (!·))
  rw[rp]
  congr 1
  show au::List.map (xor (odd 1)) _=au::_
  congr 1
  exact o5 fun b _=>by cases b<;>rfl
noncomputable def dX(p q:Int):Int:=if h:0<q then dX q (p%q)else p
termination_by q.toNat
decreasing_by
 have:=fR p h
 have:=fp p (Int.ne_of_gt h)
 omega
theorem wa{p q:Int}(h:0<q):dX p q=dX q (p%q):=by rw[dX,dif_pos h]
theorem tZ(p:Int):dX p 0=p:=by rw[dX,dif_neg (by decide)]
end fQ
end
section
namespace cM
open PySem PySem.W PySem.Spec PyProof.Rows
theorem th{Q:bP}{D:ah}(i5:Nat->V)(S:St->Prop)(bw:xs.length<=bW)(bt:S fk)(dz:H D=aw)(aH:dr K H a xs)
  (aO:∀i x,xs[i]?=J x->∀bV H1,S bV->dJ H H1->∀R:St->V->ar->Prop,(∀bI,S bI->R bI (i5 i) H1)->g x bV H1 fun bI ax=>cH bI ax fun y bL=>R bI y bL)
  (aT:Q (.ref D) (upd H D (.lst ((List.range xs.length).map i5)))) :
  mP (oY K a) g qU cH Q fk H D:=by
 refine⟨fun i m bV ax=>i<=xs.length/\m=xs.length-i/\S bV/\ax=upd H D (.lst ((List.range i).map i5)),⟨xs.length,UF _,I,bt,I⟩,?_⟩
 rintro i m bV ax ⟨aq,rfl,az,rfl⟩
 have f7:=(c3 (o :=.lst ((List.range i).map i5)) dz).seq aH
 rcases jC i xs.length with z|z
 ·refine .inr ⟨⟨xs,xs[i],f7,cV z⟩,?_⟩
  rintro x bL ⟨rfl,av⟩
  have av:=av xs f7
  refine aO i x av bV _ az (c3 dz) (fun bI y e1=>∃aM cv,e1 D=J (.lst aM)/\aM.length<bW/\cv<xs.length-i/\(i+1<=xs.length/\cv=xs.length-(i+1)/\S bI/\upd e1 D (.lst (aM++[y]))=upd H D (.lst ((List.range (i+1)).map i5)))) fun bI fx=>?_
  refine⟨_,xs.length-(i+1),aP,by rw[cI,kl];omega,by omega,by omega,rfl,fx,?_⟩
  rw[kn,List.range_succ,ie];rfl
 ·have e:i=xs.length:=by omega
  subst e
  exact .inl ⟨⟨xs,f7,cQ _⟩,aT⟩
end cM
end
section
namespace fQ
open PySem cM
noncomputable def mp:List Int->List Bool
 |[]=>[]
 |b::r=>au::(cnt (b-1).toNat++mp r).map (!·)
def Lt(a b:List Bool):Prop:=(bR a).cps.toList<(bR b).cps.toList
noncomputable instance (a b:List Bool):Decidable (Lt a b):=inferInstanceAs (Decidable (_<_))
noncomputable def zl:List Bool->List Bool->Nat
 |x::a,y::b=>if x=y then zl a b+1 else 0
 |_,_=>0
end fQ
end
section
namespace cM
open PySem PySem.W PySem.Spec PyProof.Rows
section
variable {X:bj}
end
end cM
end
section
namespace fQ
open PySem cM
noncomputable def ent(a r:List Bool):List Bool:=cnt (zl a r)++cnt (r.length-zl a r)++r.drop (zl a r)
noncomputable def ents:List Bool->List (List Bool)->List Bool
 |_,[]=>[]
 |a,r::rs=>ent a r++ents r rs
noncomputable def acA(rs:List (List Bool)):List Bool:=cnt rs.length++ents [] rs
end fQ
end
section
namespace cM
open PySem PySem.W PySem.Spec PyProof.Rows
section
variable {X:bj}
end
end cM
end
section
namespace fQ
open PySem cM
end fQ
namespace cM
open PySem PySem.W PySem.Spec PyProof.Rows
section
variable {X:bj}
end
end cM
end
section
namespace fQ
open PySem cM
end fQ
end
section
namespace cM
open PySem PySem.W PySem.Spec PyProof.Rows
end cM
end
section
namespace fQ
open PySem
end fQ
end
section
namespace cM
open PySem PySem.Spec
section
variable {w:cD} {aV zy:Array (Int×al)} {t t':SetTable} {xf:List af}
end
section
variable {prog:cW} {w:cD} {A:c1} {E:al->aJ->Prop} {s:aJ} {a:ah} {aV:Array (Int×al)} {fK:Nat} {t:SetTable} {xf:List af}
end
section
variable {prog:cW} {w:cD} {A:c1} {E:al->aJ->Prop} {s:aJ} {a:ah} {aV:Array (Int×al)} {fK:Nat} {t:SetTable} {xf:List af}
end
section
variable {prog:cW} {w:cD} {A:c1} {E:al->aJ->Prop} {s:aJ} {a aa p:ah} {aV:Array (Int×al)} {fK:Nat} {t:SetTable} {xf:List af}
end
end cM
end
section
namespace cM
open PySem PySem.Spec PyProof.Rows
section
variable {prog:cW} {w:cD} {A:c1} {E:al->aJ->Prop} {s:aJ} {a:ah} {aV:Array (Int×al)} {fK:Nat} {t:SetTable} {xf:List af}
end
end cM
end
section
namespace cM
open PySem PySem.W PySem.Spec PyProof.Rows
theorem vG{Q:bP}{D:ah}(keep:Nat->Bool)(f:Nat->V)(S:St->Prop)(bf:n<=100000)(bt:S fk)(dz:H D=aw)
  (aO:∀i:Nat,i<n->∀bV H1,S bV->dJ H H1->∀(R:St->V->ar->Prop)(jZ:St->ar->Prop),(∀bI,S bI->if keep i=au then R bI (f i) H1 else jZ bI H1)->g (.int (lo+(i:Int))) bV H1 fun bI ax=>gb bI ax fun b bL=>if b=au then cH bI bL fun y hO=>R bI y hO else jZ bI bL)
  (aT:Q (.ref D) (upd H D (.lst (((List.range n).filter keep).map f)))) :
  mP (rd lo n) g gb cH Q fk H D:=by
 refine⟨fun i m bV ax=>i<=n/\m=n-i/\S bV/\ax=upd H D (.lst (((List.range i).filter keep).map f)),⟨n,UF _,I,bt,I⟩,?_⟩
 rintro i m bV ax ⟨aq,rfl,az,rfl⟩
 rcases jC i n with z|z
 ·refine .inr ⟨z,?_⟩
  rintro x bL ⟨rfl,rfl⟩
  refine aO i z bV _ az (c3 dz) (fun bI y e1=>∃aM cv,e1 D=J (.lst aM)/\aM.length<bW/\cv<n-i/\(i+1<=n/\cv=n-(i+1)/\S bI/\upd e1 D (.lst (aM++[y]))=upd H D (.lst (((List.range (i+1)).filter keep).map f))))
   (fun bI ew=>∃cv,cv<n-i/\(i+1<=n/\cv=n-(i+1)/\S bI/\ew=upd H D (.lst (((List.range (i+1)).filter keep).map f)))) fun bI fx=>?_
  by_cases hk:keep i=au
  ·rw[if_pos hk]
   refine⟨_,n-(i+1),aP,?_,by omega,by omega,rfl,fx,?_⟩
   ·rw[cI]
    have:=List.length_filter_le keep (List.range i)
    rw[kl]at this
    exact Nat.lt_of_le_of_lt this (ez (show i<100000 by omega) (by decide))
   .rw[kn,List.range_succ,List.filter_append,ie,List.filter_cons_of_pos hk];rfl
  ·rw[if_neg hk]
   refine⟨n-(i+1),by omega,by omega,rfl,fx,?_⟩
   rw[List.range_succ,List.filter_append,ie,List.filter_cons_of_neg hk];simp
 ·have e:i=n:=by omega
  subst e
  exact .inl ⟨cQ _,aT⟩
section
variable {X:bj} {e hX abQ aV:cq} {cH fj oM iT:TE} {cm aX:Pos}
end
structure kJ(K:bH)(C:ah):Prop where
 makes:xV K C=au
 init:gc K (.ref C) "__init__"=J (J (.builtin "object.__init__"))
 ik:oO K (.ref C)=au
section
variable {X:bj} {C:ah} {x:af} {p aX:Pos}
theorem QK{Q:bP}(M:kJ X.K C)(aa:Inv X aj ae H s)(h:∀x aG,H x=aw->H aG=aw->aG≠x->Q (.ref x) (upd (upd H aG (.own x)) x (.ins C aG []))):
  bK (model X.prog X.w) X.A (call (.ref C) []) (hN X aj ae Q) X.xe s:=by
 have aT:=h (s.heap.objs.size+1) s.heap.objs.size (aa.aU.fresh (Nat.le_succ _)) (aa.aU.fresh (cQ _)) (fE (Nat.lt_succ_self _))
 have bM:=Inv.made (C:=C) aa
 have Y:=makes_of (M:=model X.prog X.w) aa.gp M.makes
 refine xX (QW aa.gp M.makes M.init (fun self=>Looks.of_pure (oi_bind self)) ?_)
 have bg:((s.heap.push l5).push (l6 C s.heap.objs.size)).get? (s.heap.objs.size+1)=J (l6 C s.heap.objs.size):=by
  have:=gZ (s.heap.push l5) (o:=l6 C s.heap.objs.size) rfl
  rwa [bb.size_push]at this
 have t1:Looks (model X.prog X.w) ((s.heap.push l5).push (l6 C s.heap.objs.size)) (typeOf (.ref (s.heap.objs.size+1))) (.ref C):=(Looks.ld bg).andThen .now
 have gi:Looks (model X.prog X.w) ((s.heap.push l5).push (l6 C s.heap.objs.size)) (isInstance (.ref (s.heap.objs.size+1)) (.type "object")) au:=t1.andThen (Y.top.keeps fun b o e=>fF _ (fF _ e))
 obtain⟨dM,g,d,t,os⟩:=s
 refine Gb oi_plain entry_oi (@check_slot (model X.prog X.w) _ _ _ "object.__init__" "object" "__init__" (.ref (dM.objs.size+1)) [] [] _ oi_kind oi_split gi (oi_args (.ref (dM.objs.size+1))) ?_)
 rw[oi_run]
 exact eF (And.intro I ⟨V.ref (dM.objs.size+1),_,bM,I,aT⟩)
def Z9(C:ah):TE:=fun _ H Q=>∀x aG,H x=aw->H aG=aw->aG≠x->Q (.ref x) (upd (upd H aG (.own x)) x (.ins C aG []))
theorem yY(M:kJ X.K C)(aN:iI X x)(hm:X.mg x=J (.ref C))(jK:(x == ("__debug__":af))=ay:=by decide):b6 X (.Call (.Name x p) [] [] aX) (Z9 C):=by
 intro aj s ae H Q aa h
 refine sT (tY aa aN hm ?_ jK)
 exact PySem.W.callWith_K0 aa.gp M.ik (QK M aa h)
theorem SE(a b:af)(t u:Tok):MeetsSeq.EqGives (.str a t) (.str b u) (decide (a=b)):=by
 intro prog w A Q E s h
 exact wpAny_eqBool_str h
end
end cM
end
section
namespace cM
open PySem PySem.Spec PyProof.Rows
end cM
end
variable {val:Nat->af} {items:Array al}
section
namespace cM
open PySem PySem.Spec
noncomputable def f9(val:Nat->af):Nat->List af
 |0=>[]
 |i+1=>if val i∈f9 val i then f9 val i else f9 val i++[val i]
theorem v3(val:Nat->af):∀i,(f9 val i).length<=i
 |0=>cQ _
 |i+1=>by
  have cp:=v3 val i
  unfold f9
  split
  .omega
  .rw[eU,i1];omega
theorem Ac(val:Nat->af)(i:Nat)(k:af):(decide (k∈f9 val i)||decide (k=val i))=decide (k∈f9 val (i+1)):=by
 conv=>rhs;unfold f9
 by_cases h:val i∈f9 val i
 ·rw[if_pos h]
  by_cases e:k=val i
  .subst e;simp[h]
  .simp[e]
 ·rw[if_neg h]
  by_cases e:k=val i<;>simp[e]
theorem RB(val:Nat->af)(i:Nat):(if decide (val i∈f9 val i)=au then(f9 val i).length else(f9 val i).length+1)=(f9 val (i+1)).length:=by
 conv=>rhs;unfold f9
 by_cases h:val i∈f9 val i
 .rw[if_pos h,if_pos (eY h)]
 .rw[if_neg h,if_neg (by simpa using h),eU];rfl
section
variable {prog:cW} {w:cD} {A:c1} {R:Result->aJ->Prop} {aa:ah} {bX wr:List ah} {G:Array GenState->Array GenState->Prop} {n:Nat} {Pv:Nat->al->Prop} {St:Nat->aJ->Prop}
abbrev m3(prog:cW)(w:cD)(h:bb)(S:ah)(val:Nat->af)(i:Nat):Prop:=h.SetOf (PySem.strKind prog w) S (fun k=>decide (k∈f9 val i)) (f9 val i).length
theorem m3.keep{S:ah}(t:m3 prog w h S val i)(k:∀o,h.get? S=J o->h'.get? S=J o):m3 prog w h' S val i:=by
 obtain⟨o,aV,fK,de,aD,rest⟩:=t
 exact⟨o,aV,fK,de,k o aD,rest⟩
theorem HC(W:WalksS prog w A.in1 aa bX wr G n Pv St)(S:ah)(uj:S∉bX)(val:Nat->af)(z1:∀i v,Pv i v->∃t,v=.str (val i) t)(ao:n+1<scanBound):
  ∀(m i:Nat)(s:aJ),n-i=m->i<=n->St i s->m3 prog w s.heap S val i->(∀aR,Moved (S::wr) G s aR->m3 prog w aR.heap S val n->R (.ok (.ret .none)) aR)->
   lu (model prog w) A (.builtin "set.update.loop" ⟨[.ref S,.ref aa],[]⟩) R s:=by
 have JN:S∉wr:=fun h=>uj (W.sub _ h)
 have up:∀b∈wr,b∈S::wr:=fun b h=>eo _ h
 intro m
 induction m with
 |zero =>
  intro i s hm aE st cF cf
  obtain rfl:i=n:=by omega
  refine codeAny_builtin PyProof.Rows.F.entry_set_update_loop ?_
  rw[c1.under_plainId PyProof.Rows.F.plain_set_update_loop _]
  refine bQ (m:=pyNext (.ref aa)) (W.done s _ _ st fun aR oB=>?_)
  exact eF (cf aR (oB.mono up) (cF.keep fun o e=>oB.heap S _ JN e))
 | succ m cp =>
  intro i s hm aE st cF cf
  have iF:i<n:=by omega
  refine codeAny_builtin PyProof.Rows.F.entry_set_update_loop ?_
  rw[c1.under_plainId PyProof.Rows.F.plain_set_update_loop _]
  refine bQ (m:=pyNext (.ref aa)) (W.item i s _ _ iF st fun v aR c7 jc oB=>?_)
  obtain⟨t,rfl⟩:=z1 i v c7
  have um:m3 prog w aR.heap S val i:=cF.keep fun o e=>oB.heap S _ JN e
  have J6:(PySem.strKind prog w).is (val i) (.str (val i) t)=au:=by simp[PySem.strKind,al.isStrOf]
  refine bQ (m:=holding [al.str (val i) t] (setAdd S (.str (val i) t))) (wpAny_holding ?_)
  unfold setAdd
  refine wpAny_holding (bQ ((PySem.strKind prog w).pyHash (k:=val i) J6 ?_))
  have room:(f9 val i).length+1<scanBound:=by have:=v3 val i;omega
  refine wpAny_setAddHashed_of (knd:=PySem.strKind prog w) (s:={aR with toks:=aR.toks+1}) J6 I um room fun h' mE Vd=>?_
  have zP:m3 prog w h' S val (i+1):=PyProof.Rows.SetOf_congr Vd (fun k=>Ac val i k) (RB val i)
  refine eF ⟨plainId_quiet PyProof.Rows.F.plain_set_update_loop _,cp (i+1) _ (by omega) iF (W.frame _ aR _ _ jc (Nat.le_succ _) fun b rV o e=>?_) zP fun nF Xy D9=>?_⟩
  .rw[mE.2 b fun z:b=S=>uj (z ▸ rV)];exact e
  ·refine cf nF (Moved.trans W.gtrans ((oB.mono up).then_heap (Nat.le_succ _) fun b o Vp e=>?_) Xy) D9
   rw[mE.2 b fun z:b=S=>Vp (by rw[z];exact gU)];exact e
end
section
variable {prog:cW} {w:cD} {A:c1} {E:al->aJ->Prop} {s:aJ}
noncomputable abbrev jP(led:Bool):bo:={cls :=.type "set",dict:=aw,data :=.set #[] 0 (.fresh 0 0 led)}
abbrev Aw(prog:cW)(w:cD)(s:aJ)(val:Nat->af)(n:Nat)(r:al)(mG:aJ):Prop:=r=.none/\∃h' c0,mG={s with heap:=h',toks:=c0}/\m3 prog w h' s.heap.objs.size val n/\∀b o,b<s.heap.objs.size->s.heap.get? b=J o->h'.get? b=J o
def vD(prog:cW)(w:cD)(A:c1)(E:al->aJ->Prop)(s:aJ)(x:al)(val:Nat->af)(n:Nat)(led:Bool):Prop :=
 bK (model prog w) A.in1.in1 (dh.«set.__init__» ⟨[.ref s.heap.objs.size,x],[]⟩) (fun aZ aR=>match aZ with
   |Fin.done f=>wants (Aw prog w s val n) E (Except.ok f) aR
   |Fin.again gw=>gw.quiet=au/\lu (model prog w) A.in1 gw (wants (Aw prog w s val n) E) aR)
  (fun e aR=>wants (Aw prog w s val n) E (Except.error e) aR) {s with heap:=s.heap.push (jP led)}
set_option maxHeartbeats 3200000 in
theorem Hq{x:al}
  (g9:∀led:Bool,vD prog w A E s x val n led)
  (h:∀h' c0,m3 prog w h' s.heap.objs.size val n->(∀b o,b<s.heap.objs.size->s.heap.get? b=J o->h'.get? b=J o)->Q (.ref s.heap.objs.size) {s with heap:=h',toks:=c0}) :
  bK (model prog w) A (call (.type "set") [x]) Q E s:=by
 obtain⟨c,fj,aci⟩:=F.called_set.mro
 have ach:=F.called_set.made
 have Wn:=F.called_set.sub
 refine xX (codeAny_of_tree ?_)
 show bK _ _ (callAny (.type "set") _) _ _ _
 refine eF ⟨Code.quiet_builtin _ (by decide+kernel),codeAny_builtin F.entry_type_call ?_⟩
 rw[c1.under_plain (weight_type_call_type "set" [x] []) rfl]
 have aq:=F.called_set.notType
 have az:=F.called_set.canCreate
 have ab8:=F.typeCall_set_1 x
 repeat (any_goals (first|assumption|wp_step))
 refine oQ (PySem.code_set_new_1 x (E:=E) (Q₁:=fun obj dQ=>∃led:Bool,obj=.ref s.heap.objs.size/\dQ={s with heap:=s.heap.push (jP led)}) fun led=>⟨led,I,I⟩) fun r dQ aF=>?_
 cases r with
 |error e=>exact aF
 | ok fT =>
  cases fT with
  | ret obj =>
   obtain⟨led,rfl,rfl⟩:=aF
   have fu:(s.heap.push (jP led)).get? s.heap.objs.size=J (jP led):=gZ _ rfl
   have cF:aJ.TypeIs {s with heap:=s.heap.push (jP led)} (.ref s.heap.objs.size) "set":=⟨_,fu,rfl⟩
   have ace:=F.called_set.init.lookup
   have ab5:=F.called_set.init.bind (.ref s.heap.objs.size)
   repeat (any_goals (first|assumption|wp_step))
   refine oQ (Gb (R:=wants (Aw prog w s val n) E) F.called_set.init.plain F.entry_set_init (PySem.check_set_init_1 cF ?_)) fun ZO mG EL=>?_
   .exact g9 led
   ·cases ZO with
    |error e=>exact EL
    | ok Ux =>
     cases Ux with
     |ret r =>
      obtain⟨rfl,h',c0,rfl,wH,hk'⟩:=EL
      repeat (any_goals (first|assumption|wp_step))
      exact h _ _ wH hk'
     |_=>exact EL.elim
  |_=>exact aF.elim
set_option maxHeartbeats 3200000 in
theorem Q1{l:ah}(dM:A.handled=aw)(aH:s.heap.IsList l items)(bS:∀(i:Nat)(v:al),items[i]?=J v->∃t,v=.str (val i) t)(ao:items.size+1<scanBound)(led:Bool):vD prog w A E s (.ref l) val items.size led:=by
 unfold vD
 obtain⟨ol,r5,pC,nl,wM⟩:=aH
 obtain⟨acy,XX,acz,X1⟩:=ol
 simp only at pC wM
 subst pC;subst wM
 have fu:(s.heap.push (jP led)).get? s.heap.objs.size=J (jP led):=gZ _ rfl
 have Wc:(s.heap.push (jP led)).get? l=J {cls :=.type "list",dict:=XX,data :=.seq items nl,slots:=X1}:=fF _ r5
 have Wm:=F.sub_list_set
 have Wl:=F.sub_list_frozenset
 have lQ:(al.type "list" == al.type "dict")=ay:=by decide
 have gz:(s.heap.push (jP led)).IsList l items:=⟨_,Wc,rfl,nl,rfl⟩
 unfold dh.«set.__init__» noKeywords dh.Frozenset.updateFrom
 generalize D8:pyIter=iJ
 wp_walk
 subst D8
 refine wpAny_pyIter_list gz ?_
 refine bQ (wpAny_runValue ?_)
 have Kb:l<s.heap.objs.size:=en r5
 have Er:A.in1.in1.in1.handled=aw:=by simp[dM]
 have iG:(s.heap.push (jP led)).objs.size=s.heap.objs.size+1:=bb.size_push ..
 have V5:l≠(s.heap.push (jP led)).objs.size:=by rw[iG];exact fE (Nat.lt_succ_of_lt Kb)
 have uj:s.heap.objs.size∉[(s.heap.push (jP led)).objs.size,l]:=fun z=>by
  rw[iG]at z
  rcases dy.mp z with y|y
  .exact absurd y (fE (Nat.lt_succ_self _))
  .exact absurd (hq.mp y) (Nat.ne_of_gt Kb)
 refine HC ((Walks.list Er _ l V5 items).toS) s.heap.objs.size uj val bS ao items.size 0 _ (by omega) (UF _) ⟨⟨_,gZ _ I,I,I⟩,gz.push _⟩ ?_ ?_
 .exact PyProof.Rows.SetOf_congr ((PyProof.Rows.setObjOf_fresh (knd:=PySem.strKind prog w) led).setOf (fF _ fu) (by unfold scanBound;omega)) (fun _=>I) I
 ·intro aR hm wH
  obtain⟨h',g',d',FU,xp⟩:=aR
  have mj:g'=s.gens:=hm.gens
  have Dt:d'=s.drawn:=hm.drawn
  have Dx:xp=s.os:=hm.os
  subst mj;subst Dt;subst Dx
  refine eF ?_
  refine eF (a:=Fin.done (Flow.ret al.none)) ⟨I,h',FU,I,wH,fun b o om e=>?_⟩
  refine hm.heap b o (fun z=>?_) (fF _ (fF _ e))
  rcases dy.mp z with y|y
  .exact absurd y (fE om)
  ·rcases dy.mp y with y|y
   .rw[iG]at y;exact absurd y (fE (Nat.lt_succ_of_lt om))
   .cases y
end
section
variable {prog:cW} {w:cD} {A:c1} {E:al->aJ->Prop} {s:aJ}
noncomputable def signsOf(x:af)(i:Nat):af:=⟨#[x.cps.getD i 0]⟩
set_option maxHeartbeats 3200000 in
theorem Q0{t:Tok}(dM:A.handled=aw)(ao:x.cps.size+1<scanBound)(led:Bool):vD prog w A E s (.str x t) (signsOf x) x.cps.size led:=by
 unfold vD
 have fu:(s.heap.push (jP led)).get? s.heap.objs.size=J (jP led):=gZ _ rfl
 have Wm:=F.sub_str_set
 have Wl:=F.sub_str_frozenset
 have lQ:(al.type "str" == al.type "dict")=ay:=by decide
 unfold dh.«set.__init__» noKeywords dh.Frozenset.updateFrom
 generalize D8:pyIter=iJ
 wp_walk
 subst D8
 have iG:(s.heap.push (jP led)).objs.size=s.heap.objs.size+1:=bb.size_push ..
 refine wpAny_pyIter_str (s:={s with heap:=s.heap.push (jP led)}) fun o St W ZY=>?_
 refine bQ (wpAny_runValue ?_)
 have Er:A.in1.in1.in1.handled=aw:=by simp[dM]
 have uj:s.heap.objs.size∉[(s.heap.push (jP led)).objs.size]:=fun z=>by
  rw[iG]at z
  exact absurd (hq.mp z) (fE (Nat.lt_succ_self _))
 refine HC ((W _ Er).toS) s.heap.objs.size uj (signsOf x) (fun i v bS=>?_) ao x.cps.size 0 _ (by omega) (UF _) ZY ?_ ?_
 ·obtain⟨c,u,hc,rfl⟩:=bS
  refine⟨u,?_⟩
  unfold signsOf
  rw[Array.getD_eq_getD_getElem?,hc];rfl
 .exact PyProof.Rows.SetOf_congr ((PyProof.Rows.setObjOf_fresh (knd:=PySem.strKind prog w) led).setOf (fF _ fu) (by unfold scanBound;omega)) (fun _=>I) I
 ·intro aR hm wH
  obtain⟨h',g',d',FU,xp⟩:=aR
  have mj:g'=s.gens:=hm.gens
  have Dt:d'=s.drawn:=hm.drawn
  have Dx:xp=s.os:=hm.os
  subst mj;subst Dt;subst Dx
  refine eF ?_
  refine eF (a:=Fin.done (Flow.ret al.none)) ⟨I,h',FU,I,wH,fun b eh om e=>?_⟩
  refine hm.heap b eh (fun z=>?_) (fF _ (fF _ e))
  rcases dy.mp z with y|y
  .exact absurd y (fE om)
  ·have y:=hq.mp y
   rw[iG]at y;exact absurd y (fE (Nat.lt_succ_of_lt om))
theorem Qw{S:ah}(cF:m3 prog w s.heap S val i)(h:Q (.int ((f9 val i).length:Nat) (s.toks+1)) {s with toks:=s.toks+1+1}):bK (model prog w) A (call (.builtin "len") [.ref S]) Q E s:=by
 obtain⟨o,aV,fK,t,aD,hex,hd,_,_,ao,aQ,bf⟩:=cF
 refine call_len_set aD hex hd aQ (by unfold scanBound at ao;omega) ?_
 rw[bf];exact h
end
section
variable {X:bj} {aX p cm Ap:Pos} {e:cq} {cH:TE}
def BP(K:bH)(H:ar)(x:V)(val:Nat->af)(n:Nat):Prop:=(∃a,x=.ref a/\dr K H a ((List.range n).map fun i=>V.str (val i)))\/(∃z,x=.str z/\n=z.cps.size/\val=signsOf z)
def Z8(K:bH)(cH:TE):TE:=fun ae H Q=>cH ae H fun x H1=>∃val n,BP K H1 x val n/\n+1<scanBound/\Q (.int ((f9 val n).length:Nat)) H1
theorem HH(gW:X.calm=au)(VH:iI X "len")(Kd:X.mg "len"=aw)(k4:iI X "set")(r1:X.mg "set"=aw)(he:b6 X e cH)
  (c9:dN [.Call (.Name "set" cm) [e] [] Ap] X.env=[(ay,eval (.Call (.Name "set" cm) [e] [] Ap) X.env)]:=by rfl) (c8:dN [e] X.env=[(ay,eval e X.env)]:=by rfl) :
  b6 X (.Call (.Name "len" p) [.Call (.Name "set" cm) [e] [] Ap] [] aX) (Z8 X.K cH):=by
 intro aj s ae H Q aa h
 refine sT (pd aa VH Kd d4 ?_ (by decide) (by decide))
 refine PyProof.Rows.callWith_builtin1 ?_ (c9.trans I) I
 rw[c9]
 show bK _ _ (spliced ((ay,eval (.Call (.Name "set" cm) [e] [] Ap) X.env)::[])) _ _ s
 refine Calls.spliced_cons (sT (pd aa k4 r1 (by decide+kernel:jf "set"=J (.type "set")) ?_ (by decide) (by decide)))
 refine PyProof.Rows.callWith_type1 ?_ (c8.trans I) I
 rw[c8]
 show bK _ _ (spliced ((ay,eval e X.env)::[])) _ _ s
 refine Calls.spliced_cons (cO (he aj s ae H _ aa h) fun u s1 bJ=>?_)
 obtain⟨x,H1,bc,b5,val,n,av,ao,q⟩:=bJ
 refine Calls.spliced_nil ?_
 have aZ:∀(h':bb)(c0:Nat),m3 X.prog X.w h' s1.heap.objs.size val n->(∀b o,b<s1.heap.objs.size->s1.heap.get? b=J o->h'.get? b=J o)->bK (model X.prog X.w) X.A (spliced []) (fun vs dQ=>bK (model X.prog X.w) X.A (call (.builtin "len") (.ref s1.heap.objs.size::vs)) (hN X aj ae Q) X.xe dQ) X.xe {s1 with heap:=h',toks:=c0}:=fun h' c0 cF hk=>by
  refine Calls.spliced_nil (Qw (s:={s1 with heap:=h',toks:=c0}) cF ?_)
  exact⟨.int _,H1,bc.kept (h':=h') (t':=c0+1+1) fun b o fi=>hk b o (en fi) fi,⟨_,I⟩,q⟩
 rcases av with⟨a,rfl,aT⟩|⟨z,rfl,rfl,rfl⟩
 ·obtain rfl:u=al.ref a:=b5
  obtain⟨aW,dG,pl,bw⟩:=bc.list aT
  have cG:=dG.length
  rw[cI,kl]at cG
  have iG:aW.toArray.size=n:=by rw[eV];omega
  refine Hq (fun led=>?_) aZ
  have aE:=Q1 (prog:=X.prog) (w:=X.w) (E:=X.xe) (val:=val) (bc.ok.hd gW) pl.isList (fun i v bS=>?_) (by rw[iG];exact ao) led
  .rw[iG]at aE;exact aE
  ·have nw:aW[i]?=J v:=by simpa using bS
   have VK:i<n:=by rw[cG];exact(lE.mp nw).1
   obtain⟨u,dZ,fO⟩:=dG.get (i:=i) (x :=.str (val i)) (by rw[gm,List.getElem?_range VK];rfl)
   rw[nw]at dZ;cases dZ
   exact fO
 ·obtain⟨t,rfl⟩:=b5
  exact Hq (fun led=>Q0 (bc.ok.hd gW) ao led) aZ
end
end cM
end
variable {t:ah} {v:cM.V} {d:Nat} {use:Option (al->Sem Unit)} {Qf:al->aJ->Prop}
section
namespace cM
open PySem PySem.W PySem.Spec PyProof.Rows
theorem HV{Q:bP}{D:ah}(keep:Nat->Bool)(f:Nat->V)(S:St->Prop)(bw:x.cps.size<=bW)(bt:S fk)(dz:H D=aw)
  (aO:∀c,c∈x.cps.toList->∀bV H1,S bV->dJ H H1->∀(R:St->V->ar->Prop)(jZ:St->ar->Prop),(∀bI,S bI->if keep c=au then R bI (f c) H1 else jZ bI H1)->g (.str ⟨#[c]⟩) bV H1 fun bI ax=>gb bI ax fun b bL=>if b=au then cH bI bL fun y hO=>R bI y hO else jZ bI bL)
  (aT:Q (.ref D) (upd H D (.lst ((x.cps.toList.filter keep).map f)))) :
  mP (tf x) g gb cH Q fk H D:=by
 have bf:x.cps.toList.length=x.cps.size:=hE
 refine⟨fun i m bV ax=>i<=x.cps.size/\m=x.cps.size-i/\S bV/\ax=upd H D (.lst (((x.cps.toList.take i).filter keep).map f)),⟨x.cps.size,UF _,I,bt,I⟩,?_⟩
 rintro i m bV ax ⟨aq,rfl,az,rfl⟩
 rcases jC i x.cps.size with z|z
 ·refine .inr ⟨z,?_⟩
  rintro y bL ⟨rfl,c,hc,rfl⟩
  have oo:x.cps.toList[i]?=J c:=by rw[Array.getElem?_toList];exact hc
  refine aO c (iL oo) bV _ az (c3 dz) (fun bI y e1=>∃aM cv,e1 D=J (.lst aM)/\aM.length<bW/\cv<x.cps.size-i/\(i+1<=x.cps.size/\cv=x.cps.size-(i+1)/\S bI/\upd e1 D (.lst (aM++[y]))=upd H D (.lst (((x.cps.toList.take (i+1)).filter keep).map f))))
   (fun bI ew=>∃cv,cv<x.cps.size-i/\(i+1<=x.cps.size/\cv=x.cps.size-(i+1)/\S bI/\ew=upd H D (.lst (((x.cps.toList.take (i+1)).filter keep).map f)))) fun bI fx=>?_
  have ng:x.cps.toList.take (i+1)=x.cps.toList.take i++[c]:=by rw[m4,oo];rfl
  by_cases hk:keep c=au
  ·rw[if_pos hk]
   refine⟨_,x.cps.size-(i+1),aP,?_,by omega,by omega,rfl,fx,?_⟩
   ·rw[cI]
    have:=List.length_filter_le keep (x.cps.toList.take i)
    rw[kj]at this;omega
   .rw[kn,ng,List.filter_append,ie,List.filter_cons_of_pos hk];rfl
  ·rw[if_neg hk]
   refine⟨x.cps.size-(i+1),by omega,by omega,rfl,fx,?_⟩
   rw[ng,List.filter_append,ie,List.filter_cons_of_neg hk];simp
 ·have e:i=x.cps.size:=by omega
  subst e
  rw[UV (by omega)]
  exact .inl ⟨cQ _,aT⟩
theorem Iu{Q:bP}{D:ah}(f:Nat->V)(S:St->Prop)(bw:x.cps.size<=bW)(bt:S fk)(dz:H D=aw)
  (aO:∀c,c∈x.cps.toList->∀bV H1,S bV->dJ H H1->∀R:St->V->ar->Prop,(∀bI,S bI->R bI (f c) H1)->g (.str ⟨#[c]⟩) bV H1 fun bI ax=>cH bI ax fun y hO=>R bI y hO)
  (aT:Q (.ref D) (upd H D (.lst (x.cps.toList.map f)))) :
  mP (tf x) g qU cH Q fk H D:=by
 refine HV (fun _=>au) f S bw bt dz (fun c hc bV H1 fu hs R jZ cf=>?_) (by rw[List.filter_eq_self.mpr fun _ _=>rfl];exact aT)
 exact aO c hc bV H1 fu hs R fun bI az=>by have:=cf bI az;rwa [if_pos rfl]at this
structure Ext(H ai:ar):Prop where
 s:dJ H ai
 c:kH H->kH ai
variable {A B:ar}
theorem Ext.trans{C:ar}(a:Ext A B)(b:Ext B C):Ext A C:=⟨a.s.trans b.s,fun z=>b.c (a.c z)⟩
theorem Ext.new(h:H p=aw)(aD:ma (upd H p o) p o):Ext H (upd H p o):=⟨c3 h,fun c=>yU c h aD⟩
theorem Ext.lst(h:H p=aw):Ext H (upd H p (.lst xs)) :=.new h trivial
theorem Ext.tup(h:H p=aw):Ext H (upd H p (.tup xs)) :=.new h trivial
theorem Ext.exc{d:Option ah}(h:H p=aw):Ext H (upd H p (oW p C d)) :=.new h trivial
theorem Ext.made{x aG:ah}{fs:List (af×V)}(aq:H x=aw)(az:H aG=aw)(bE:aG≠x):Ext H (upd (upd H aG (.own x)) x (.ins C aG fs)):=by
 have av:upd H aG (.own x) x=aw:=by rw[cn (e3 bE)];exact aq
 refine⟨(c3 az).trans (c3 av),fun c=>yU (yU c az trivial) av ?_⟩
 show upd (upd H aG (.own x)) x (.ins C aG fs) aG=J (.own x)
 rw[cn bE];exact aP
theorem Ext.sub(e:Ext H ai):Sub H ai ai :=.all (fun b o h=>⟨o,e.s b o h⟩) e.c
theorem v5(x y:af):(x++y).cps.toList=x.cps.toList++y.cps.toList:=Array.toList_append
theorem kN(x y:af):(x++y).length=x.length+y.length:=Array.size_append
structure lC(n:Nat)(S:List Nat)(x:af):Prop where
 n:x.length<=n
 s:∀c,c∈x.cps.toList->c∈S
variable {S:List Nat}
theorem lC.app{m:Nat}{y:af}(h:lC n S x)(h':lC m S y):lC (n+m) S (x++y):=⟨by rw[kN];have:=h.n;have:=h'.n;omega,fun c hc=>by
 rw[v5]at hc
 exact(List.mem_append.mp hc).elim (h.s c) (h'.s c)⟩
variable {c:Nat}
theorem lC.one(h:c∈S):lC 1 S ⟨#[c]⟩:=⟨cQ _,fun d hd=>by rw[hq.mp hd];exact h⟩
theorem lC.slice(h:lC n S x)(lo aE:Option Int):lC n S (Txt.slice x lo aE):=by
 have e:=fQ.tI x lo aE
 refine⟨?_,fun c hc=>h.s c ?_⟩
 ·have bg:=congrArg List.length e
  rw[kj,rq]at bg
  have eZ:(Txt.slice x lo aE).cps.toList.length=(Txt.slice x lo aE).length:=hE
  have ht:x.cps.toList.length=x.length:=hE
  have:=h.n
  omega
 ·rw[e]at hc
  exact List.mem_of_mem_drop (List.mem_of_mem_take hc)
theorem Hb(x:af)(k:Nat)(h:k<=x.length):(Txt.slice x aw (J (k:Int))).length=k:=by
 have bg:=congrArg List.length (fQ.tI x aw (J (k:Int)))
 rw[eR.Au,eR.Av,List.drop_zero,kj]at bg
 have eZ:(Txt.slice x aw (J (k:Int))).cps.toList.length=(Txt.slice x aw (J (k:Int))).length:=hE
 have ht:x.cps.toList.length=x.length:=hE
 omega
theorem G8(x:af)(k:Nat)(h:k<=x.length):(Txt.slice x (J (k:Int)) aw).length=x.length-k:=by
 have bg:=congrArg List.length (fQ.tI x (J (k:Int)) aw)
 rw[eR.Au,eR.Av,kj,rq]at bg
 have eZ:(Txt.slice x (J (k:Int)) aw).cps.toList.length=(Txt.slice x (J (k:Int)) aw).length:=hE
 have ht:x.cps.toList.length=x.length:=hE
 omega
theorem SK(h:k<x.length):∃c,c∈x.cps.toList/\dv x.cps.toList ((k:Nat):Int)=J c:=by
 have h':k<x.cps.toList.length:=by rw[hE];exact h
 exact⟨x.cps.toList[k],List.getElem_mem h',c5 (cV h')⟩
noncomputable def zq(ns:List af):Nat:=(f9 (fun i=>ns.getD i af.empty) ns.length).length
noncomputable def zr(s:af):Nat:=(f9 (signsOf s) s.cps.size).length
theorem Tf(ns:List af):zq ns<=ns.length:=v3 ..
theorem Te(s:af):zr s<=s.length:=v3 ..
theorem Hn(ns:List af):((List.range ns.length).map fun i=>V.str (ns.getD i af.empty))=ns.map V.str:=by
 apply List.ext_getElem
 .rw[cI,kl,cI]
 ·intro i aq az
  rw[cI]at az
  rw[i3,i3,List.getElem_range,eM,cV az];rfl
theorem PR(h:dr K H a (ns.map V.str)):BP K H (.ref a) (fun i=>ns.getD i af.empty) ns.length :=.inl ⟨a,rfl,by rw[Hn];exact h⟩
theorem Qh(s:af):BP K H (.str s) (signsOf s) s.cps.size :=.inr ⟨s,rfl,rfl,rfl⟩
noncomputable def ji:af:="abcdefghijklmnopqrstuvwxyz"
noncomputable def nS:af:="abcdefghijklmnopqrstuvwxyzABCDEFGHIJKLMNOPQRSTUVWXYZ0123456789"
noncomputable def j9(t s:af):Bool:=t.cps.toList.all fun c=>decide (c∈s.cps.toList)
theorem SM:nS.length=62:=by decide+kernel
theorem CY:ji.length=26:=by decide+kernel
noncomputable def nj(s:af):Bool:=decide (s.length≠0/\s.length<=60/\zr s=s.length)&&j9 s nS
noncomputable def isName(n:af):Bool:=decide (0<n.length/\n.length<=12)&&j9 n ji
noncomputable def jI(ns:List af):Bool:=decide (ns.length≠0/\ns.length<=20/\zq ns=ns.length)&&ns.all isName
theorem R5(s:af):s=af.ofString ""↔s.length=0:=by
 have e:af.ofString ""=⟨#[]⟩:=by decide+kernel
 rw[e]
 constructor
 .rintro rfl;rfl
 ·intro h
  obtain⟨c⟩:=s
  have:c=#[]:=Array.eq_empty_of_size_eq_zero h
  rw[this]
theorem y0{b:ah}{x y:dC}(h:a≠b):upd (upd H a x) b y=upd (upd H b y) a x:=by
 funext c
 by_cases aq:c=b
 ·subst aq
  rw[aP,cn (e3 h),aP]
 ·rw[cn aq]
  by_cases az:c=a
  ·subst az
   rw[aP,aP]
  .rw[cn az,cn az,cn aq]
theorem slice_le(x:af)(lo aE:Option Int):(Txt.slice x lo aE).length<=x.length:=by
 have bg:=congrArg List.length (fQ.tI x lo aE)
 rw[kj,rq]at bg
 have eZ:(Txt.slice x lo aE).cps.toList.length=(Txt.slice x lo aE).length:=hE
 have ht:x.cps.toList.length=x.length:=hE
 omega
theorem Cr{D:ah}{l KB:List V}(h:H D=J (.lst l))(c:kH H):kH (upd H D (.lst KB)):=fun b u e=>by
 by_cases z:b=D
 .subst z;rw[aP]at e;cases e;trivial
 ·rw[cn z]at e
  have uN:=c b u e
  clear e
  induction u with
  |ins C aG fs =>
   have kA:H aG=J (.own b):=uN
   show upd H D (.lst KB) aG=J (.own b)
   rw[cn fun z=>by rw[z,h]at kA;cases kA]
   exact kA
  |iO dD u cp=>exact cp uN
  |_=>trivial
theorem IS(h:k<n):pI n ((k:Nat):Int)=J k:=by
 have:dv (List.range n) ((k:Nat):Int)=J k:=c5 (by rw[List.getElem?_range h])
 unfold dv at this
 rw[kl]at this
 cases av:pI n ((k:Nat):Int)with
 |none=>rw[av]at this;cases this
 |some j =>
  rw[av,Option.bind_some]at this
  rw[lE]at this
  obtain⟨_,z⟩:=this
  rw[List.getElem_range]at z
  rw[z]
theorem CG(val:Nat->af):∀n k,k∈f9 val n->∃i,i<n/\k=val i
 |0,k,h=>by cases h
 | n+1,k,h=>by
  unfold f9 at h
  by_cases z:val n∈f9 val n
  ·rw[if_pos z]at h
   obtain⟨i,aE,e⟩:=CG val n k h
   exact⟨i,by omega,e⟩
  ·rw[if_neg z]at h
   rcases List.mem_append.mp h with y|y
   ·obtain⟨i,aE,e⟩:=CG val n k y
    exact⟨i,by omega,e⟩
   .exact⟨n,Nat.lt_succ_self _,hq.mp y⟩
theorem CH(val:Nat->af):∀n,(∀i j,i<n->j<n->val i=val j->i=j)->(f9 val n).length=n
 |0,_=>rfl
 | n+1,h=>by
  unfold f9
  have z:val n∉f9 val n:=fun z=>by
   obtain⟨i,aE,e⟩:=CG val n _ z
   have:=h n i (Nat.lt_succ_self _) (by omega) e
   omega
  rw[if_neg z,eU,CH val n fun i j aE c4 e=>h i j (by omega) (by omega) e]
  rfl
theorem Q6{s:af}(h:s.cps.toList.Nodup):zr s=s.length:=by
 refine CH _ _ fun i j aE c4 e=>?_
 unfold signsOf at e
 injection e with e
 have e:=congrArg (fun a=>a[0]?) e
 simp only[List.getElem?_toArray,List.getElem?_cons_zero,Option.some.injEq]at e
 have rY:i<s.cps.toList.length:=by rw[hE];exact aE
 have VL:j<s.cps.toList.length:=by rw[hE];exact c4
 have g:∀k(hk:k<s.cps.toList.length),s.cps.getD k 0=s.cps.toList[k]:=fun k hk=>by
  rw[Array.getD_eq_getD_getElem?,<-Array.getElem?_toList,cV hk];rfl
 rw[g i rY,g j VL]at e
 exact(List.getElem_inj h).mp e
theorem Q7(h:ns.Nodup):zq ns=ns.length:=by
 refine CH _ _ fun i j aE c4 e=>?_
 have g:∀k(hk:k<ns.length),ns.getD k af.empty=ns[k]:=fun k hk=>by
  rw[eM,cV hk];rfl
 rw[g i aE,g j c4]at e
 exact(List.getElem_inj h).mp e
theorem Rg:nS.cps.toList.Nodup:=by decide+kernel
theorem Rh:ji.cps.toList.Nodup:=by decide+kernel
theorem Qz{f r:af}(h:(f.cps.toList++r.cps.toList).Perm nS.cps.toList)(bt:f.length≠0)(aq:f.length<=60):nj f=au:=by
 have bC:(f.cps.toList++r.cps.toList).Nodup:=h.nodup_iff.mpr Rg
 have lU:f.cps.toList.Nodup:=(List.nodup_append.mp bC).1
 unfold nj
 rw[eY ⟨bt,aq,Q6 lU⟩,Bool.true_and]
 unfold j9
 rw[ig]
 exact fun c hc=>eY (h.mem_iff.mp (List.mem_append_left _ hc))
theorem QP{f r a b:List Nat}{x:Nat}(e:r=a++x::b):((f++[x])++(a++b)).Perm (f++r):=by
 subst e
 rw[rp]
 exact List.Perm.append_left f (List.perm_middle (a:=x) (l₁:=a) (l₂:=b)).symm
theorem QH(h:k<x.length):∃c,dv x.cps.toList ((k:Nat):Int)=J c/\x.cps.toList=(Txt.slice x aw (J (k:Int))).cps.toList++c::(Txt.slice x (J ((k+1:Nat):Int)) aw).cps.toList:=by
 have ht:x.cps.toList.length=x.length:=hE
 have h':k<x.cps.toList.length:=by omega
 refine⟨x.cps.toList[k],c5 (cV h'),?_⟩
 rw[fQ.tI,fQ.tI,eR.Au,eR.Av,eR.Av,eR.Au,List.drop_zero,Nat.sub_zero,Nat.min_eq_left (by omega),Nat.min_eq_left (by omega),UV (l:=List.drop (k+1) _) (by rw[rq];omega)]
 rw[<-List.drop_eq_getElem_cons h',List.take_append_drop]
theorem So{s:af}{a:Int}(e:(Txt.slice s aw (J a)++⟨#[c]⟩)++Txt.slice s (J a) aw=(Txt.slice s aw (J a)++⟨#[d]⟩)++Txt.slice s (J a) aw):c=d:=by
 have e:=congrArg (fun x=>x.cps.toList) e
 simp only[v5]at e
 have e:=List.append_cancel_right e
 have e:=List.append_cancel_left e
 have:[c]=[d]:=e
 exact List.head_eq_of_cons_eq this
theorem Rj{f x:Int}(av:x∈([1,3,5,7,9,11]:List Int))(aE:i<26)(c4:j<26)(e:(f+(0+((i:Nat):Int))*x)%26=(f+(0+((j:Nat):Int))*x)%26):i=j:=by
 have h:=Int.emod_add_cancel_left.mp e
 rw[Int.zero_add,Int.zero_add]at h
 exact congrArg Fin.val ((by decide+kernel:∀x∈([1,3,5,7,9,11]:List Int),∀i j:Fin 26,((i.val:Nat):Int)*x%26=((j.val:Nat):Int)*x%26->i=j) x av ⟨i,aE⟩ ⟨j,c4⟩ h)
theorem QY{n:af}(h:lC 12 ji.cps.toList n)(bt:0<n.length):isName n=au:=by
 unfold isName
 rw[eY ⟨bt,h.n⟩,Bool.true_and]
 unfold j9
 rw[ig]
 exact fun c hc=>eY (h.s c hc)
theorem PJ(bt:ns.length≠0)(aq:ns.length<=20)(bf:ns.Nodup)(hs:∀n,n∈ns->isName n=au):jI ns=au:=by
 unfold jI
 rw[eY ⟨bt,aq,Q7 bf⟩,Bool.true_and,ig]
 exact hs
theorem Qx{n:af}(h:isName n=au):n.length<=12:=by
 unfold isName at h
 simp only[jA,mc]at h
 exact h.1.2
theorem m6(h:jI ns=au):ns.length<=20/\∀n,n∈ns->n.length<=12:=by
 unfold jI at h
 simp only[jA,mc,ig]at h
 exact⟨h.1.2.1,fun n bf=>Qx (h.2 n bf)⟩
structure cY(p:ah)(H ai:ar):Prop where
 k:∀b u,b≠p->H b=J u->ai b=J u
 l:∃ns:List Int,ai p=J (.lst (ns.map V.int))/\ns.length<=90
 c:kH H->kH ai
def mb(p:ah)(H:ar):Prop:=∃ns:List Int,H p=J (.lst (ns.map V.int))/\ns.length<=90
theorem cY.refl(h:mb p H):cY p H H:=⟨fun _ _ _ e=>e,h,id⟩
theorem cY.trans{C:ar}(a:cY p A B)(b:cY p B C):cY p A C:=⟨fun x u n e=>b.k x u n (a.k x u n e),b.l,fun c=>b.c (a.c c)⟩
theorem cY.ext{C:ar}(a:cY p A B)(b:Ext B C):cY p A C:=by
 obtain⟨ns,h,bf⟩:=a.l
 exact⟨fun x u n e=>b.s x u (a.k x u n e),⟨ns,b.s _ _ h,bf⟩,fun c=>b.c (a.c c)⟩
theorem cY.pop{ns:List Int}(h:mb p H)(bf:ns.length<=90):cY p H (upd H p (.lst (ns.map V.int))):=by
 obtain⟨ms,e,_⟩:=h
 exact⟨fun b u nb q=>by rw[cn nb];exact q,⟨ns,aP,bf⟩,fun c=>Cr e c⟩
theorem cY.sub(h:cY p H ai):Sub H ai ai :=.all (fun b o e=>by
 by_cases z:b=p
 ·subst z
  obtain⟨ns,e,_⟩:=h.l
  exact⟨_,e⟩
 .exact⟨o,h.k b o z e⟩) h.c
theorem cY.free{b:ah}(h:cY p H ai)(e:ai b=aw):H b=aw:=by
 cases z:H b with
 |none=>rfl
 | some u =>
  by_cases y:b=p
  ·subst y
   obtain⟨ns,q,_⟩:=h.l
   rw[e]at q;cases q
  .rw[h.k b u y z]at e;cases e
theorem bx.none{st:bG}{sp:cT}(F:ed K mg x st aI f fd)(h:∀vs H Q E,¬sp vs H Q E):bx P w K mg base k x aI sp :=
 ⟨f,fd,⟨fun vs H Q E q=>absurd q (h _ _ _ _),fun A outer s H args us vs Q E _ _ _ _ q=>absurd q (h _ _ _ _)⟩,F.2.1,F.1.ik,F.2.2⟩
theorem cY.set{l:ah}(g:cY p H ai)(bt:H l=aw)(h:ai l=J (.lst xs))(aH:l≠p):cY p H (upd ai l (.lst aM)):=by
 obtain⟨ns,e,bf⟩:=g.l
 exact⟨fun b u nb q=>by rw[cn (gv q bt)];exact g.k b u nb q,⟨ns,by rw[cn (e3 aH)];exact e,bf⟩,fun c=>Cr h (g.c c)⟩
theorem cY.ne{l:ah}(g:cY p H ai)(h:ai l=aw):l≠p:=fun z=>by
 obtain⟨ns,e,_⟩:=g.l
 rw[z,e]at h;cases h
section
variable {X:bj}
noncomputable def ZE:V->List V->ar->bP->Prop:=fun x vs H Q=>∃(l:ah)(ws:List af)(w:af)(k:Nat),x=.ref l/\vs=[.str w]/\H l=J (.lst (ws.map V.str))/\ws[k]?=J w/\(∀j,j<k->ws[j]?≠J w)/\ws.length<100000/\Q (.int ((k:Nat):Int)) H
theorem HJ:tD X "list.index" ZE:=by
 intro aj s ae H x vs v us Q aa bl dG h
 obtain⟨l,ws,w,k,rfl,rfl,ks,hk,EC,bw,q⟩:=h
 cases bl
 obtain⟨h6,rfl,⟨t,rfl⟩⟩:=vals1 dG
 obtain⟨z,aW,n,mD,aH,e⟩:=aa.uE ks
 have cG:=mD.length
 rw[cI]at cG
 have aca:k<ws.length:=(lE.mp hk).1
 have iE:∀(j:Nat)(c4:j<aW.length),∃t',aW[j] =.str (ws[j]'(by omega)) t':=fun j c4=>by
  obtain⟨u,dZ,fO⟩:=mD.get (i:=j) (x :=.str (ws[j]'(by omega))) (by rw[gm,cV (by omega)];rfl)
  rw[cV c4]at dZ
  obtain⟨t',Wq⟩:=(show ∃t,u=al.str _ t from fO)
  exact⟨t',by rw[<-Wq];exact gk dZ⟩
 let qt:al->Bool:=fun y=>match y with|.str a _=>decide (a=w)|_=>ay
 have he:∀y,y∈aW.toArray->MeetsSeq.EqGives y (.str w t) (qt y):=fun y bF=>by
  obtain⟨j,c4,rfl⟩:=List.mem_iff_getElem.mp (List.mem_toArray.mp bF)
  obtain⟨t',cR⟩:=iE j c4
  rw[cR]
  exact SE _ _ _ _
 have qE:qt (aW.toArray[k]'(by rw[eV];omega))=au:=by
  obtain⟨t',cR⟩:=iE k (by omega)
  rw[List.getElem_toArray,cR]
  have:=(lE.mp hk).2
  show decide (_=_)=au
  rw[this];exact eY I
 have V7:∀m(hm:m<aW.toArray.size),m<k->qt aW.toArray[m]=ay:=fun m hm V1=>by
  rw[eV]at hm
  obtain⟨t',cR⟩:=iE m hm
  rw[List.getElem_toArray,cR]
  show decide (_=_)=ay
  refine fo fun z=>EC m V1 ?_
  rw[cV (by omega),z]
 refine call_meets F.slot_list_index ⟨_,e,I⟩ F.entry_list_index (F.args_list_index_2 _ _) (MeetsSeq.list_index l aW.toArray n (.str w t) qt he k (by rw[eV];omega) (by omega) qE V7) ⟨e,?_⟩
 exact⟨.int _,H,aa.tok _,⟨_,I⟩,q⟩
end
inductive bq where
 |bare (k:Fin 4)
 |sp (a b:Int)
 |le (s:af)
 |one (k:Fin 3) (f:bq)
 |two (k:Fin 2) (ns:List af) (fs:List bq)
noncomputable def num(a:Int):List Nat:=(af.ofString (toString a)).cps.toList
noncomputable def uN(k:Fin 3):af:=[af.ofString "maybe",af.ofString "many",af.ofString "turned"][k]
noncomputable def FW(k:Fin 2):af:=[af.ofString "record",af.ofString "choice"][k]
mutual
noncomputable def aO:bq->Nat
 |.bare _=>1
 |.sp _ _=>1
 |.le _=>1
 |.one _ f=>aO f+1
 |.two _ _ fs=>fA fs+1
noncomputable def fA:List bq->Nat
 |[]=>0
 |f::fs=>max (aO f) (fA fs)
end
mutual
noncomputable def mB:bq->Prop
 |.bare _=>True
 |.sp a b=>a<=b/\a.natAbs<10^58/\b.natAbs<10^58
 |.le s=>nj s=au/\s.length<=60
 |.one _ f=>mB f
 |.two _ ns fs=>jI ns=au/\ns.length=fs.length/\qN fs
noncomputable def qN:List bq->Prop
 |[]=>True
 |f::fs=>mB f/\qN fs
end
structure fX where
 b:Fin 4->ah
 s:ah
 l:ah
 o:Fin 3->ah
 t:Fin 2->ah
mutual
noncomputable def dn(c:fX)(X:List ah)(H:ar):bq->ah->Prop
 |.bare k,o=>o∉X/\∃aG,H o=J (.ins (c.b k) aG [])
 |.sp a b,o=>o∉X/\∃aG,H o=J (.ins c.s aG [("low",.int a),("high",.int b)])
 |.le s,o=>o∉X/\∃aG,H o=J (.ins c.l aG [("signs",.str s)])
 |.one k f,o=>o∉X/\∃aG i,H o=J (.ins (c.o k) aG [("inner",.ref i)])/\dn c X H f i
 |.two k ns fs,o=>o∉X/\∃aG dA dx os,H o=J (.ins (c.t k) aG [("names",.ref dA),("forms",.ref dx)])/\dA∉X/\dx∉X/\H dA=J (.lst (ns.map V.str))/\H dx=J (.lst (os.map V.ref))/\fl c X H fs os
noncomputable def fl(c:fX)(X:List ah)(H:ar):List bq->List ah->Prop
 |[],os=>os=[]
 |f::fs,os=>∃o r,os=o::r/\dn c X H f o/\fl c X H fs r
end
def jg(P:cW)(w:cD)(K:bH)(mg:af->Option al)(base:bb)(k:Nat)(m:af)(aI:List af){kE:Type}(cl:kE->ah)(sp:kE->cT):Prop:=∀i,tC P w K mg base k (cl i) m aI (sp i)/\h8 K (cl i)
section
variable {X:bj} {k jo:Nat} {m:af} {aI:List af} {kE:Type} {cl:kE->ah} {sp:kE->cT} {e o:cq} {aV:List cq} {t:hg} {cE:TE} {aX apos:Pos}
inductive By{kE:Type}(cl:kE->ah)(m:af)(x:V)(H:ar)(R:kE->Prop):Prop where
 |mk (a:ah) (i:kE) (aG:ah) (fs:List (af×V)) (e:x=.ref a) (h:H a=J (.ins (cl i) aG fs)) (l:fs.lookup m=aw) (q:R i):By cl m x H R
theorem kM(h:jg X.prog X.w X.K X.mg X.base k m aI cl sp)(aF:fY jo X.A)(he:b6 X o cE)(bz:ib X (e::aV) t)(hk:k<=jo:=by decide)
  (nv:dN (e::aV) X.env=(ay,eval e X.env)::dN aV X.env:=by rfl) (hx:(backTo aX (dN aV X.env)).any (·.1)=ay:=by rfl)
  (aO:eval (.Call (.Attribute o m apos) (e::aV) [] aX) X.env=(do
   let hK <-eval o X.env
   standAt apos.atName
   let (f,first) <-holding [hK] (getMethod hK m pl)
   callWith aX f first (backTo aX (dN (e::aV) X.env)) (backToKw aX (xW [] X.env))):=by rfl) :
  b6 X (.Call (.Attribute o m apos) (e::aV) [] aX) (fun ae H Q=>cE ae H fun x H1=>By cl m x H1 fun i=>t ae H1 fun vs ax=>sp i (x::vs) ax Q h9):=by
 intro aj s ae H Q aa aT
 refine PySem.W.methodCall_KW (pl:=pl) (cO (he aj s ae H _ aa aT) fun u s1 bJ=>?_) aO
 obtain⟨x,H1,bc,bl,a,i,aG,fs,ex,c6,l,q⟩:=bJ
 subst ex
 obtain rfl:u=al.ref a:=bl
 obtain⟨⟨f,fd,F,ao,hm⟩,c⟩:=h i
 refine Co bc c6 c hm l ?_
 refine A2 (first:=[.ref a]) (h₀:=X.base) aa.ok.mod.qH hm.ik (cO (bz aX aj s1 ae H1 _ bc q) fun us s2 bJ=>?_) nv hx
 obtain⟨vs,ax,bM,r,cc⟩:=bJ
 refine ⟨bM.gp,?_⟩
 exact C2 (us :=.ref a::us) (vs :=.ref a::vs) (dvs:=[]) (ds:=[]) F (aF.mono hk) ao .nil An bM (.cons I r) (by rw[List.append_nil];exact cc)
end
mutual
theorem dn.keep{c:fX}{X:List ah}{H ai:ar}(k:∀b u,b∉X->H b=J u->ai b=J u):∀(f:bq){o:ah},dn c X H f o->dn c X ai f o
 |.bare i,o,h=>by
  obtain⟨n,aG,e⟩:=h
  exact⟨n,aG,k _ _ n e⟩
 |.sp a b,o,h=>by
  obtain⟨n,aG,e⟩:=h
  exact⟨n,aG,k _ _ n e⟩
 |.le s,o,h=>by
  obtain⟨n,aG,e⟩:=h
  exact⟨n,aG,k _ _ n e⟩
 |.one i f,o,h=>by
  obtain⟨n,aG,j,e,q⟩:=h
  exact⟨n,aG,j,k _ _ n e,dn.keep k f q⟩
 |.two i ns fs,o,h=>by
  obtain⟨n,aG,dA,dx,os,e,d9,es,ba,bg,q⟩:=h
  exact⟨n,aG,dA,dx,os,k _ _ n e,d9,es,k _ _ d9 ba,k _ _ es bg,fl.keep k fs q⟩
theorem fl.keep{c:fX}{X:List ah}{H ai:ar}(k:∀b u,b∉X->H b=J u->ai b=J u):∀(fs:List bq){os:List ah},fl c X H fs os->fl c X ai fs os
 |[],os,h=>h
 |f::fs,os,h=>by
  obtain⟨o,r,e,q,cc⟩:=h
  exact⟨o,r,e,dn.keep k f q,fl.keep k fs cc⟩
end
mutual
theorem dn.weak{c:fX}{X Y:List ah}{H:ar}(hs:∀x,x∈X->x∈Y):∀(f:bq){o:ah},dn c Y H f o->dn c X H f o
 |.bare i,o,h=>⟨fun z=>h.1 (hs _ z),h.2⟩
 |.sp a b,o,h=>⟨fun z=>h.1 (hs _ z),h.2⟩
 |.le s,o,h=>⟨fun z=>h.1 (hs _ z),h.2⟩
 |.one i f,o,h=>by
  obtain⟨n,aG,j,e,q⟩:=h
  exact⟨fun z=>n (hs _ z),aG,j,e,dn.weak hs f q⟩
 |.two i ns fs,o,h=>by
  obtain⟨n,aG,dA,dx,os,e,d9,es,ba,bg,q⟩:=h
  exact⟨fun z=>n (hs _ z),aG,dA,dx,os,e,fun z=>d9 (hs _ z),fun z=>es (hs _ z),ba,bg,fl.weak hs fs q⟩
theorem fl.weak{c:fX}{X Y:List ah}{H:ar}(hs:∀x,x∈X->x∈Y):∀(fs:List bq){os:List ah},fl c Y H fs os->fl c X H fs os
 |[],os,h=>h
 |f::fs,os,h=>by
  obtain⟨o,r,e,q,cc⟩:=h
  exact⟨o,r,e,dn.weak hs f q,fl.weak hs fs cc⟩
end
theorem fl.len{c:fX}{X:List ah}{H:ar}:∀(fs:List bq){os:List ah},fl c X H fs os->os.length=fs.length
 |[],os,h=>by
  obtain rfl:os=[]:=h
  rfl
 |g::fs,os,h=>by
  obtain⟨eh,r,rfl,q,cc⟩:=h
  rw[ep,fl.len fs cc];rfl
theorem pe:∀f:bq,1<=aO f
 |.bare _=>by rw[aO];exact cQ _
 |.sp _ _=>by rw[aO];exact cQ _
 |.le _=>by rw[aO];exact cQ _
 |.one _ f=>by rw[aO];omega
 |.two _ _ fs=>by rw[aO];omega
inductive gT where
 |b (k:Fin 4)|s|l|o (k:Fin 3)|t (k:Fin 2)
noncomputable def g5(c:fX):gT->ah
 |.b k=>c.b k
 |.s=>c.s
 |.l=>c.l
 |.o k=>c.o k
 |.t k=>c.t k
noncomputable def slot:bq->gT
 |.bare k =>.b k
 |.sp _ _ =>.s
 |.le _ =>.l
 |.one k _ =>.o k
 |.two k _ _ =>.t k
theorem dn.ins{c:fX}{X:List ah}(aq:(m == ("low":af))=ay)(az:(m == ("high":af))=ay)(bE:(m == ("signs":af))=ay)(cz:(m == ("inner":af))=ay)(dY:(m == ("names":af))=ay)(kT:(m == ("forms":af))=ay):
  ∀(f:bq){o:ah},dn c X H f o->∃aG fs,H o=J (.ins (g5 c (slot f)) aG fs)/\fs.lookup m=aw
 |.bare i,o,h=>by
  obtain⟨n,aG,e⟩:=h
  exact⟨aG,_,e,I⟩
 |.sp a b,o,h=>by
  obtain⟨n,aG,e⟩:=h
  exact⟨aG,_,e,by simp[List.lookup,aq,az]⟩
 |.le s,o,h=>by
  obtain⟨n,aG,e⟩:=h
  exact⟨aG,_,e,by simp[List.lookup,bE]⟩
 |.one i f,o,h=>by
  obtain⟨n,aG,j,e,q⟩:=h
  exact⟨aG,_,e,by simp[List.lookup,cz]⟩
 |.two i ns fs,o,h=>by
  obtain⟨n,aG,dA,dx,os,e,_⟩:=h
  exact⟨aG,_,e,by simp[List.lookup,dY,kT]⟩
def Z3(t u:eG):eG:=fun D ae H=>∃dS:St->ar->Prop,t {D with nx:=dS} ae H/\∀bU ai,dS bU ai->u D bU ai
theorem zc{st:bG}{rest:List bG}{t u:eG}(aq:jz X st t)(az:hD X rest u):hD X (st::rest) (Z3 t u):=by
 intro aj s ae H D aa h
 obtain⟨dS,h,U8⟩:=h
 refine wpAny_execs_cons (cO (aq aj s ae H {D with nx:=dS} aa h) fun f s1 q=>?_)
 cases f with
 |next =>
  obtain⟨bU,ai,gF,q⟩:=q
  exact az aj s1 bU ai D gF (U8 _ _ q)
 |ret v=>exact q
 |brk=>exact q
 |cont=>exact q
inductive D where
 |aK
 |aC (b:Bool)
 |int (i:Int)
 |str (s:af)
 |tup (ds:List D)
 |lst (ds:List D)
mutual
noncomputable def dI(H:ar):D->V->Prop
 |.aK,v=>v=.aK
 |.aC b,v=>v=.aC b
 |.int i,v=>v=.int i
 |.str s,v=>v=.str s/\s.length<=16000000
 |.tup ds,v=>∃a vs,v=.ref a/\H a=J (.tup vs)/\cU H ds vs/\vs.length<=1000
 |.lst ds,v=>∃a vs,v=.ref a/\H a=J (.lst vs)/\cU H ds vs/\vs.length<=1000
noncomputable def cU(H:ar):List D->List V->Prop
 |[],vs=>vs=[]
 |d::ds,vs=>∃v r,vs=v::r/\dI H d v/\cU H ds r
end
mutual
theorem dI.same{H ai:ar}(s:dJ H ai):∀(d:D){v:V},dI H d v->dI ai d v
 |.aK,v,h=>h
 |.aC b,v,h=>h
 |.int i,v,h=>h
 |.str t,v,h=>h
 |.tup ds,v,h=>by
  obtain⟨a,vs,e,ft,q,z⟩:=h
  exact⟨a,vs,e,s _ _ ft,cU.same s ds q,z⟩
 |.lst ds,v,h=>by
  obtain⟨a,vs,e,ft,q,z⟩:=h
  exact⟨a,vs,e,s _ _ ft,cU.same s ds q,z⟩
theorem cU.same{H ai:ar}(s:dJ H ai):∀(ds:List D){vs:List V},cU H ds vs->cU ai ds vs
 |[],vs,h=>h
 |d::ds,vs,h=>by
  obtain⟨v,r,e,q,cc⟩:=h
  exact⟨v,r,e,dI.same s d q,cU.same s ds cc⟩
end
theorem cU.len{H:ar}:∀(ds:List D){vs:List V},cU H ds vs->vs.length=ds.length
 |[],vs,h=>by
  obtain rfl:vs=[]:=h
  rfl
 |g::fs,vs,h=>by
  obtain⟨eh,r,rfl,q,cc⟩:=h
  rw[ep,cU.len fs cc];rfl
theorem cU.get{H:ar}:∀(ds:List D){vs:List V}{i:Nat}{v:V},cU H ds vs->vs[i]?=J v->∃d,ds[i]?=J d/\dI H d v
 |[],vs,i,v,h,e=>by
  obtain rfl:vs=[]:=h
  cases e
 |d::ds,vs,0,v,h,e=>by
  obtain⟨eh,r,rfl,q,cc⟩:=h
  cases e
  exact⟨d,I,q⟩
 |d::ds,vs,i+1,v,h,e=>by
  obtain⟨eh,r,rfl,q,cc⟩:=h
  exact cU.get ds cc e
noncomputable def p1:D->String
 |.aK=>"NoneType"
 |.aC _=>"bool"
 |.int _=>"int"
 |.str _=>"str"
 |.tup _=>"tuple"
 |.lst _=>"list"
theorem dI.ty{d:D}(h:dI H d v):iy K H v (.type (p1 d)):=by
 cases d with
 |aK=>obtain rfl:v=.aK:=h;exact .aK
 |aC b=>obtain rfl:v=.aC b:=h;exact .aC b
 |int i=>obtain rfl:v=.int i:=h;exact .int i
 |str s=>obtain⟨rfl,_⟩:=h;exact .str s
 |tup ds=>obtain⟨a,vs,rfl,e,_⟩:=h;exact .tup e
 |lst ds=>obtain⟨a,vs,rfl,e,_⟩:=h;exact .lst e
noncomputable def WR(d:D)(T:String):Bool:=p1 d == T||(p1 d == "bool"&&T == "int")
theorem Sv(K:bH):∀a∈["NoneType","bool","int","str","tuple","list"],∀T∈["int","bool","str","tuple","list"],fD K (.type a) (.type T)=J (a == T||(a == "bool"&&T == "int")):=by
 intro a bz T cF
 have zR:a="NoneType"\/a="bool"\/a="int"\/a="str"\/a="tuple"\/a="list":=by simpa using bz
 have um:T="int"\/T="bool"\/T="str"\/T="tuple"\/T="list":=by simpa using cF
 rcases zR with rfl|rfl|rfl|rfl|rfl|rfl<;>rcases um with rfl|rfl|rfl|rfl|rfl<;>
  first
  |exact Ii ..
  |(unfold fD;rw[if_neg (by decide)];unfold PySem.W.kitCls;kernel_rfl)
theorem bO(K:bH)(d:D){T:String}(cF:T∈["int","bool","str","tuple","list"]):fD K (.type (p1 d)) (.type T)=J (WR d T):=by
 refine Sv K _ ?_ T cF
 cases d<;>simp[p1]
section
variable {X:bj}
noncomputable def Lc:V->Bool
 |.aK=>au
 |.aC _=>au
 |.int _=>au
 |.str _=>au
 |.ref _=>au
 |_=>ay
theorem C4:dO X (hC .Is) (fun x y H Q=>∃b,y=.aC b/\Lc x=au/\Q (.aC (decide (x=.aC b))) H):=by
 intro aj s ae H x y v u Q aa bl cw h
 obtain⟨b,rfl,av,q⟩:=h
 cases cw
 cases x with
 |aK=>cases bl;exact eF (fe aa q (by cases b<;>rfl))
 |aC c=>cases bl;cases b<;>cases c<;>exact eF (fe aa q I)
 |int i=>obtain⟨t,rfl⟩:=bl;exact eF (fe aa q (by cases b<;>rfl))
 |str i=>obtain⟨t,rfl⟩:=bl;exact eF (fe aa q (by cases b<;>rfl))
 |ref a=>cases bl;exact eF (fe aa q (by cases b<;>rfl))
 |_=>cases av
end
theorem dI.plain{d:D}(h:dI H d v):Lc v=au:=by
 cases d with
 |aK=>obtain rfl:v=.aK:=h;rfl
 |aC b=>obtain rfl:v=.aC b:=h;rfl
 |int i=>obtain rfl:v=.int i:=h;rfl
 |str s=>obtain⟨rfl,_⟩:=h;rfl
 |tup ds=>obtain⟨a,vs,rfl,e,_⟩:=h;rfl
 |lst ds=>obtain⟨a,vs,rfl,e,_⟩:=h;rfl
section
variable {prog:cW} {w:cD} {A:c1} {E:al->aJ->Prop} {s:aJ}
theorem Pj{x:al}(qE:s.heap.IsTupleIter it t i)(aO:s.heap.IsTuple t items)(av:items[i]?=J x)(fV:∀h',h'.IsTupleIter it t (i+1)->bb.SameBut it s.heap h'->Q x {s with heap:=h'}):
  bK (model prog w) A (dh.SmallTypes.nextOf (.ref it)) Q E s:=by
 have ty:=qE.typeIs
 have J7:=qE
 obtain⟨o,aD,hc,hd⟩:=qE
 obtain⟨X2,EI,_,XV,wN⟩:=aO
 unfold dh.SmallTypes.nextOf
 refine bQ (wpAny_callSpecial?_slot (name:=af.ofString "__next__") ty F.slot_tuple_iterator_next (wpAny_call_entry F.slot_tuple_iterator_next ty F.entry_tuple_iterator_next ?_ (F.args_tuple_iterator_next_1 _)))
 show bK _ _ (field (.ref it) 0 >>= _) _ _ s
 refine bQ (iW aD hd (x :=.ref t) I ?_)
 have nn:¬((al.ref t == al.none)=au):=g0
 show bK _ _ (if(al.ref t == al.none)=au then _ else _) _ _ s
 rw[if_neg nn]
 show bK _ _ (field (.ref it) 1 >>= _) _ _ s
 refine bQ (iW aD hd (x :=.int i 0) I ?_)
 show bK _ _ (seqItems? (.ref t) >>= _) _ _ s
 refine bQ (qZ EI wN ?_)
 simp only[Int.toNat_natCast,av]
 refine bQ (sV aD hd (by simp) (eF ⟨x,I,eF (fV _ ⟨_,bb.get?_update_self _ aD (bo.isFreed_of_fields (bo.data_mapFields hd _)),(bo.cls_mapFields ..).trans hc,?_⟩ (bb.SameBut.update ..))⟩))
 rw[bo.data_mapFields hd];simp[rawInt]
theorem PQ(dM:A.handled=aw)(qE:s.heap.IsTupleIter it t i)(aO:s.heap.IsTuple t items)(av:items[i]?=aw)(qB:∀h' e,bb.ExtBut it s.heap h'->(∃o,h'.get? e=J o/\o.cls=.type "StopIteration")->E (.ref e) {s with heap:=h'}):
  bK (model prog w) A (dh.SmallTypes.nextOf (.ref it)) Q E s:=by
 have ty:=qE.typeIs
 obtain⟨o,aD,hc,hd⟩:=qE
 obtain⟨X2,EI,_,XV,wN⟩:=aO
 unfold dh.SmallTypes.nextOf
 refine bQ (wpAny_callSpecial?_slot (name:=af.ofString "__next__") ty F.slot_tuple_iterator_next (wpAny_call_entry F.slot_tuple_iterator_next ty F.entry_tuple_iterator_next ?_ (F.args_tuple_iterator_next_1 _)))
 show bK _ _ (field (.ref it) 0 >>= _) _ _ s
 refine bQ (iW aD hd (x :=.ref t) I ?_)
 have nn:¬((al.ref t == al.none)=au):=g0
 show bK _ _ (if(al.ref t == al.none)=au then _ else _) _ _ s
 rw[if_neg nn]
 show bK _ _ (field (.ref it) 1 >>= _) _ _ s
 refine bQ (iW aD hd (x :=.int i 0) I ?_)
 show bK _ _ (seqItems? (.ref t) >>= _) _ _ s
 refine bQ (qZ EI wN ?_)
 simp only[Int.toNat_natCast,av]
 refine bQ (wpAny_rule (bQ (sV aD hd (by simp) ?_)))
 show bK _ _ (newExc (.type "StopIteration") [] >>= _) _ _ _
 refine bQ ?_
 simp only[newExc,newTuple]
 refine bQ (wpAny_newObj_type ?_ (by size_fits))
 refine bQ (m:=firstArgMember _ _) (wpAny_of_eq (a:=al.none) (by first|rfl|(simp only[firstArgMember];rfl)) ?_)
 refine wpAny_newObj_type ?_ (by size_fits)
 simp only[raiseNew]
 refine bQ (wpAny_handled ?_)
 first|rw[show A.in1.handled=aw from dM]|rw[dM]
 exact bQ (eF (wpAny_throw (qB _ _ (((bb.SameBut.update ..).extBut.push _).push _) ⟨_,gZ _ I,I⟩)))
end
theorem aaD(x:h.IsTuple a items)(k:∀o,h.get? a=J o->h'.get? a=J o):h'.IsTuple a items :=
 let ⟨o,aD,r⟩:=x;⟨o,k o aD,r⟩
theorem MA(x:h.IsTupleIter a t i)(k:∀o,h.get? a=J o->h'.get? a=J o):h'.IsTupleIter a t i :=
 let ⟨o,aD,r⟩:=x;⟨o,k o aD,r⟩
theorem Draws.tup{A:c1}(dM:A.handled=aw)(it t:ah)(lQ:t≠it)(items:Array al):
  Draws prog w A it [it,t] items.size (fun i v=>items[i]?=J v) (fun i h=>h.IsTupleIter it t i/\h.IsTuple t items) where
 live:=fun _ _ st=>let ⟨o,aD,_⟩:=st.1;⟨o,aD⟩
 frame:=fun _ _ _ st hk=>⟨MA st.1 fun o e=>hk it (by simp) o e,aaD st.2 fun o e=>hk t (by simp) o e⟩
 item:=fun i s Q E aE st fV=>Pj st.1 st.2 (x:=items[i]) (by simp[aE]) fun h' J7 mv=>fV _ h' s.toks (by simp[aE]) ⟨J7,st.2.extBut mv.extBut lQ⟩ mv
 done:=fun s Q E st qB=>PQ dM st.1 st.2 (by simp) qB
structure tQ(z dW dt d1 dj:ah)(mm mn:List ah):Prop where
 TIz:dW≠z
 TOz:dt≠z
 i1z:d1≠z
 i2z:dj≠z
 TITO:dW≠dt
 TIi1:dW≠d1
 TIi2:dW≠dj
 TOi1:dt≠d1
 TOi2:dt≠dj
 ea:z∉mm
 xm:dt∉mm
 E5:dj∉mm
 el:z∉mn
 xn:dt∉mn
 z5:d1∉mn
section
variable {prog:cW} {w:cD} {A:c1} {E:al->aJ->Prop} {s:aJ}
variable {z dW dt d1 dj:ah} {mm mn:List ah} {d9 es i:Nat} {tF tG:Nat->al->Prop} {m1 m2:Nat->bb->Prop}
theorem Draws.but{A:c1}{b:ah}{i:Nat}{P:Nat->al->Prop}{St:Nat->bb->Prop}(D:Draws prog w A it bX n P St)(x:bb.ExtBut b h h')(ao:b∉bX)(st:St i h):St i h' :=
 D.frame i h h' st fun c hc o e=>x c o (fun z=>ao (z ▸ hc)) e
theorem RX{a b:al}(cB:Draws prog w A d1 mm d9 tF m1)(jx:Draws prog w A dj mn es tG m2)(Z:tQ z dW dt d1 dj mm mn)(bw:IsZip s.heap z dW dt .none)(rT:IsPair s.heap dW (.ref d1) (.ref dj))(rU:IsPair s.heap dt a b)(dA:i<d9)(dx:i<es)(t1:m1 i s.heap)(gi:m2 i s.heap)
  (fV:∀x y h' c0,tF i x->tG i y->IsZip h' z dW dt (rawInt s.heap.objs.size)->IsPair h' dt x y->m1 (i+1) h'->m2 (i+1) h'->IsPair h' s.heap.objs.size x y->(∀c o,c≠z->c≠dt->c≠d1->c≠dj->s.heap.get? c=J o->h'.get? c=J o)->Q (.ref s.heap.objs.size) {s with heap:=h',toks:=c0}) :
  bK (model prog w) A (dh.«zip.__next__» ⟨[.ref z],[]⟩) (fun aZ aR=>∃v,aZ=.done (.ret v)/\Q v aR) E s:=by
 show bK _ _ (field (.ref z) 2 >>= _) _ _ _
 refine bQ (iW bw I (x :=.bool ay) I ?_)
 show bK _ _ (field (.ref z) 3 >>= _) _ _ _
 refine bQ (iW bw I (x :=.ref dW) I (bQ (qZ rT I ?_)))
 show bK _ _ (dh.SmallTypes.ownedTupleIsFree (.ref z) >>= _) _ _ _
 refine bQ ?_
 unfold dh.SmallTypes.ownedTupleIsFree
 refine bQ (iW bw I (x :=.none) I (eF ?_))
 simp only[if_true]
 refine bQ (wpAny_rule (bQ (iW bw I (x :=.ref dt) I (bQ (vj bw (by simp) fun bz qX mM=>?_)))))
 replace qX:IsZip bz z dW dt .ellipsis:=qX
 refine bQ ?_
 simp only[List.zipIdx_cons,List.zipIdx_nil,List.forIn_cons,List.forIn_nil]
 refine bQ (bQ (wpAny_onRaise ?_))
 show bK _ _ (dh.SmallTypes.nextOf (.ref d1) >>= _) _ _ _
 refine bQ (cB.item i _ _ _ dA (Draws.but cB mM.extBut Z.ea t1) fun x ao Mw da de l3=>eF ?_)
 have dD:IsPair ao dt a b:=l3.extBut _ _ Z.TOi1 (mM.extBut _ _ Z.TOz rU)
 refine bQ (qZ dD I (bQ (wpAny_updateSeq_pair dD fun hc h2 gQ=>?_)))
 replace h2:IsPair hc dt x b:=h2
 refine bQ (wpAny_letGo (eF ?_))
 refine bQ (bQ (wpAny_onRaise ?_))
 show bK _ _ (dh.SmallTypes.nextOf (.ref dj) >>= _) _ _ _
 refine bQ (jx.item i _ _ _ dx (Draws.but jx gQ.extBut Z.xn (Draws.but jx l3.extBut Z.z5 (Draws.but jx mM.extBut Z.el gi))) fun y hd aaq cm aan jS=>eF ?_)
 have od:IsPair hd dt x b:=jS.extBut _ _ Z.TOi2 h2
 refine bQ (qZ od I (bQ (wpAny_updateSeq_pair od fun he eQ xe=>?_)))
 replace eQ:IsPair he dt x y:=eQ
 refine bQ (wpAny_letGo (eF (eF ?_)))
 refine bQ (qZ eQ I (bQ (wpAny_newTuple ?_)))
 have cS:he.objs.size=s.heap.objs.size:=by rw[xe.1,jS.1,gQ.1,l3.1,mM.1]
 have MS:IsZip he z dW dt .ellipsis:=xe.extBut _ _ Z.TOz.symm (jS.extBut _ _ Z.i2z.symm (gQ.extBut _ _ Z.TOz.symm (l3.extBut _ _ Z.i1z.symm qX)))
 have KL:z<he.objs.size:=en MS
 show bK _ _ (dh.SmallTypes.ownedTupleHandOut (.ref z) (.ref he.objs.size) >>= _) _ _ _
 refine bQ ?_
 unfold dh.SmallTypes.ownedTupleHandOut
 refine bQ (vj (show IsZip (he.push {cls :=.type "tuple",data :=.seq #[x,y]}) z dW dt .ellipsis from fF _ MS) (by simp) fun aQ F6 xS=>?_)
 replace F6:IsZip aQ z dW dt (rawInt he.objs.size):=F6
 refine vj F6 (by simp) fun aN AX MM=>eF ⟨_,I,?_⟩
 replace AX:IsZip aN z dW dt (rawInt he.objs.size):=AX
 have up:bb.ExtBut z he aN:=fun c o dm e=>MM.extBut _ _ dm (xS.extBut _ _ dm (fF _ e))
 have pn:IsPair aN he.objs.size x y:=MM.extBut _ _ (Nat.ne_of_gt KL) (xS.extBut _ _ (Nat.ne_of_gt KL) (gZ _ rfl))
 have aao:m1 (i+1) aN:=Draws.but cB up Z.ea (Draws.but cB xe.extBut Z.xm (Draws.but cB jS.extBut Z.E5 (Draws.but cB gQ.extBut Z.xm de)))
 have aap:m2 (i+1) aN:=Draws.but jx up Z.el (Draws.but jx xe.extBut Z.xn aan)
 show Q (.ref he.objs.size) _
 rw[cS]at AX pn ⊢
 exact fV x y aN aaq da cm AX (up _ _ Z.TOz eQ) aao aap pn fun c o dm ee eu nc e=>up c o dm (xe.extBut _ _ ee (jS.extBut _ _ nc (gQ.extBut _ _ ee (l3.extBut _ _ eu (mM.extBut _ _ dm e)))))
theorem SO{a b:al}{Q:Fin->aJ->Prop}(cB:Draws prog w A d1 mm d9 tF m1)(jx:Draws prog w A dj mn es tG m2)(Z:tQ z dW dt d1 dj mm mn)(bw:IsZip s.heap z dW dt .none)(rT:IsPair s.heap dW (.ref d1) (.ref dj))(rU:IsPair s.heap dt a b)(l:i=d9\/(i<d9/\i=es))(t1:m1 i s.heap)(gi:m2 i s.heap)
  (qB:∀h' e c0,(∀c o,c≠z->c≠dt->c≠d1->c≠dj->s.heap.get? c=J o->h'.get? c=J o)->(∃o,h'.get? e=J o/\o.cls=.type "StopIteration")->E (.ref e) {s with heap:=h',toks:=c0}) :
  bK (model prog w) A (dh.«zip.__next__» ⟨[.ref z],[]⟩) Q E s:=by
 show bK _ _ (field (.ref z) 2 >>= _) _ _ _
 refine bQ (iW bw I (x :=.bool ay) I ?_)
 show bK _ _ (field (.ref z) 3 >>= _) _ _ _
 refine bQ (iW bw I (x :=.ref dW) I (bQ (qZ rT I ?_)))
 show bK _ _ (dh.SmallTypes.ownedTupleIsFree (.ref z) >>= _) _ _ _
 refine bQ ?_
 unfold dh.SmallTypes.ownedTupleIsFree
 refine bQ (iW bw I (x :=.none) I (eF ?_))
 simp only[if_true]
 refine bQ (wpAny_rule (bQ (iW bw I (x :=.ref dt) I (bQ (vj bw (by simp) fun bz qX mM=>?_)))))
 replace qX:IsZip bz z dW dt .ellipsis:=qX
 refine bQ ?_
 simp only[List.zipIdx_cons,List.zipIdx_nil,List.forIn_cons,List.forIn_nil]
 refine bQ (bQ (wpAny_onRaise ?_))
 show bK _ _ (dh.SmallTypes.nextOf (.ref d1) >>= _) _ _ _
 rcases l with rfl|⟨dA,rfl⟩
 ·refine bQ (cB.done _ _ _ (Draws.but cB mM.extBut Z.ea t1) fun ao e l3 he=>?_)
  obtain⟨eQ,ge,ce⟩:=he
  have vf:IsZip ao z dW dt .ellipsis:=l3 _ _ Z.i1z.symm qX
  have DB:e≠z:=fun x=>by subst x;rw[vf]at ge;cases ge;simp at ce
  exact vj vf (by simp) fun hc _ gQ=>qB hc e s.toks (fun c o dm _ eu _ g=>gQ.extBut _ _ dm (l3 _ _ eu (mM.extBut _ _ dm g))) ⟨eQ,gQ.extBut _ _ DB ge,ce⟩
 ·refine bQ (cB.item i _ _ _ dA (Draws.but cB mM.extBut Z.ea t1) fun x ao Mw da de l3=>eF ?_)
  have dD:IsPair ao dt a b:=l3.extBut _ _ Z.TOi1 (mM.extBut _ _ Z.TOz rU)
  refine bQ (qZ dD I (bQ (wpAny_updateSeq_pair dD fun hc h2 gQ=>?_)))
  refine bQ (wpAny_letGo (eF ?_))
  refine bQ (bQ (wpAny_onRaise ?_))
  show bK _ _ (dh.SmallTypes.nextOf (.ref dj) >>= _) _ _ _
  refine bQ (jx.done _ _ _ (Draws.but jx gQ.extBut Z.xn (Draws.but jx l3.extBut Z.z5 (Draws.but jx mM.extBut Z.el gi))) fun hd e jS he=>?_)
  obtain⟨eQ,ge,ce⟩:=he
  have MR:IsZip hd z dW dt .ellipsis:=jS _ _ Z.i2z.symm (gQ.extBut _ _ Z.TOz.symm (l3.extBut _ _ Z.i1z.symm qX))
  have DB:e≠z:=fun x=>by subst x;rw[MR]at ge;cases ge;simp at ce
  exact vj MR (by simp) fun aQ _ xS=>qB aQ e Mw (fun c o dm ee eu nc g=>xS.extBut _ _ dm (jS _ _ nc (gQ.extBut _ _ ee (l3.extBut _ _ eu (mM.extBut _ _ dm g))))) ⟨eQ,xS.extBut _ _ DB ge,ce⟩
theorem Ph{a b:al}{Q:Option al->aJ->Prop}(cB:Draws prog w A.in1 d1 mm d9 tF m1)(jx:Draws prog w A.in1 dj mn es tG m2)(Z:tQ z dW dt d1 dj mm mn)(bw:IsZip s.heap z dW dt .none)(rT:IsPair s.heap dW (.ref d1) (.ref dj))(rU:IsPair s.heap dt a b)(dA:i<d9)(dx:i<es)(t1:m1 i s.heap)(gi:m2 i s.heap)
  (fV:∀x y h' c0,tF i x->tG i y->IsZip h' z dW dt (rawInt s.heap.objs.size)->IsPair h' dt x y->m1 (i+1) h'->m2 (i+1) h'->IsPair h' s.heap.objs.size x y->(∀c o,c≠z->c≠dt->c≠d1->c≠dj->s.heap.get? c=J o->h'.get? c=J o)->Q (J (.ref s.heap.objs.size)) {s with heap:=h',toks:=c0}) :
  bK (model prog w) A (pyNext (.ref z)) Q E s:=by
 have cF:s.TypeIs (.ref z) "zip":=⟨_,bw,rfl⟩
 unfold pyNext
 exact bQ (wpAny_attempt (wpAny_callSpecial?_slot (name:=af.ofString "__next__") cF F.slot_zip_next (wpAny_call_entry F.slot_zip_next cF F.entry_zip_next (RX cB jx Z bw rT rU dA dx t1 gi fun x y h' c0 a1 a2 a3 a4 a5 a6 a7 a8=>eF (fV x y h' c0 a1 a2 a3 a4 a5 a6 a7 a8)) (F.args_zip_next_1 _))))
theorem PN{a b:al}{Q:Option al->aJ->Prop}(cB:Draws prog w A.in1 d1 mm d9 tF m1)(jx:Draws prog w A.in1 dj mn es tG m2)(Z:tQ z dW dt d1 dj mm mn)(bw:IsZip s.heap z dW dt .none)(rT:IsPair s.heap dW (.ref d1) (.ref dj))(rU:IsPair s.heap dt a b)(l:i=d9\/(i<d9/\i=es))(t1:m1 i s.heap)(gi:m2 i s.heap)
  (fV:∀h' c0,(∀c o,c≠z->c≠dt->c≠d1->c≠dj->s.heap.get? c=J o->h'.get? c=J o)->Q aw {s with heap:=h',toks:=c0}) :
  bK (model prog w) A (pyNext (.ref z)) Q E s:=by
 have cF:s.TypeIs (.ref z) "zip":=⟨_,bw,rfl⟩
 unfold pyNext
 refine bQ (wpAny_attempt (wpAny_callSpecial?_slot (name:=af.ofString "__next__") cF F.slot_zip_next (wpAny_call_entry F.slot_zip_next cF F.entry_zip_next (SO cB jx Z bw rT rU l t1 gi fun h' e c0 hk he=>?_) (F.args_zip_next_1 _))))
 obtain⟨o,aD,hc⟩:=he
 exact bQ (wpAny_isInstance (T:="StopIteration") (b:=au) ⟨o,aD,hc⟩ isSubtype_stop (eF (fV _ _ hk)))
end
theorem abu{a b:Nat}(aq:a<n)(az:b<n):tQ (n+4) (n+2) (n+3) n (n+1) [n,a] [n+1,b]:=by
 have nm:∀{x y z:Nat},x≠y->x≠z->x∉[y,z]:=fun ba bg h=>by
  rcases dy.mp h with h|h
  .exact ba h
  .exact bg (hq.mp h)
 refine⟨?_,?_,?_,?_,?_,?_,?_,?_,?_,nm ?_ ?_,nm ?_ ?_,nm ?_ ?_,nm ?_ ?_,nm ?_ ?_,nm ?_ ?_⟩<;>(show(_:Nat)≠_;omega)
section
variable {prog:cW} {w:cD} {A:c1} {E:al->aJ->Prop} {s:aJ}
noncomputable abbrev AY(h:bb)(a:ah):bb:=h.push {cls :=.type "list_iterator",data :=.fields #[.ref a,.int 0 0]}
noncomputable abbrev AZ(h:bb)(a b:ah):bb:=(AY h a).push {cls :=.type "tuple_iterator",data :=.fields #[.ref b,.int 0 0]}
noncomputable abbrev A0(h:bb)(a b:ah):bb:=(AZ h a b).push {cls :=.type "tuple",data :=.seq #[.ref h.objs.size,.ref (AY h a).objs.size]}
noncomputable abbrev A1(h:bb)(a b:ah):bb:=(A0 h a b).push {cls :=.type "tuple",data :=.seq #[.none,.none]}
noncomputable abbrev vg(h:bb)(a b:ah):bb:=(A1 h a b).push {cls :=.type "zip",data :=.fields #[.none,.bool ay,.bool ay,.ref (AZ h a b).objs.size,.ref (A0 h a b).objs.size]}
theorem RY(a b:ah)(xs aM:Array al):
  Meets (dh.«zip.__new__» ⟨[.type "zip",.ref a,.ref b],[]⟩) (fun _ R s=>s.heap.IsList a xs/\s.heap.IsTuple b aM/\R (.ok (.ret (.ref (A1 s.heap a b).objs.size))) {s with heap:=vg s.heap a b}) :=
 .of_wp fun prog w A R s h=>by
  obtain⟨bh,g,d,c0,os⟩:=s
  obtain⟨ba,bg,h⟩:=h
  have Wn:=sub_zip
  have jN:bb.IsList (aJ.heap ⟨bh,g,d,c0,os⟩) a xs:=ba
  have jr:bb.IsTuple (aJ.heap ⟨bh.push {cls :=.type "list_iterator",data :=.fields #[.ref a,.int 0 0]},g,d,c0,os⟩) b aM:=bb.IsTuple.push bg _
  wp_walk using wpAny_pyIter_list jN,wpAny_pyIter_tuple jr
  exact⟨_,I,h⟩
theorem RP{b:ah}{xs aM:Array al}(ba:s.heap.IsList a xs)(bg:s.heap.IsTuple b aM)
  (h:∀h',IsZip h' (s.heap.objs.size+4) (s.heap.objs.size+2) (s.heap.objs.size+3) .none->IsPair h' (s.heap.objs.size+2) (.ref s.heap.objs.size) (.ref (s.heap.objs.size+1))->IsPair h' (s.heap.objs.size+3) .none .none->h'.IsListIter s.heap.objs.size a 0->h'.IsTupleIter (s.heap.objs.size+1) b 0->(∀c o,s.heap.get? c=J o->h'.get? c=J o)->Q (.ref (s.heap.objs.size+4)) {s with heap:=h'}) :
  bK (model prog w) A (call (.type "zip") [.ref a,.ref b]) Q E s:=by
 refine callType_new F.called_zip (by decide) (F.typeCall_zip_2 _ _) (F.newCall_zip_2 _ _) (fun obj=>F.args_object_init_3 obj _ _) F.entry_zip_new (RY a b xs aM) ⟨ba,bg,?_⟩
 have up:∀{h:bb}{c o eh},h.get? c=J o->(h.push eh).get? c=J o:=fun e=>fF _ e
 have s1:(AY s.heap a).objs.size=s.heap.objs.size+1:=bb.size_push ..
 have s2:(AZ s.heap a b).objs.size=s.heap.objs.size+2:=by rw[bb.size_push,s1]
 have hL:(A0 s.heap a b).objs.size=s.heap.objs.size+3:=by rw[bb.size_push,s2]
 have pU:(A1 s.heap a b).objs.size=s.heap.objs.size+4:=by rw[bb.size_push,hL]
 have DE:(vg s.heap a b).get? (A1 s.heap a b).objs.size=J _:=gZ _ rfl
 have uf:(vg s.heap a b).get? (A0 s.heap a b).objs.size=J _:=up (gZ _ rfl)
 have g3:(vg s.heap a b).get? (AZ s.heap a b).objs.size=J _:=up (up (gZ _ rfl))
 have g2:(vg s.heap a b).get? (AY s.heap a).objs.size=J _:=up (up (up (gZ _ rfl)))
 have g1:(vg s.heap a b).get? s.heap.objs.size=J _:=up (up (up (up (gZ _ rfl))))
 show _/\_
 rw[s2,hL,pU]at DE
 rw[hL]at uf
 rw[s1,s2]at g3
 rw[s1]at g2
 rw[pU]
 exact⟨⟨_,DE,I⟩,h _ DE g3 uf ⟨_,g1,I,I⟩ ⟨_,g2,I,I⟩ fun c o e=>up (up (up (up (up e))))⟩
end
noncomputable def ya(K:bH)(a b:ah)(xs aM:List V):jW :=
 ⟨fun i H=>dr K H a xs/\fm K H b aM/\i<min xs.length aM.length,fun i H x ai=>∃(T:ah)(u v:V),H T=aw/\xs[i]?=J u/\aM[i]?=J v/\x=.ref T/\ai=upd H T (.tup [u,v]),fun i H=>dr K H a xs/\fm K H b aM/\min xs.length aM.length<=i⟩
theorem ff{xs:Array al}(x:IsTup h a xs):h.IsTuple a xs:=x
theorem QD(a b z dW dt d1 dj:ah)(xs aM:List V)(d9:a≠d1)(es:b≠dj)(D:tQ z dW dt d1 dj [d1,a] [dj,b]):
  Turn P w K (.Tuple elts k aX) (ya K a b xs aM) [z,dW,dt,d1,dj] z (fun i h=>i<=min xs.length aM.length/\IsZip h z dW dt .none/\IsPair h dW (.ref d1) (.ref dj)/\(∃a b,IsPair h dt a b)/\h.IsListIter d1 a i/\h.IsTupleIter dj b i) where
 mem:=by simp
 obj:=fun i h st c hc=>by
  obtain⟨_,lj,jv,⟨p,q,lk⟩,qR,kc⟩:=st
  rcases dy.mp hc with e|hc
  .subst e;exact⟨_,lj,fun v z=>by cases z⟩
  rcases dy.mp hc with e|hc
  .subst e;exact⟨_,jv,fun v z=>by cases z⟩
  rcases dy.mp hc with e|hc
  .subst e;exact⟨_,lk,fun v z=>by cases z⟩
  rcases dy.mp hc with e|hc
  ·subst e
   obtain⟨o,e,c,d⟩:=qR
   exact⟨o,e,fun v z=>by rw[d]at z;cases z⟩
  ·obtain rfl:=hq.mp hc
   obtain⟨o,e,c,d⟩:=kc
   exact⟨o,e,fun v z=>by rw[d]at z;cases z⟩
 keep:=fun i h h' st k=>by
  obtain⟨aE,lj,jv,⟨p,q,lk⟩,qR,kc⟩:=st
  exact⟨aE,k z (by simp) _ lj,k dW (by simp) _ jv,⟨p,q,k dt (by simp) _ lk⟩,qR.at fun o e=>k d1 (by simp) o e,MA kc fun o e=>k dj (by simp) o e⟩
 item:=by
  intro X c7 hw gN hc i aj s ae H E aa aQ st aN
  subst c7 hw gN
  obtain⟨w4,pG,aE⟩:=aN
  obtain⟨jM,xA,da,Kv⟩:=aa.list w4
  obtain⟨gA,xB,cm,Kw⟩:=aa.tuple pG
  have VT:=xA.length
  have VU:=xB.length
  obtain⟨_,lj,jv,⟨xq,X7,lk⟩,qR,kc⟩:=st
  have dM:=aa.ok.hd hc
  refine Ph (i:=i) (Draws.list (A:=X.A.in1) dM d1 a d9 jM.toArray) (Draws.tup (A:=X.A.in1) dM dj b es gA.toArray) D lj jv lk (by rw[eV];omega) (by rw[eV];omega) ⟨qR,da.isList⟩ ⟨kc,ff cm⟩ fun h6 dR h' c0 r7 r8 dm ee eu nc jE er=>?_
  refine⟨_,I,wpAny_letOwnedTupleGo_zip dm fun JG TP aa3=>?_⟩
  have Wv:jM[i]?=J h6:=by simpa using r7
  have Ww:gA[i]?=J dR:=by simpa using r8
  have mx:xs[i]?=J (xs[i]'(by omega)):=cV _
  have Kt:aM[i]?=J (aM[i]'(by omega)):=cV _
  obtain⟨v1,k9,xy⟩:=xA.get mx
  obtain⟨v2,mw,eX⟩:=xB.get Kt
  rw[Wv]at k9;cases k9
  rw[Ww]at mw;cases mw
  have cF:s.heap.objs.size<=s.heap.objs.size:=cQ _
  have Ea:=aa.aU.fresh cF
  have lt:∀{c o},s.heap.get? c=J o->c≠s.heap.objs.size:=fun e=>fE (en e)
  have KS:∀c∈[z,dW,dt,d1,dj],c≠s.heap.objs.size:=fun c gW=>by
   rcases dy.mp gW with e|gW
   .rw[e];exact lt lj
   rcases dy.mp gW with e|gW
   .rw[e];exact lt jv
   rcases dy.mp gW with e|gW
   .rw[e];exact lt lk
   rcases dy.mp gW with e|gW
   .rw[e];obtain⟨o,e,_⟩:=qR;exact lt e
   .rw[hq.mp gW];obtain⟨o,e,_⟩:=kc;exact lt e
  have uD:bb.ExtBut z h' JG:=aa3.extBut
  refine⟨.ref s.heap.objs.size,upd H s.heap.objs.size (.tup [xs[i]'(by omega),aM[i]'(by omega)]),?_,I,⟨_,_,_,Ea,mx,Kt,I,I⟩,⟨by omega,TP,uD _ _ D.TIz (er _ _ D.TIz D.TITO D.TIi1 D.TIi2 jv),⟨_,_,uD _ _ D.TOz ee⟩,eu.1.extBut uD D.i1z,nc.1.extBut uD D.i2z⟩,fun c gW=>?_⟩
  ·refine aa.MC (ch:=[z,dt,d1,dj]) (t':=c0) (fun c o pD Ds=>?_) (fun c gW=>aQ c ?_) cF ?_
   ·have nn:∀{d:ah},d∈[z,dt,d1,dj]->c≠d:=fun hd e=>pD (e ▸ hd)
    exact uD c o (nn (by simp)) (er c o (nn (by simp)) (nn (by simp)) (nn (by simp)) (nn (by simp)) Ds)
   ·rcases dy.mp gW with e|gW
    .rw[e];simp
    .exact eo _ (eo _ gW)
   ·refine⟨by show 2<=bW;decide,[h6,dR],.cons xy (.cons eX .nil),?_⟩
    exact⟨_,uD _ _ (KS z (by simp)).symm jE,I,_,I⟩
  ·rw[cn (KS c gW)]
   exact(aQ c gW).1
 done:=by
  intro X c7 hw gN hc i aj s ae H E aa aQ st aN
  subst c7 hw gN
  obtain⟨w4,pG,aE⟩:=aN
  obtain⟨jM,xA,da,Kv⟩:=aa.list w4
  obtain⟨gA,xB,cm,Kw⟩:=aa.tuple pG
  have VT:=xA.length
  have VU:=xB.length
  obtain⟨hle,lj,jv,⟨xq,X7,lk⟩,qR,kc⟩:=st
  have dM:=aa.ok.hd hc
  refine PN (i:=i) (Draws.list (A:=X.A.in1) dM d1 a d9 jM.toArray) (Draws.tup (A:=X.A.in1) dM dj b es gA.toArray) D lj jv lk (by rw[eV,eV];omega) ⟨qR,da.isList⟩ ⟨kc,ff cm⟩ fun h' c0 er=>⟨I,aa.MB (ch:=[z,dt,d1,dj]) (t':=c0) (fun c o pD Ds=>?_) fun c gW=>aQ c ?_⟩
  ·have nn:∀{d:ah},d∈[z,dt,d1,dj]->c≠d:=fun hd e=>pD (e ▸ hd)
   exact er c o (nn (by simp)) (nn (by simp)) (nn (by simp)) (nn (by simp)) Ds
  ·rcases dy.mp gW with e|gW
   .rw[e];simp
   .exact eo _ (eo _ gW)
 self:=fun A i s Q E st h=>wpAny_pyIter_zip st.2.1 h
section
variable {X:bj}
def WQ(K:bH)(cE:hg):dW:=fun ae H R=>cE ae H fun vs H1=>∃a b xs aM,vs=[.ref a,.ref b]/\dr K H1 a xs/\fm K H1 b aM/\R (ya K a b xs aM) H1
theorem IK{m:cq}{p:Pos}(aN:iI X "zip")(hm:X.mg "zip"=aw)(bz:ib X [l,m] cE)(hs:dN [l,m] X.env=[(ay,eval l X.env),(ay,eval m X.env)]:=by rfl)(c8:dN [m] X.env=[(ay,eval m X.env)]:=by rfl):
  iJ X (.Tuple elts k u6) (.Call (.Name "zip" p) [l,m] [] aX) (WQ X.K cE):=by
 intro aj s ae H R aa h
 refine Call_ (pd aa aN hm boot_zip (PyProof.Rows.callWith_type1 (cO (bz aX aj s ae H (fun vs H1=>∃a b xs aM,vs=[.ref a,.ref b]/\dr X.K H1 a xs/\fm X.K H1 b aM/\R (ya X.K a b xs aM) H1) aa h) fun us s1 ⟨vs,H1,bc,b5,cA⟩=>?_) (by rw[hs,c8]) (by rw[c8];rfl)))
 obtain⟨a,b,xs,aM,rfl,w4,pG,q⟩:=cA
 obtain⟨h6,dR,rfl,xy,eX⟩:=vals2 b5
 obtain rfl:h6=al.ref a:=xy
 obtain rfl:dR=al.ref b:=eX
 obtain⟨jM,xA,da,Kv⟩:=bc.list w4
 obtain⟨gA,xB,cm,Kw⟩:=bc.tuple pG
 have dA:a<s1.heap.objs.size:=by obtain⟨o,aD,_⟩:=da.isList;exact en aD
 have dx:b<s1.heap.objs.size:=by obtain⟨o,aD,_⟩:=ff cm;exact en aD
 refine RP da.isList (ff cm) fun h' ea el kD F5 oN er=>?_
 have bM:Inv X aj ae H1 {s1 with heap:=h'}:=bc.kept (t':=s1.toks) er
 refine wpAny_pyIter_zip ea ?_
 refine⟨_,_,_,_,H1,I,bM,QD a b _ _ _ _ _ xs aM (fE dA) (fE (Nat.lt_succ_of_lt dx)) (abu dA dx),⟨UF _,ea,el,⟨_,_,kD⟩,F5,oN⟩,fun c hc=>?_,q⟩
 have pC:s1.heap.objs.size<=c:=by
  rcases dy.mp hc with e|hc
  .rw[e];exact Nat.le_add_right ..
  rcases dy.mp hc with e|hc
  .rw[e];exact Nat.le_add_right ..
  rcases dy.mp hc with e|hc
  .rw[e];exact Nat.le_add_right ..
  rcases dy.mp hc with e|hc
  .rw[e];exact cQ _
  .rw[hq.mp hc];exact Nat.le_succ _
 exact bc.pq pC (bc.aU.fresh pC)
end
theorem HU{b:ah}{Q:bP}{D:ah}(i5:Nat->V)(S:St->Prop)(bw:min xs.length aM.length<=100000)(bt:S fk)(dz:H D=aw)(gz:dr K H a xs)(f7:fm K H b aM)
  (aO:∀i x y,xs[i]?=J x->aM[i]?=J y->∀bV H1 T,S bV->dJ H H1->H1 T=aw->∀R:St->V->ar->Prop,(∀bI bL,S bI->dJ (upd H1 T (.tup [x,y])) bL->R bI (i5 i) bL)->g (.ref T) bV (upd H1 T (.tup [x,y])) fun bI ax=>cH bI ax fun z bL=>R bI z bL)
  (aT:∀ai:ar,dJ H ai->ai D=J (.lst ((List.range (min xs.length aM.length)).map i5))->Q (.ref D) ai) :
  mP (ya K a b xs aM) g qU cH Q fk H D:=by
 refine⟨fun i m bV ax=>i<=min xs.length aM.length/\m=min xs.length aM.length-i/\S bV/\dJ H ax/\ax D=J (.lst ((List.range i).map i5)),⟨min xs.length aM.length,UF _,I,bt,c3 dz,aP⟩,?_⟩
 rintro i m bV ax ⟨aq,rfl,az,hs,lL⟩
 have cA:=hs.seq gz
 have cc:fm K ax b aM:=f7.elim (fun e =>.inl (e.elim (fun e =>.inl (hs _ _ e)) fun⟨o,e⟩ =>.inr ⟨o,hs _ _ e⟩)) .inr
 rcases jC i (min xs.length aM.length)with z|z
 ·refine .inr ⟨⟨cA,cc,z⟩,?_⟩
  rintro x bL ⟨T,u,v,cF,dZ,bS,rfl,rfl⟩
  refine aO i u v dZ bS bV ax T az hs cF (fun bI y e1=>∃zs cv,e1 D=J (.lst zs)/\zs.length<bW/\cv<min xs.length aM.length-i/\(i+1<=min xs.length aM.length/\cv=min xs.length aM.length-(i+1)/\S bI/\dJ H (upd e1 D (.lst (zs++[y])))/\upd e1 D (.lst (zs++[y])) D=J (.lst ((List.range (i+1)).map i5)))) fun bI e1 fx Kj=>?_
  have Xz:D≠T:=fun e=>by rw[e,cF]at lL;cases lL
  refine⟨(List.range i).map i5,min xs.length aM.length-(i+1),Kj _ _ (by rw[cn Xz];exact lL),?_,by omega,by omega,rfl,fx,?_,?_⟩
  ·rw[cI,kl]
   exact ez (show i<100000 by omega) (by decide)
  ·intro c o e
   rw[cn (gv e dz)]
   refine Kj c o ?_
   rw[cn (fun cR=>by rw[cR,hs.free cF]at e;cases e)]
   exact hs c o e
  .rw[aP,List.range_succ,ie];rfl
 ·have e:i=min xs.length aM.length:=by omega
  subst e
  exact .inl ⟨⟨cA,cc,cQ _⟩,aT ax hs lL⟩
noncomputable def inD(ns:List af):D->Bool
 |.str s=>ns.any fun n=>n == s
 |_=>ay
noncomputable def zx(d:D)(u:al):Bool:=match u with
 |.str n _=>(match d with|.str s=>n == s|_=>ay)
 |_=>ay
theorem IX(d:D):∀{ns:List af}{us:List al},Vals (ns.map V.str) us->us.any (zx d)=inD ns d
 |[],us,h=>by cases h;cases d<;>rfl
 |n::ns,us,h=>by
  obtain⟨u,r,rfl,⟨t,rfl⟩,aF⟩:∃u r,us=u::r/\RelV (.str n) u/\Vals (ns.map V.str) r:=by cases h with|cons a b=>exact⟨_,_,I,a,b⟩
  rw[List.any_cons,IX d aF]
  cases d<;>rfl
theorem Ie{u:al}:∀{ns:List af}{us:List al},Vals (ns.map V.str) us->u∈us->∃n t,u=.str n t
 |[],us,h,dZ=>by cases h;cases dZ
 |n::ns,us,h,dZ=>by
  obtain⟨v,r,rfl,⟨t,rfl⟩,aF⟩:∃u r,us=u::r/\RelV (.str n) u/\Vals (ns.map V.str) r:=by cases h with|cons a b=>exact⟨_,_,I,a,b⟩
  rcases dy.mp dZ with rfl|dZ
  .exact⟨n,t,I⟩
  .exact Ie aF dZ
section
variable {X:bj}
theorem QQ(dZ:X.A.units+64<cLine):dO X (hC .NotIn) (fun x y H Q=>∃p ns d,y=.ref p/\dr X.K H p (ns.map V.str)/\dI H d x/\Q (.aC (!inD ns d)) H):=by
 intro aj s ae H x y v u Q aa bl cw h
 obtain⟨p,ns,d,rfl,aT,hd,q⟩:=h
 cases cw
 obtain⟨aW,r,pl,bw⟩:=aa.list aT
 have r7:X.A.in1.units<cLine:=by show X.A.units+1<cLine;omega
 refine SeqAt.notIn_listAt (zx d) pl.isList (fun w hw=>?_) ⟨.aC _,H,aa,I,?_⟩
 ·obtain⟨n,t,rfl⟩:=Ie r (by simpa using hw)
  cases d with
  |aK=>obtain rfl:x=.aK:=hd;cases bl;exact SeqAt.EqAt.str_none n t
  |aC b=>obtain rfl:x=.aC b:=hd;cases bl;exact SeqAt.EqAt.str_bool n t b
  |int i=>obtain rfl:x=.int i:=hd;obtain⟨t',rfl⟩:=bl;exact SeqAt.EqAt.str_int n t i t'
  |str z=>obtain⟨rfl,_⟩:=hd;obtain⟨t',rfl⟩:=bl;exact SeqAt.EqAt.str_str n t z t'
  |tup ds =>
   obtain⟨a,vs,rfl,e,_⟩:=hd
   cases bl
   obtain⟨its',dE,pQ,_⟩:=aa.tuple (fm.of e)
   exact SeqAt.EqAt.str_tuple n t (ff pQ) r7
  |lst ds =>
   obtain⟨a,vs,rfl,e,_⟩:=hd
   cases bl
   obtain⟨its',dE,pQ,_⟩:=aa.list (dr.of e)
   exact SeqAt.EqAt.str_list n t pQ.isList r7
 ·rw[show aW.toArray.any (zx d)=aW.any (zx d) by simp,IX d r]
  exact q
end
variable {f:bq}
theorem qj{k:Fin 4}(h:slot f=.b k):f=.bare k:=by
 cases f with
 |bare j=>injection h with h;rw[h]
 |sp a b=>cases h
 |le s=>cases h
 |one j f=>cases h
 |two j ns fs=>cases h
theorem IG(h:slot f=.s):∃a b,f=.sp a b:=by
 cases f with
 |sp a b=>exact⟨a,b,I⟩
 |bare j=>cases h
 |le s=>cases h
 |one j f=>cases h
 |two j ns fs=>cases h
theorem IH(h:slot f=.l):∃s,f=.le s:=by
 cases f with
 |le s=>exact⟨s,I⟩
 |sp a b=>cases h
 |bare j=>cases h
 |one j f=>cases h
 |two j ns fs=>cases h
theorem tR{k:Fin 3}(h:slot f=.o k):∃g,f=.one k g:=by
 cases f with
 |one j g=>injection h with h;rw[h];exact⟨g,I⟩
 |sp a b=>cases h
 |bare j=>cases h
 |le s=>cases h
 |two j ns fs=>cases h
theorem y1{k:Fin 2}(h:slot f=.t k):∃ns fs,f=.two k ns fs:=by
 cases f with
 |two j ns fs=>injection h with h;rw[h];exact⟨ns,fs,I⟩
 |sp a b=>cases h
 |bare j=>cases h
 |le s=>cases h
 |one j f=>cases h
theorem fl.get{c:fX}{X:List ah}{H:ar}:∀(fs:List bq){os:List ah}{i:Nat}{o:ah},fl c X H fs os->os[i]?=J o->∃f,fs[i]?=J f/\dn c X H f o
 |[],os,i,o,h,e=>by
  obtain rfl:os=[]:=h
  cases e
 |f::fs,os,0,o,h,e=>by
  obtain⟨eh,r,rfl,q,cc⟩:=h
  cases e
  exact⟨f,I,q⟩
 |f::fs,os,i+1,o,h,e=>by
  obtain⟨eh,r,rfl,q,cc⟩:=h
  exact fl.get fs cc e
theorem CD:∀{fs:List bq}{i:Nat}{f:bq},qN fs->fs[i]?=J f->mB f/\aO f<=fA fs
 |[],i,f,h,e=>by cases e
 |g::fs,0,f,h,e=>by
  cases e
  rw[qN]at h
  rw[fA]
  exact⟨h.1,Nat.le_max_left ..⟩
 |g::fs,i+1,f,h,e=>by
  rw[qN]at h
  have:=CD h.2 e
  rw[fA]
  exact⟨this.1,dp this.2 (Nat.le_max_right ..)⟩
theorem ni:∀k:Fin 4,k=0\/k=1\/k=2\/k=3:=by decide
theorem og:∀k:Fin 3,k=0\/k=1\/k=2:=by decide
theorem rM:∀k:Fin 2,k=0\/k=1:=by decide
section
variable {P:cW} {w:cD} {K:bH} {mg:af->Option al} {base:bb}
structure MethAt(K:bH)(C:ah)(m dH:af)(st:bG)(aI:List af):Prop where
 ex:∃f fd,dV K m dH st f fd/\Binds K fd aI []/\tB K C m f
 cl:h8 K C
theorem HK{st:bG}{sp:cT}(M:MethAt K C m dH st aI)(h:∀vs H Q E,¬sp vs H Q E):tC P w K mg base k C m aI sp:=by
 obtain⟨f,fd,F,ao,hm⟩:=M.ex
 exact⟨f,fd,⟨fun vs H Q E q=>absurd q (h _ _ _ _),fun A outer s H args us vs Q E _ _ _ _ q=>absurd q (h _ _ _ _)⟩,ao,hm⟩
end
mutual
noncomputable def nz(has:gT->Bool):bq->Prop
 |.bare k=>has (.b k)=au
 |.sp _ _=>has .s=au
 |.le _=>has .l=au
 |.one k f=>has (.o k)=au/\nz has f
 |.two k _ fs=>has (.t k)=au/\qG has fs
noncomputable def qG(has:gT->Bool):List bq->Prop
 |[]=>True
 |f::fs=>nz has f/\qG has fs
end
def nC(has:gT->Bool)(f:bq):Prop:=mB f/\nz has f
def Aj(has:gT->Bool)(fs:List bq):Prop:=qN fs/\qG has fs
variable {has:gT->Bool}
theorem nC.one{k:Fin 3}(h:nC has (.one k f)):nC has f:=by
 obtain⟨a,b⟩:=h
 rw[mB]at a
 rw[nz]at b
 exact⟨a,b.2⟩
theorem nC.two{k:Fin 2}{fs:List bq}(h:nC has (.two k ns fs)):jI ns=au/\ns.length=fs.length/\Aj has fs:=by
 obtain⟨a,b⟩:=h
 rw[mB]at a
 rw[nz]at b
 exact⟨a.1,a.2.1,a.2.2,b.2⟩
theorem Il{has:gT->Bool}:∀{fs:List bq}{i:Nat}{f:bq},qG has fs->fs[i]?=J f->nz has f
 |[],i,f,h,e=>by cases e
 |g::fs,0,f,h,e=>by
  cases e
  rw[qG]at h
  exact h.1
 |g::fs,i+1,f,h,e=>by
  rw[qG]at h
  exact Il h.2 e
theorem Aj.get{fs:List bq}(h:Aj has fs)(e:fs[i]?=J f):nC has f/\aO f<=fA fs :=
 ⟨⟨(CD h.1 e).1,Il h.2 e⟩,(CD h.1 e).2⟩
theorem RJ{l:List Nat}(h:l[i]?=J c)(hk:∀k,k<i->l[k]?≠J c):l.idxOf c=i:=by
 induction l generalizing i with
 |nil=>cases h
 | cons a r cp =>
  cases i with
  |zero=>cases h;rw[List.idxOf_cons_self]
  |succ i =>
   have bz:a≠c:=fun e=>hk 0 (by omega) (by rw[e];rfl)
   have ao:(a == c)=ay:=by simpa using bz
   rw[List.idxOf_cons,ao]
   show r.idxOf c+1=i+1
   rw[cp h fun k hk' e=>hk (k+1) (by omega) e]
section
variable {X:bj}
theorem Qs:tD X "str.index" (fun x xs H Q=>∃(y:af)(c:Nat),x=.str y/\xs=[.str ⟨#[c]⟩]/\c∈y.cps.toList/\Q (.int ((y.cps.toList.idxOf c:Nat):Int)) H):=by
 intro aj s ae H x xs v us Q aa bl dG h
 obtain⟨y,c,rfl,rfl,hc,q⟩:=h
 obtain⟨t,rfl⟩:=bl
 obtain⟨u,rfl,t',rfl⟩:=dG.one
 rcases StrLaws.occ_head y ⟨#[c]⟩ 1 (cQ _)with⟨_,no⟩|⟨i,r,aD,iE,EC⟩
 ·obtain⟨i,aE⟩:=List.getElem?_of_mem hc
  exact absurd ((StrLaws.subAt_one y c i).mpr aE) (no i)
 ·have e:=RJ ((StrLaws.subAt_one y c i).mp iE) fun k hk z=>EC k hk ((StrLaws.subAt_one y c k).mpr z)
  rw[e]at q
  exact call_gives F.slot_str_index (typeIs_str s y t) F.entry_str_index (F.args_str_index_2 _ _) (gives_str_index y ⟨#[c]⟩ t t' i r aD) ⟨.int _,H,aa.tok _,⟨_,I⟩,q⟩
end
theorem QV{e:al}{JA:Env}(h:env.frame=JA.frame):noteFrame e env=noteFrame e JA:=by
 unfold noteFrame PySem.frameOf
 rw[h]
theorem IT{h h' base:bb}:∀{l:List Env},h.FunFrames base l->(∀b o,b∈l.filterMap (·.frame)->h.get? b=J o->(∀vs,o.data≠.fields vs)->h'.get? b=J o)->h'.FunFrames base l
 |[],_,_=>trivial
 |env::rest,aH,k=>by
  obtain⟨hk,⟨L,o,aQ,bf,aD,hd⟩,aF⟩:=aH
  have hm:L∈(env::rest).filterMap (·.frame):=by rw[List.filterMap_cons,aQ];exact gU
  refine⟨hk,⟨L,o,aQ,bf,k L o hm aD hd,hd⟩,IT aF fun b o ao=>k b o ?_⟩
  rw[List.filterMap_cons,aQ]
  exact eo _ ao
section
variable {M:Model} {A:c1} {E:al->aJ->Prop} {s:aJ} {base:bb} {env:Env} {outer:List Env} {L e T:ah} {Q:Unit->aJ->Prop} {cls:al} {d:Option ah} {fT:al}
theorem XT(pE:A.frames=J (env::outer))(aH:s.heap.FunFrames base (env::outer))(aQ:env.frame=J L)(aO:kI s.heap e cls d T fT)
  (h:∀h' dK,kI h' e cls d dK (rawInt L)->(dK=T\/s.heap.get? dK=aw)->h'.FunFrames base (env::outer)->vL ((env::outer).filterMap (·.frame)) e (J T) s.heap h'->Q () {s with heap:=h'}):bK M A (noteFrame (.ref e) env) Q E s:=by
 by_cases z:fT=rawInt L
 ·subst z
  obtain⟨eQ,vs,jt,iT,he,hc,lP,hd,aq,kW,cF,hF,bE,kZ⟩:=id aO
  exact wpAny_noteFrame_inFlight aQ he hd aq cF hF bE (h s.heap T aO (.inl I) aH ⟨fun b o _ _ _ e=>e,fun b o _ _ e=>⟨o.slots,e⟩⟩)
 obtain⟨eQ,vs,jt,iT,he,hc,lP,hd,aq,kW,cF,hF,bE,kZ⟩:=aO
 unfold noteFrame
 simp only[aQ]
 refine bQ (iW he hd aq ?_)
 rw[if_pos (show(al.ref T != al.none)=au from by simp)]
 refine bQ (iW cF hF bE ?_)
 rw[if_neg (show ¬((fT == rawInt L)=au)from fun y=>z (beq_iff_eq.mp y))]
 refine bQ (sV cF hF (Array.getElem?_eq_some_iff.mp bE).1 ?_)
 have other:∀b,b≠T->(s.heap.update T (bo.mapFields (·.setIfInBounds 3 al.none))).get? b=s.heap.get? b:=fun b ao=>bb.get?_update_other _ _ (e3 ao)
 have sk:∀b o,s.heap.get? b=J o->(∀vs,o.data≠.fields vs)->b≠T:=fun b o ao i8 q=>by
  rw[q,cF]at ao;injection ao with ao;subst ao;exact i8 iT hF
 have back:∀b,(s.heap.update T (bo.mapFields (·.setIfInBounds 3 al.none))).get? b=aw->s.heap.get? b=aw:=fun b ao=>by
  by_cases MU:b=T
  ·subst MU
   rw[bb.get?_update_self _ cF (bo.isFreed_of_fields (bo.data_mapFields hF _))]at ao;cases ao
  .rw[other b MU]at ao;exact ao
 subst hc
 refine Dv (s:={s with heap:=s.heap.update T (bo.mapFields (·.setIfInBounds 3 al.none))}) pE (aH.of_keeps fun b o ao i8=>⟨o,(other b (sk b o ao i8)).trans ao,I⟩) aQ ((other e (e3 kW)).trans he) hd (Array.getElem?_eq_some_iff.mp aq).1 lP fun h' dK e7 dF kB jd=>?_
 exact h h' dK e7 (.inr (back _ dF)) kB ⟨fun b o aq az bE cz=>jd.keep b o aq (by simp) bE ((other b (fun z=>az (by rw[z]))).trans cz),fun b o aq az cz=>jd.slot b o aq (by simp) ((other b (fun z=>az (by rw[z]))).trans cz)⟩
end
structure GZ(fs Z:List ah)(h h':bb):Prop where
 keep:∀b o,b∉Z->b∉fs->h.get? b=J o->h'.get? b=J o
 slot:∀b o,b∉Z->h.get? b=J o->∃dB,h'.get? b=J {o with slots:=dB}
theorem R6{s1:aJ}{Z:List ah}(aa:Inv X aj ae H1 s1)(av:X.ex=[])(S:GZ (ij X.stack) Z s1.heap h')
  (Ag:∀z,z∈Z->X.dq.heap.get? z=aw) (zB:∀z,z∈Z->H1 z=aw):fy (ij X.outer) [] X.iu H1 X.dq.heap h'/\fg X.prog X.w H1 h':=by
 have B:=aa.base
 rw[av]at B
 have Fl:∀b o,X.dq.heap.get? b=J o->b∉Z:=fun b o e z=>by rw[Ag b z]at e;cases e
 have qM:∀b o,X.dq.heap.get? b=J o->b≠X.env.locals:=fun b o e=>fE (ez (en e) aa.ok.above)
 refine⟨⟨fun b o e n ao av=>?_,fun b o e n ao av=>?_,B.free,fun b o e av=>?_,B.lq,B.kq,B.lp⟩,fun b u e=>(aa.aU b u e).nG (fun c v hc q=>?_) (fun _ q=>q) fun _ _ q=>q⟩
 ·refine S.keep b o (Fl b o e) (fun z=>?_) (B.keep b o e n ao av)
  exact(dy.mp (aa.qS b z)).elim (qM b o e) ao
 ·obtain⟨dB,ba⟩:=B.slot b o e n ao av
  obtain⟨ky,bg⟩:=S.slot b _ (Fl b o e) ba
  exact⟨ky,bg⟩
 ·obtain⟨eh,ba⟩:=B.there b o e av
  obtain⟨ky,bg⟩:=S.slot b _ (Fl b o e) ba
  exact⟨_,bg⟩
 ·have pD:∃z,H1 c=J z:=by
   rcases hc with rfl|hc
   .exact⟨_,e⟩
   .exact⟨_,hc⟩
  obtain⟨z,bw⟩:=pD
  refine S.keep c v (fun y=>?_) (fun y=>?_) q
  .rw[zB c y]at bw;cases bw
  .rw[aa.xM c y]at bw;cases bw
noncomputable def Fc(X:bj)(E:cC):al->aJ->Prop:=fun e aR=>bK (model X.prog X.w) X.A (leaving X.env e) (fun _ nF=>kh X.prog X.w X.outer X.iu X.dq E e nF) (fun cR nF=>kh X.prog X.w X.outer X.iu X.dq E cR nF) aR
theorem QB{E:cC}{wg:Env}{gr:aJ}{Cl:ah}{d:Option ah}
  (EW:X.xe=Fc X E) (hs:X.stack=X.env::X.outer) (aQ:X.env.frame=J X.env.locals) (hex:X.ex=[]) (aa:Inv X aj ae ax gr) (lJ:kI gr.heap a (.ref C) d T .none) (fa:ax a=aw) (j3:ax T=aw)
  (js:X.dq.heap.get? a=aw) (jO:X.dq.heap.get? T=aw) (q:E (.ref C) d ax) (pz:ax Cl=aw) (xk:X.dq.heap.get? Cl=aw) (U5:Cl∉ij X.stack) (Va:∃m,gr.heap.Ns Cl m) (Ei:wg.frame=X.env.frame) :
  notedBy (model X.prog X.w) X.A wg (fun e aR=>compPost (model X.prog X.w) X.A X.xe use Qf acc Cl (.error e) aR) (.ref a) gr:=by
 unfold notedBy
 rw[QV Ei]
 have fr:X.A.frames=J (X.env::X.outer):=aa.ok.frames.trans (congrArg J hs)
 have fst:gr.heap.FunFrames X.base (X.env::X.outer):=hs ▸ aa.stack
 have Jx:ij X.stack=(X.env::X.outer).filterMap (·.frame):=by rw[hs];rfl
 have JH:Cl∉(X.env::X.outer).filterMap (·.frame):=by rw[<-Jx];exact U5
 refine K1 fr fst aQ lJ fun fM dK e7 dF kB jd=>?_
 suffices wW:∃m,fM.Ns Cl m/\∀h',bb.SameBut Cl fM h'->∀wg:Env,wg.locals=Cl->bK (model X.prog X.w) X.A (PySem.passOn "comprehension.variables-let-go" (.ref a) wg:Sem al) (fun _ _=>False) X.xe {gr with heap:=h'} by
  cases use<;>exact wW
 obtain⟨m,Ah,aV,fK,EE,JV,ZB⟩:=Va
 have Fn:∀{h:bb}{b:ah}{o:bo}{vs:Array al},h.get? b=J o->o.data=.fields vs->h.get? Cl=J Ah->b≠Cl:=fun ba bg eZ z=>by
  subst z
  rw[ba]at eZ;cases eZ
  rw[JV]at bg;cases bg
 have zG:Cl≠a:=by
  obtain⟨eQ,vs,jt,iT,he,hc,lP,hd,_⟩:=lJ
  exact(Fn he hd EE).symm
 have U3:Cl≠T:=by
  obtain⟨eQ,vs,jt,iT,he,hc,lP,hd,aq,kW,cF,hF,_⟩:=lJ
  exact(Fn cF hF EE).symm
 have so:fM.get? Cl=J Ah:=jd.keep Cl Ah zG (fun z=>U3 (gk z)) JH EE
 refine⟨m,⟨Ah,aV,fK,so,JV,ZB⟩,fun h' mE Jr _=>?_⟩
 obtain⟨eQ,vs,jt,iT,he,hc,lP,hd,aq,kW,cF,hF,bE,kZ⟩:=id e7
 have U4:dK≠Cl:=Fn cF hF so
 have rX:h'.get? a=J eQ:=mE.extBut a eQ (e3 zG) he
 have um:h'.get? dK=J jt:=mE.extBut _ _ U4 cF
 have w6:3<iT.size:=(Array.getElem?_eq_some_iff.mp bE).1
 have step:bK (model X.prog X.w) X.A (setFlight (.ref a) Jr.frame) (fun _ mG=>X.xe (.ref a) mG) X.xe {gr with heap:=h'}:=by
  unfold setFlight
  refine bQ (iW rX hd aq ?_)
  rw[if_pos (show(al.ref dK != al.none)=au from by simp)]
  refine sV um hF w6 ?_
  generalize wQ:(Jr.frame.elim al.none fun f=>rawInt f)=fT
  have other:∀b,b≠dK->(h'.update dK (bo.mapFields (·.setIfInBounds 3 fT))).get? b=h'.get? b:=fun b ao=>bb.get?_update_other _ _ (e3 ao)
  have JF:kI (h'.update dK (bo.mapFields (·.setIfInBounds 3 fT))) a (.ref C) d dK fT:=⟨eQ,vs,_,_,(other a (e3 kW)).trans rX,hc,lP,hd,aq,kW,bb.get?_update_self _ um (bo.isFreed_of_fields (bo.data_mapFields hF _)),bo.data_mapFields hF _,by simp[w6],kZ⟩
  have z6:∀b o,b≠Cl->b≠dK->fM.get? b=J o->(h'.update dK (bo.mapFields (·.setIfInBounds 3 fT))).get? b=J o:=fun b o f3 eB e=>(other b eB).trans (mE.extBut b o f3 e)
  have JE:(h'.update dK (bo.mapFields (·.setIfInBounds 3 fT))).FunFrames X.base (X.env::X.outer):=IT kB fun b o ao e i8=>z6 b o (fun z=>JH (z ▸ ao)) (fun z=>by
   rw[z,cF]at e;cases e;exact i8 iT hF) e
  generalize (h'.update dK (bo.mapFields (·.setIfInBounds 3 fT)))=DW at JF JE z6 ⊢
  rw[EW]
  unfold Fc leaving
  refine bQ (XT (s:={gr with heap:=DW}) fr JE aQ JF fun nk lB cj iV sP MP=>?_)
  refine z7 (s:={gr with heap:=nk}) sP cj fun U0 ea el kD=>?_
  have oC:∀b o,gr.heap.get? b=J o->b≠dK:=fun b o e z=>by rw[z,dF]at e;cases e
  have My:∀b o,b∉[a,T,Cl]->gr.heap.get? b=J o->∃dB,DW.get? b=J {o with slots:=dB}:=fun b o ao e=>by
   simp only[dy,List.not_mem_nil,or_false,not_or]at ao
   obtain⟨dB,nf⟩:=jd.slot b o ao.1 (fun z=>ao.2.1 (gk z)) e
   exact⟨dB,z6 b _ ao.2.2 (oC b o e) nf⟩
  have Fi:∀b o,b∉[a,T,Cl]->gr.heap.get? b=J o->b≠lB:=fun b o ao e z=>by
   rcases iV with y|y
   .exact oC b o e (z.trans y)
   ·obtain⟨dB,zt⟩:=My b o ao e
    have AW:DW.get? lB=aw:=y
    rw[z,AW]at zt;cases zt
  have S:GZ (ij X.stack) [a,T,Cl] gr.heap U0:=by
   refine⟨fun b o ao rV e=>?_,fun b o ao e=>?_⟩
   ·have mq:=ao
    simp only[dy,List.not_mem_nil,or_false,not_or]at mq
    rw[Jx]at rV
    refine kD b o (Fi b o ao e) (MP.keep b o mq.1 (fun z=>oC b o e (gk z)) rV ?_)
    exact z6 b o mq.2.2 (oC b o e) (jd.keep b o mq.1 (fun z=>mq.2.1 (gk z)) rV e)
   ·have mq:=ao
    simp only[dy,List.not_mem_nil,or_false,not_or]at mq
    obtain⟨dB,zt⟩:=My b o ao e
    obtain⟨ky,TY⟩:=MP.slot b _ mq.1 (fun z=>oC b o e (gk z)) zt
    exact⟨ky,kD b _ (Fi b o ao e) TY⟩
  have Ag:∀z,z∈[a,T,Cl]->X.dq.heap.get? z=aw:=fun z bw=>by
   simp only[dy,List.not_mem_nil,or_false]at bw
   rcases bw with rfl|rfl|rfl
   .exact js
   .exact jO
   .exact xk
  have zB:∀z,z∈[a,T,Cl]->ax z=aw:=fun z bw=>by
   simp only[dy,List.not_mem_nil,or_false]at bw
   rcases bw with rfl|rfl|rfl
   .exact fa
   .exact j3
   .exact pz
  obtain⟨u,hk⟩:=R6 aa hex S Ag zB
  have KQ:lB∉[a,T,Cl]->gr.heap.get? lB=aw:=fun bw=>by
   cases e:gr.heap.get? lB with
   |none=>rfl
   |some o=>exact absurd I (Fi lB o bw e)
  have f2:ax lB=aw:=by
   by_cases bw:lB∈[a,T,Cl]
   .exact zB _ bw
   .exact aa.aU.none (KQ bw)
  have es:X.dq.heap.get? lB=aw:=by
   by_cases bw:lB∈[a,T,Cl]
   .exact Ag _ bw
   ·cases e:X.dq.heap.get? lB with
    |none=>rfl
    |some o =>
     obtain⟨eh,cR⟩:=aa.base.there lB o e (by rw[hex];simp)
     rw[KQ bw]at cR;cases cR
  exact⟨a,C,d,ax,lB,I,aa.os,aa.bare,u,hk,ea,fa,f2,js,es,q⟩
 unfold PySem.passOn
 refine bQ (iW rX hd aq ?_)
 rw[if_neg (show ¬((al.ref dK == al.none)=au)from by simp)]
 exact bQ (cO step fun _ mG h=>wpAny_throw h)
noncomputable def TT(Y:bj)(E:cC):al->aJ->Prop:=fun e aR=>∃(aj:List (ah×bo))(bV:St)(H1:ar)(s1:aJ),Inv Y aj bV H1 s1/\kh Y.prog Y.w Y.stack H1 s1 E e aR
noncomputable def oa(X:bj)(E:cC)(cX:Scope)(cl:List (af×ah))(C:ah)(N:List af)(s2:aJ)(ax:ar)(bX:List ah):bj:=(zo X cX cl C N s2 ax bX).l2 (TT (zo X cX cl C N s2 ax bX) E)
section
variable {X:bj} {elt iq iter:cq} {ifs:List cq} {cX:Scope} {aX p:Pos} {fJ:List (Nat×af)} {gE:List af} {h7:dW} {g:gG} {gb:gH} {cH:TE}
set_option maxHeartbeats 1000000
theorem Hy{E:cC}{Q:bP}
  (Kp:(X.xe=Fc X E/\X.stack=X.env::X.outer/\X.env.frame=J X.env.locals/\X.ex=[])\/∀c d H,¬E c d H) (hc:X.calm=au) (uz:zm cX (fJ.map (·.2))=au) (rW:q0 X fJ) (aE:iJ X iq iter h7)
  (aN:∀cl C s2 ax bX,nU (oa X E cX cl C (gE++fJ.map (·.2)) s2 ax bX) iq g)
  (aO:∀cl C s2 ax bX,tH (oa X E cX cl C (gE++fJ.map (·.2)) s2 ax bX) ifs gb)
  (he:∀cl C s2 ax bX,b6 (oa X E cX cl C (gE++fJ.map (·.2)) s2 ax bX) elt cH)
  (aa:Inv X aj ae H s) (h:FQ h7 g gb cH (n9 gE fJ) ae H Q)
  (aZ:∀D C ai aR,Inv X aj ae ai aR->Q (.ref D) ai->ai C=aw->C≠X.env.locals->X.dq.heap.objs.size<=C->(∀x c,X.env.cells.lookup x=J c->c≠C)->(∀p∈X.pn++aj,p.1≠C)->(∃m,aR.heap.Ns C m)->
   compPost (model X.prog X.w) X.A X.xe use Qf (.ref D) C (.ok .next) aR)
  (hs:∀x,foldedSetIterable iter X.env x=pure x:=by intro _;rfl) :
  bK (model X.prog X.w) X.A (comprehension (.ListComp elt [⟨iq,iter,ifs,0⟩] cX aX) cX X.env p (newList []) ay (eval iter X.env) use) Qf X.xe s:=by
 simp only[zm,jA,ig,beq_iff_eq,bne_iff_ne,Bool.or_eq_true,List.contains_iff_mem]at uz
 obtain⟨⟨⟨⟨k1,k2⟩,k3⟩,pJ⟩,k5⟩:=uz
 have V4:∀y∈cX.names,y.2=.local->cX.names.lookup y.1=J .local:=fun y bF aH=>(k3 y bF).resolve_left fun z=>z aH
 have Jn:=rW.at
 have pE:∀y∈cX.names,y.2=.free->∃c,X.env.cells.lookup y.1=J c:=fun y bF aQ=>by
  have hm:=(pJ y bF).resolve_left fun z=>z aQ
  obtain⟨q,aT,e⟩:=List.mem_map.mp hm
  have:=(Jn q aT).2
  rw[e]at this
  exact aa.ok.has _ this
 obtain⟨cl,pC,g9,i6,_⟩:=Cq cX.names pE [] (fun x c e=>by cases e)
 have Vq:closureFor cX X.env=pure cl:=by
  refine(show closureFor cX X.env=(_ >>= pure)from rfl).trans ((congrArg (· >>= pure) pC).trans ?_)
  rfl
 refine wpAny_comprehension_free (use:=use) I hs Vq k1 V4 (cO (aE aj s ae H _ aa h) fun v s1 aq=>cO aq fun E4 s2 az=>?_)
 obtain⟨it,bX,h5,dS,ax,e,bM,T,jv,f2,zQ⟩:=az
 subst e
 have JD:ax s2.heap.objs.size=aw:=bM.fresh
 obtain⟨W,⟨m0,hf⟩,turn⟩:=zQ _ JD
 refine wpAny_newObj_type (wpAny_newFunctionEnv k2 (by intro y bF;simp at bF) (fun hI ED z0=>?_) k1)
 dsimp only at ED z0 ⊢
 generalize D4:s2.heap.push {cls :=.type "list",dict:=aw,data :=.seq ([]:List al).toArray}=bL at ED z0 ⊢
 have pz:bL.objs.size=s2.heap.objs.size+1:=by rw[<-D4,bb.size_push]
 have JJ:s2.heap.objs.size≠bL.objs.size:=by rw[pz];exact fE (Nat.lt_succ_self _)
 have zH:s2.heap.objs.size<=bL.objs.size:=by rw[pz];exact Nat.le_succ _
 have below:∀b,b<s2.heap.objs.size->b≠bL.objs.size:=fun b ao=>by rw[pz];exact fE (Nat.lt_succ_of_lt ao)
 have old:∀b o,s2.heap.get? b=J o->hI.get? b=J o:=fun b o e=>z0.extBut b o (below b (en e)) (fF _ (D4 ▸ fF _ e))
 have Vj:hI.get? s2.heap.objs.size=J {cls :=.type "list",dict:=aw,data :=.seq ([]:List al).toArray}:=z0.extBut _ _ JJ (fF _ (D4 ▸ gZ _ rfl))
 have Uw:ax bL.objs.size=aw:=bM.aU.fresh zH
 have DC:∀b∈bX,b<s2.heap.objs.size:=fun b ao=>by
  obtain⟨o,aD,_⟩:=T.obj _ _ jv b ao
  exact en aD
 let lG:=oa X E cX cl bL.objs.size (gE++fJ.map (·.2)) s2 ax bX
 have XY:lG.Ok:=by
  refine⟨bM.ok.mod,k1,bM.ok.glob,bM.ok.blt,zH,fun x y c av bF=>bM.ok.inj x y c (g9 _ _ av) (g9 _ _ bF),fun x av=>?_,(fun x c aQ=>nomatch aQ),bM.ok.hd,bM.ok.frames,.inl I,fun b ao=>⟨below b (DC b ao),fun x c av=>(f2 b ao).2.2.2.2.1 x c (g9 _ _ av)⟩,bM.bs,
   dp bM.ok.na bM.cS,fun b o e ao=>?_,fun b ao z=>?_,bM.stack,bM.xM⟩
  .exact i6 (x,.free) (Bv (He av k2)) I
  ·rcases(f2 b ao).2.2.2.1 with z|z
   .exact bM.ok.sl b o e z
   .exact absurd (ez (en e) bM.ok.na) (Nat.not_lt.mpr z)
  ·rcases dy.mp (bM.qS b z)with q|q
   .exact(f2 b ao).2.1 q
   .exact(f2 b ao).2.2.1 q
 have aaI:fy (ij X.stack) bX ax (upd ax s2.heap.objs.size (.lst [])) s2.heap hI:=fy.laid old (cQ _) JD
 have Wb:fg X.prog X.w (upd ax s2.heap.objs.size (.lst [])) hI:=bM.aU.laid old (cQ _) ⟨UF _,[],0,.nil,Vj⟩
 have ra:∀c0,Inv lG [] (n9 gE fJ ae) (upd ax s2.heap.objs.size (.lst [])) {s2 with heap:=hI,toks:=c0}:=fun c0=>by
  refine⟨XY,I,bM.bare,aaI,⟨_,ED,fun i x v ba bg eZ=>?_⟩,fun x c av=>?_,?_,fun x c av=>?_,fun q aT=>?_,Wb,?_⟩
  ·
   obtain⟨jr,_,f7⟩:=bM.loc
   have iF:gE.length<=i:=by
    rcases jC i gE.length with z|z
    ·have:(n9 gE fJ ae)[i]?=J aw:=by
      unfold n9
      rw[List.getElem?_append_left (by simpa using z),List.getElem?_replicate,if_pos z]
     rw[this]at bg
     cases bg
    .exact z
   have wi:(gE++fJ.map (·.2))[i]?=J x:=ba
   rw[List.getElem?_append_right iF,gm]at wi
   have Dn:(fJ.map fun p=>(ae[p.1]?).join)[i-gE.length]?=J (J v):=by
    have:(n9 gE fJ ae)[i]?=(fJ.map fun p=>(ae[p.1]?).join)[i-gE.length]?:=by
     unfold n9
     rw[List.getElem?_append_right (by simpa using iF),List.length_replicate]
    rw[<-this]
    exact bg
   rw[gm]at Dn
   cases aT:fJ[i-gE.length]? with
   |none=>rw[aT]at wi;cases wi
   | some q =>
    rw[aT]at wi Dn
    obtain rfl:q.2=x:=gk wi
    have zu:(ae[q.1]?).join=J v:=gk Dn
    have eK:ae[q.1]?=J (J v):=by
     cases z:ae[q.1]? with
     |none=>rw[z]at zu;cases zu
     |some y=>rw[z]at zu;exact congrArg J zu
    have Ki:q∈fJ:=iL aT
    obtain⟨d9,es⟩:=Jn q Ki
    have Wz:yA X.env.scope q.2:=by
     rcases es with z|z
     .exact .inr (.inl z)
     .exact .inr (.inr z)
    obtain⟨u,fO,qI⟩:=f7 q.1 q.2 v d9 eK Wz
    have wR:cX.names.lookup q.2=J .free:=k5 q.2 (List.mem_map_of_mem Ki)
    refine⟨u,fO,.inr ⟨Hd wR,?_⟩⟩
    rcases qI with⟨z,_⟩|⟨_,c,zS,h2,zX,EG⟩
    .rcases es with y|y<;>(rw[y]at z;cases z)
    ·obtain⟨gw,oo⟩:=i6 (q.2,.free) (Bv wR) rfl
     have:=g9 _ _ oo
     rw[zS]at this
     cases this
     exact⟨c,oo,h2,old _ _ zX,EG⟩
  ·obtain⟨v,o,aD,hd⟩:=bM.cell x c (g9 _ _ av)
   exact⟨v,o,old _ _ aD,hd⟩
  ·show upd ax s2.heap.objs.size (.lst []) bL.objs.size=aw
   rw[cn (e3 JJ)]
   exact Uw
  ·have Ei:=bM.j4 x c (g9 _ _ av)
   obtain⟨v,o,aD,hd⟩:=bM.cell x c (g9 _ _ av)
   rw[cn (fE (en aD))]
   exact Ei
  ·have:q∈([]:List (ah×bo)):=aT
   cases this
  ·show(n9 gE fJ ae).length=(gE++fJ.map (·.2)).length
   simp[n9]
 have sI:∀{pins':List (ah×bo)}{ai:ar},(∀b∈bX,ai b=aw)->(∀q∈pins',q.1∉bX)->∀b∈bX,oX lG pins' ai b:=fun bf bh b ao =>
  ⟨bf b ao,below b (DC b ao),fun z=>by
   rcases dy.mp (bM.qS b z)with q|q
   .exact(f2 b ao).2.1 q
   .exact(f2 b ao).2.2.1 q,.inl ao,fun x c av=>(f2 b ao).2.2.2.2.1 x c (g9 _ _ av),fun q aT z=>bh q aT (z ▸ ao)⟩
 have Fo:∀q∈([]:List (ah×bo)),q.1∉bX:=fun _ z=>nomatch z
 have Mx:h5 0 hI:=T.keep _ _ _ jv fun b ao o e=>old b o e
 have Uy:∀b∈bX,(upd ax s2.heap.objs.size (.lst [])) b=aw:=fun b ao=>by
  rw[cn (fE (DC b ao))]
  exact(f2 b ao).1
 have err:∀e gr,lG.xe e gr->notedBy (model X.prog X.w) X.A (compEnvC cX cl bL.objs.size X.env) (fun e aR=>compPost (model X.prog X.w) X.A X.xe use Qf (.ref s2.heap.objs.size) bL.objs.size (.error e) aR) e gr:=by
  rintro e gr ⟨Ya,bV,H1,s1,bc,a,C,d,Gr,dK,rfl,os,bare,un,aU,lJ,fa,j3,js,jO,q⟩
  obtain⟨EW,nv,VG,hex⟩:=Kp.resolve_right fun z=>z _ _ _ q
  have qe:Inv (zo X cX cl bL.objs.size (gE++fJ.map (·.2)) s2 ax bX) Ya bV Gr gr:=bc.zk (ch:=[]) os un aU bare (fun b z=>absurd z (by simp))
  have NI:Inv X aj ae Gr gr:=bM.zk qe.os qe.base qe.aU qe.bare fun b ao=>⟨(f2 b ao).2.2.2.1,(f2 b ao).2.1,(f2 b ao).2.2.2.2.1,(f2 b ao).2.2.2.2.2⟩
  have K7:∀b,s1.heap.get? b=aw->X.dq.heap.get? b=aw:=fun b ao=>by
   cases z:X.dq.heap.get? b with
   |none=>rfl
   | some o =>
    obtain⟨eh,cR⟩:=bM.base.there b o z (by rw[hex];simp)
    have XN:b∉bX:=fun hm=>by
     rcases(f2 b hm).2.2.2.1 with y|y
     .rw[hex]at y;cases y
     .exact absurd (en z) (Nat.not_lt.mpr y)
    obtain⟨acw,Jt⟩:=bc.base.there b eh cR XN
    rw[ao]at Jt;cases Jt
  refine QB EW nv VG hex NI lJ fa j3 (K7 a js) (K7 dK jO) q qe.free ?_ ?_ ?_ I
  .exact bb.get?_none_of_le (dp bM.cS zH)
  ·intro hm
   obtain⟨_,o,aD,_⟩:=bM.stack.mem hm
   exact below _ (en aD) I
  ·obtain⟨m,hm,_⟩:=qe.loc
   exact⟨m,hm⟩
 have loop:∀sJ:aJ,sJ={s2 with heap:=hI,toks:=s2.toks+([]:List (af×al)).length}->
   lu (model X.prog X.w) X.A (.compLoop (.ListComp elt [⟨iq,iter,ifs,0⟩] cX aX) 0 (.ref it) (.ref s2.heap.objs.size) (compEnvC cX cl bL.objs.size X.env))
    (compPost (model X.prog X.w) X.A X.xe use Qf (.ref s2.heap.objs.size) bL.objs.size) sJ:=by
  rintro sJ rfl
  refine PK (fun n aR=>∃i bU ai,Inv lG [] bU ai aR/\h5 i aR.heap/\(∀b∈bX,ai b=aw)/\W i n bU ai) ?_ m0 ⟨0,_,_,ra _,Mx,Uy,hf⟩
  rintro n hL ⟨i,ke,x8,iv,lk,wx,nK⟩
  rcases turn i n ke x8 nK with⟨stop,xu⟩|⟨go,step⟩
  ·refine cO (T.done lG I I I hc i [] hL ke x8 _ iv (sI wx Fo) lk stop) fun r pU bJ=>?_
   obtain⟨aF,te⟩:=bJ
   subst aF
   have un:=te.base
   refine aZ _ _ x8 pU (bM.zk te.os un te.aU te.bare fun b ao=>?_) xu te.free ?_ (dp bM.cS zH) ?_ ?_ ?_
   .exact⟨(f2 b ao).2.2.2.1,(f2 b ao).2.1,(f2 b ao).2.2.2.2.1,(f2 b ao).2.2.2.2.2⟩
   .exact e3 (below _ bM.lt)
   ·intro x c av
    obtain⟨v,o,aD,hd⟩:=bM.cell x c av
    exact below c (en aD)
   ·intro q aT
    obtain⟨e,_⟩:=bM.pin q aT
    exact below _ (en e)
   ·obtain⟨m,hm,_⟩:=te.loc
    exact⟨m,hm⟩
  ·refine cO (T.item lG I I I hc i [] hL ke x8 _ iv (sI wx Fo) lk go) fun r pU bJ=>?_
   obtain⟨u,aF,cz⟩:=bJ
   subst aF
   refine cO cz fun _ uZ bJ=>?_
   obtain⟨x,ew,mU,qQ,sQ,kc,DD⟩:=bJ
   have Bs:=mU.pinned (sI DD Fo) (T.obj _ _ kc)
   refine jU (aN _ _ _ _ _ _ uZ ke ew x u _ Bs qQ (step x ew sQ)) (fun _ sC bJ=>?_) fun e gr z=>err e gr z
   obtain⟨vh,e1,mV,Aq⟩:=bJ
   have again:∀{kf:St}{i0:ar}{oJ:aJ}{cv:Nat},Inv lG ([]++xr bX uZ.heap) kf i0 oJ->cv<n->W (i+1) cv kf i0->∃m,m<n/\∃i bU ai,Inv lG [] bU ai oJ/\h5 i oJ.heap/\(∀b∈bX,ai b=aw)/\W i m bU ai:=fun{kf i0 oJ cv}jh hm xP=>by
    refine⟨cv,hm,i+1,kf,i0,jh.AS,T.keep _ _ _ kc fun b ao o e=>(jh.pin (b,o) (md _ (md _ (yT ao e)))).1,fun b ao=>?_,xP⟩
    obtain⟨o,e,d⟩:=T.obj _ _ kc b ao
    exact(jh.pin (b,o) (md _ (md _ (yT ao e)))).2.1
   refine jU (aO _ _ _ _ _ _ sC vh e1 _ mV Aq) (fun ok oJ bJ=>?_) fun e gr z=>err e gr z
   obtain⟨i0,jh,nD⟩:=bJ
   cases ok with
   |false =>
    obtain⟨cv,hm,xP⟩:=nD
    exact again jh hm xP
   |true =>
    refine jU (he _ _ _ _ _ _ oJ vh i0 _ jh nD) (fun abb gr bJ=>?_) fun e gr z=>err e gr z
    obtain⟨y,Gs,qe,Zz,Ye⟩:=bJ
    obtain⟨xs,cv,dz,bw,hm,aaM⟩:=Ye
    refine jU (tJ (X:=lG) _ gr vh Gs (.ref s2.heap.objs.size) [y] (.ref s2.heap.objs.size) [abb] (fun _ q8=>W (i+1) cv vh q8) qe I (.cons Zz .nil) ⟨_,xs,y,I,I,dz,bw,aaM⟩) (fun _ acC bJ=>?_) fun e gr z=>err e gr z
    obtain⟨_,q8,NG,_,Yf⟩:=bJ
    exact again NG hm Yf
 exact codeAny_compStart_list (loop _ I) (T.self _ 0 _ _ _ Mx (loop _ I))
end
end cM
end
section
namespace cM
open PySem PySem.W PySem.Spec PyProof.Rows PySem.SeqAt
noncomputable def WS:D->Bool
 |.aK=>au
 |_=>ay
noncomputable def Un(a:Bool):D->Bool
 |.aC b=>a == b
 |.int b=>(if a then 1 else 0) == b
 |_=>ay
noncomputable def Uo(a:Int):D->Bool
 |.aC b=>a == (if b then 1 else 0)
 |.int b=>a == b
 |_=>ay
noncomputable def Uq(a:af):D->Bool
 |.str b=>a == b
 |_=>ay
noncomputable def Ur(g:List D->Bool):D->Bool
 |.tup ds=>g ds
 |_=>ay
noncomputable def Up(g:List D->Bool):D->Bool
 |.lst ds=>g ds
 |_=>ay
mutual
noncomputable def hu:D->D->Bool
 |.aK,d=>WS d
 |.aC a,d=>Un a d
 |.int a,d=>Uo a d
 |.str a,d=>Uq a d
 |.tup as,d=>Ur (jn as) d
 |.lst as,d=>Up (jn as) d
noncomputable def jn:List D->List D->Bool
 |[],ds=>ds.isEmpty
 |a::as,ds=>match ds with|[]=>ay|d::ds=>hu a d&&jn as ds
end
mutual
noncomputable def fh:D->Nat
 |.aK=>1
 |.aC _=>1
 |.int _=>1
 |.str _=>1
 |.tup ds=>gx ds+1
 |.lst ds=>gx ds+1
noncomputable def gx:List D->Nat
 |[]=>0
 |d::ds=>max (fh d) (gx ds)
end
theorem CV(d:D):1<=fh d:=by cases d<;>rw[fh]<;>omega
theorem pj{d:D}{n:Nat}:∀{ds:List D},d∈ds->gx ds<=n->fh d<=n
 |[],h,_=>by cases h
 |e::ds,h,bf=>by
  rw[gx]at bf
  rcases dy.mp h with rfl|h
  .omega
  .exact pj h (by omega)
mutual
theorem HS:∀d:D,hu d d=au
 |.aK=>by rw[hu];rfl
 |.aC b=>by rw[hu];show(b == b)=au;exact beq_self_eq_true b
 |.int b=>by rw[hu];show(b == b)=au;exact beq_self_eq_true b
 |.str b=>by rw[hu];show(b == b)=au;exact beq_self_eq_true b
 |.tup ds=>by rw[hu];exact vS ds
 |.lst ds=>by rw[hu];exact vS ds
theorem vS:∀ds:List D,jn ds ds=au
 |[]=>by rw[jn];rfl
 |d::ds=>by
  rw[jn]
  show(hu d d&&jn ds ds)=au
  rw[HS d,vS ds];rfl
end
theorem y7:∀(ds aV:List D),jn ds aV=((List.range (min ds.length aV.length)).all (fun j=>hu (ds.getD j .aK) (aV.getD j .aK))&&ds.length == aV.length)
 |[],aV=>by
  rw[jn]
  cases aV<;>simp
 |d::ds,[]=>by rw[jn];simp
 |d::ds,e::aV=>by
  rw[jn]
  show(hu d e&&jn ds aV)=_
  rw[y7 ds aV,ep,ep,Nat.succ_min_succ,List.range_succ_eq_map,List.all_cons,List.all_map]
  have ba:(ds.length+1 == aV.length+1)=(ds.length == aV.length):=by rw[Bool.eq_iff_iff];simp
  rw[ba,Bool.and_assoc]
  rfl
mutual
theorem dI.inj{H:ar}:∀(d d':D){v:V},dI H d v->dI H d' v->d=d'
 |.aK,d',v,h,h'=>by
  obtain rfl:v=.aK:=h
  cases d' with
  |aK=>rfl
  |aC b=>cases(show V.aK=V.aC b from h')
  |int b=>cases(show V.aK=V.int b from h')
  |str b=>cases h'.1
  |tup ds=>obtain⟨a,vs,z,_⟩:=h';cases z
  |lst ds=>obtain⟨a,vs,z,_⟩:=h';cases z
 |.aC b,d',v,h,h'=>by
  obtain rfl:v=.aC b:=h
  cases d' with
  |aK=>cases(show V.aC b=V.aK from h')
  |aC c=>have z:V.aC b=V.aC c:=h';injection z with z;rw[z]
  |int c=>cases(show V.aC b=V.int c from h')
  |str c=>cases h'.1
  |tup ds=>obtain⟨a,vs,z,_⟩:=h';cases z
  |lst ds=>obtain⟨a,vs,z,_⟩:=h';cases z
 |.int b,d',v,h,h'=>by
  obtain rfl:v=.int b:=h
  cases d' with
  |aK=>cases(show V.int b=V.aK from h')
  |int c=>have z:V.int b=V.int c:=h';injection z with z;rw[z]
  |aC c=>cases(show V.int b=V.aC c from h')
  |str c=>cases h'.1
  |tup ds=>obtain⟨a,vs,z,_⟩:=h';cases z
  |lst ds=>obtain⟨a,vs,z,_⟩:=h';cases z
 |.str b,d',v,h,h'=>by
  obtain⟨rfl,_⟩:=h
  cases d' with
  |aK=>cases(show V.str b=V.aK from h')
  |int c=>cases(show V.str b=V.int c from h')
  |aC c=>cases(show V.str b=V.aC c from h')
  |str c=>have z:=h'.1;injection z with z;rw[z]
  |tup ds=>obtain⟨a,vs,z,_⟩:=h';cases z
  |lst ds=>obtain⟨a,vs,z,_⟩:=h';cases z
 |.tup ds,d',v,h,h'=>by
  obtain⟨a,vs,rfl,c6,hs,_⟩:=h
  cases d' with
  |aK=>cases(show V.ref a=V.aK from h')
  |int c=>cases(show V.ref a=V.int c from h')
  |aC c=>cases(show V.ref a=V.aC c from h')
  |str c=>cases h'.1
  |tup aV=>obtain⟨b,ws,z,fi,mv,_⟩:=h';cases z;rw[c6]at fi;cases fi;rw[cU.inj ds aV hs mv]
  |lst aV=>obtain⟨b,ws,z,fi,mv,_⟩:=h';cases z;rw[c6]at fi;cases fi
 |.lst ds,d',v,h,h'=>by
  obtain⟨a,vs,rfl,c6,hs,_⟩:=h
  cases d' with
  |aK=>cases(show V.ref a=V.aK from h')
  |int c=>cases(show V.ref a=V.int c from h')
  |aC c=>cases(show V.ref a=V.aC c from h')
  |str c=>cases h'.1
  |tup aV=>obtain⟨b,ws,z,fi,mv,_⟩:=h';cases z;rw[c6]at fi;cases fi
  |lst aV=>obtain⟨b,ws,z,fi,mv,_⟩:=h';cases z;rw[c6]at fi;cases fi;rw[cU.inj ds aV hs mv]
theorem cU.inj{H:ar}:∀(ds aV:List D){vs:List V},cU H ds vs->cU H aV vs->ds=aV
 |[],aV,vs,h,h'=>by
  obtain rfl:vs=[]:=h
  cases aV with
  |nil=>rfl
  |cons e aV=>obtain⟨v,r,z,_⟩:=h';cases z
 | d::ds,aV,vs,h,h'=>by
  obtain⟨v,r,rfl,q,cc⟩:=h
  cases aV with
  |nil=>cases(show v::r=[]from h')
  |cons e aV =>
   obtain⟨df,dE,z,fw,Yd⟩:=h'
   cases z
   rw[dI.inj d e q fw,cU.inj ds aV cc Yd]
end
section
variable {X:bj} {aj:List (ah×bo)} {ae:St} {H:ar} {s:aJ} {A:c1} {a1 a2:ah} {gK gh:List D} {kd gj:List V}
theorem H9{jM gA:List al}(b5:Vals kd jM)(eL:Vals gj gA)(aq:cU H gK kd)(az:cU H gh gj)
  (he:∀(e bg:D)(w iU:V)(x dF:al),e∈gK->dI H e w->dI H bg iU->RelV w x->RelV iU dF->EqAt A s x dF (hu e bg)) :
  ∀j(aq:j<jM.toArray.size)(az:j<gA.toArray.size),EqAt A s jM.toArray[j] gA.toArray[j] (hu (gK.getD j .aK) (gh.getD j .aK)):=by
 intro j dA dx
 rw[eV]at dA dx
 have ba:=b5.length
 have bg:=eL.length
 have g1:kd[j]?=J (kd[j]'(by omega)):=cV (by omega)
 have g2:gj[j]?=J (gj[j]'(by omega)):=cV (by omega)
 obtain⟨h6,r7,xy⟩:=b5.get g1
 obtain⟨dR,r8,eX⟩:=eL.get g2
 obtain⟨eW,j7,k9⟩:=cU.get gK aq g1
 obtain⟨hr,eC,mw⟩:=cU.get gh az g2
 have d1:jM.toArray[j]'(by rw[eV];exact dA)=h6:=by
  rw[List.getElem_toArray]
  rw[cV dA]at r7
  exact gk r7
 have dj:gA.toArray[j]'(by rw[eV];exact dx)=dR:=by
  rw[List.getElem_toArray]
  rw[cV dx]at r8
  exact gk r8
 rw[d1,dj,eM,eM,j7,eC]
 exact he eW hr _ _ h6 dR (iL j7) k9 mw xy eX
theorem ZK(aa:Inv X aj ae H s)(dZ:A.units<cLine)(ba:H a1=J (.tup kd))(bg:H a2=J (.tup gj))(aq:cU H gK kd)(az:cU H gh gj)
  (he:∀(e bg:D)(w iU:V)(x dF:al),e∈gK->dI H e w->dI H bg iU->RelV w x->RelV iU dF->EqAt A.in1 s x dF (hu e bg)) :
  RcAt A s (.ref a1) (.ref a2) (jn gK gh)/\RcNeAt A s (.ref a1) (.ref a2) (!jn gK gh):=by
 obtain⟨jM,b5,da,_⟩:=aa.tuple (fm.of ba)
 obtain⟨gA,eL,cm,_⟩:=aa.tuple (fm.of bg)
 have dA:jM.toArray.size=gK.length:=by rw[eV,<-b5.length];exact cU.len gK aq
 have dx:gA.toArray.size=gh.length:=by rw[eV,<-eL.length];exact cU.len gh az
 have E:=H9 b5 eL aq az he
 have vk:=RcAt.tuples (ff da) (ff cm) dZ E
 have vl:=RcNeAt.tuples (ff da) (ff cm) dZ E
 rw[dA,dx,<-y7]at vk vl
 exact⟨vk,vl⟩
theorem ZJ(aa:Inv X aj ae H s)(dZ:A.units<cLine)(ba:H a1=J (.lst kd))(bg:H a2=J (.lst gj))(aq:cU H gK kd)(az:cU H gh gj)
  (he:∀(e bg:D)(w iU:V)(x dF:al),e∈gK->dI H e w->dI H bg iU->RelV w x->RelV iU dF->EqAt A.in1 s x dF (hu e bg)) :
  RcAt A s (.ref a1) (.ref a2) (jn gK gh)/\RcNeAt A s (.ref a1) (.ref a2) (!jn gK gh):=by
 obtain⟨jM,b5,da,_⟩:=aa.list (dr.of ba)
 obtain⟨gA,eL,cm,_⟩:=aa.list (dr.of bg)
 have dA:jM.toArray.size=gK.length:=by rw[eV,<-b5.length];exact cU.len gK aq
 have dx:gA.toArray.size=gh.length:=by rw[eV,<-eL.length];exact cU.len gh az
 have E:=H9 b5 eL aq az he
 by_cases z:gK.length=gh.length
 ·have vk:=RcAt.lists da.isList cm.isList (by rw[dA,dx,z]) dZ E
  have vl:=RcNeAt.lists da.isList cm.isList (by rw[dA,dx,z]) dZ E
  have G:=y7 gK gh
  rw[z,Nat.min_self,beq_self_eq_true,Bool.and_true]at G
  rw[dA,z,<-G]at vk vl
  exact⟨vk,vl⟩
 ·have G:=y7 gK gh
  rw[beq_false_of_ne z,Bool.and_false]at G
  rw[G]
  have lQ:(jM.toArray.size != gA.toArray.size)=au:=by rw[dA,dx];simpa using z
  exact⟨RcAt.lists_lengths da.isList cm.isList lQ dZ,RcNeAt.lists_lengths da.isList cm.isList lQ dZ⟩
set_option maxHeartbeats 1000000 in
theorem SF(aa:Inv X aj ae H s):∀(n:Nat){eW hr:D}{v1 v2:V}{h6 dR:al}{A:c1},fh eW<=n->dI H eW v1->dI H hr v2->RelV v1 h6->RelV v2 dR->A.units+n<cLine->EqAt A s h6 dR (hu eW hr)/\RcAt A s h6 dR (hu eW hr)/\RcNeAt A s h6 dR (!hu eW hr):=by
 intro n
 induction n with
 |zero =>
  intro eW hr v1 v2 h6 dR A bf
  have:=CV eW
  omega
 | succ n cp =>
  intro eW hr v1 v2 h6 dR A bf hd eC fO eX dZ
  have aq:A.units<cLine:=by omega
  have az:A.in1.units+n<cLine:=by show A.units+1+n<cLine;omega
  cases eW with
  | aK =>
   obtain rfl:v1=.aK:=hd;obtain rfl:h6=.none:=fO
   rw[hu]
   cases hr with
   |aK =>
    obtain rfl:v2=.aK:=eC;obtain rfl:dR=.none:=eX
    exact⟨.same _,.none_none,.none_none⟩
   |aC eB =>
    obtain rfl:v2=.aC eB:=eC;obtain rfl:dR=.bool eB:=eX
    exact⟨.none_bool _,.none_bool _,.none_bool _⟩
   |int dj =>
    obtain rfl:v2=.int dj:=eC;obtain⟨gi,rfl⟩:∃t,dR=.int dj t:=eX
    exact⟨.none_int _ _,.none_int _ _,.none_int _ _⟩
   |str dF =>
    obtain⟨rfl,_⟩:v2=.str dF/\_:=eC;obtain⟨gi,rfl⟩:∃t,dR=.str dF t:=eX
    exact⟨.none_str _ _,.none_str _ _,.none_str _ _⟩
   |tup gh =>
    obtain⟨a2,gj,rfl,g7,c8,_⟩:=eC;obtain rfl:dR=.ref a2:=eX;obtain⟨gA,cc,cm,_⟩:=aa.tuple (fm.of g7)
    exact⟨.none_tuple (ff cm) aq,.none_tuple (ff cm) aq,.none_tuple (ff cm) aq⟩
   |lst gh =>
    obtain⟨a2,gj,rfl,g7,c8,_⟩:=eC;obtain rfl:dR=.ref a2:=eX;obtain⟨gA,cc,cm,_⟩:=aa.list (dr.of g7)
    exact⟨.none_list cm.isList aq,.none_list cm.isList aq,.none_list cm.isList aq⟩
  | aC f3 =>
   obtain rfl:v1=.aC f3:=hd;obtain rfl:h6=.bool f3:=fO
   rw[hu]
   cases hr with
   |aK =>
    obtain rfl:v2=.aK:=eC;obtain rfl:dR=.none:=eX
    exact⟨.bool_none _,.bool_none _,.bool_none _⟩
   |aC eB =>
    obtain rfl:v2=.aC eB:=eC;obtain rfl:dR=.bool eB:=eX
    exact⟨.bool_bool _ _,.bool_bool _ _,.bool_bool _ _⟩
   |int dj =>
    obtain rfl:v2=.int dj:=eC;obtain⟨gi,rfl⟩:∃t,dR=.int dj t:=eX
    exact⟨.bool_int _ _ _,.bool_int _ _ _,.bool_int _ _ _⟩
   |str dF =>
    obtain⟨rfl,_⟩:v2=.str dF/\_:=eC;obtain⟨gi,rfl⟩:∃t,dR=.str dF t:=eX
    exact⟨.bool_str _ _ _,.bool_str _ _ _,.bool_str _ _ _⟩
   |tup gh =>
    obtain⟨a2,gj,rfl,g7,c8,_⟩:=eC;obtain rfl:dR=.ref a2:=eX;obtain⟨gA,cc,cm,_⟩:=aa.tuple (fm.of g7)
    exact⟨.bool_tuple _ (ff cm) aq,.bool_tuple _ (ff cm) aq,.bool_tuple _ (ff cm) aq⟩
   |lst gh =>
    obtain⟨a2,gj,rfl,g7,c8,_⟩:=eC;obtain rfl:dR=.ref a2:=eX;obtain⟨gA,cc,cm,_⟩:=aa.list (dr.of g7)
    exact⟨.bool_list _ cm.isList aq,.bool_list _ cm.isList aq,.bool_list _ cm.isList aq⟩
  | int d1 =>
   obtain rfl:v1=.int d1:=hd;obtain⟨t1,rfl⟩:∃t,h6=.int d1 t:=fO
   rw[hu]
   cases hr with
   |aK =>
    obtain rfl:v2=.aK:=eC;obtain rfl:dR=.none:=eX
    exact⟨.int_none _ _,.int_none _ _,.int_none _ _⟩
   |aC eB =>
    obtain rfl:v2=.aC eB:=eC;obtain rfl:dR=.bool eB:=eX
    exact⟨.int_bool _ _ _,.int_bool _ _ _,.int_bool _ _ _⟩
   |int dj =>
    obtain rfl:v2=.int dj:=eC;obtain⟨gi,rfl⟩:∃t,dR=.int dj t:=eX
    exact⟨.int_int _ _ _ _,.int_int _ _ _ _,.int_int _ _ _ _⟩
   |str dF =>
    obtain⟨rfl,_⟩:v2=.str dF/\_:=eC;obtain⟨gi,rfl⟩:∃t,dR=.str dF t:=eX
    exact⟨.int_str _ _ _ _,.int_str _ _ _ _,.int_str _ _ _ _⟩
   |tup gh =>
    obtain⟨a2,gj,rfl,g7,c8,_⟩:=eC;obtain rfl:dR=.ref a2:=eX;obtain⟨gA,cc,cm,_⟩:=aa.tuple (fm.of g7)
    exact⟨.int_tuple _ _ (ff cm) aq,.int_tuple _ _ (ff cm) aq,.int_tuple _ _ (ff cm) aq⟩
   |lst gh =>
    obtain⟨a2,gj,rfl,g7,c8,_⟩:=eC;obtain rfl:dR=.ref a2:=eX;obtain⟨gA,cc,cm,_⟩:=aa.list (dr.of g7)
    exact⟨.int_list _ _ cm.isList aq,.int_list _ _ cm.isList aq,.int_list _ _ cm.isList aq⟩
  | str e7 =>
   obtain⟨rfl,_⟩:v1=.str e7/\_:=hd;obtain⟨t1,rfl⟩:∃t,h6=.str e7 t:=fO
   rw[hu]
   cases hr with
   |aK =>
    obtain rfl:v2=.aK:=eC;obtain rfl:dR=.none:=eX
    exact⟨.str_none _ _,.str_none _ _,.str_none _ _⟩
   |aC eB =>
    obtain rfl:v2=.aC eB:=eC;obtain rfl:dR=.bool eB:=eX
    exact⟨.str_bool _ _ _,.str_bool _ _ _,.str_bool _ _ _⟩
   |int dj =>
    obtain rfl:v2=.int dj:=eC;obtain⟨gi,rfl⟩:∃t,dR=.int dj t:=eX
    exact⟨.str_int _ _ _ _,.str_int _ _ _ _,.str_int _ _ _ _⟩
   |str dF =>
    obtain⟨rfl,_⟩:v2=.str dF/\_:=eC;obtain⟨gi,rfl⟩:∃t,dR=.str dF t:=eX
    exact⟨.str_str _ _ _ _,.str_str _ _ _ _,.str_str _ _ _ _⟩
   |tup gh =>
    obtain⟨a2,gj,rfl,g7,c8,_⟩:=eC;obtain rfl:dR=.ref a2:=eX;obtain⟨gA,cc,cm,_⟩:=aa.tuple (fm.of g7)
    exact⟨.str_tuple _ _ (ff cm) aq,.str_tuple _ _ (ff cm) aq,.str_tuple _ _ (ff cm) aq⟩
   |lst gh =>
    obtain⟨a2,gj,rfl,g7,c8,_⟩:=eC;obtain rfl:dR=.ref a2:=eX;obtain⟨gA,cc,cm,_⟩:=aa.list (dr.of g7)
    exact⟨.str_list _ _ cm.isList aq,.str_list _ _ cm.isList aq,.str_list _ _ cm.isList aq⟩
  | tup gK =>
   obtain⟨a1,kd,rfl,rL,c9,_⟩:=hd;obtain rfl:h6=.ref a1:=fO;obtain⟨jM,cA,da,_⟩:=aa.tuple (fm.of rL)
   rw[hu]
   cases hr with
   |aK =>
    obtain rfl:v2=.aK:=eC;obtain rfl:dR=.none:=eX
    exact⟨.tuple_none (ff da) aq,.tuple_none (ff da) aq,.tuple_none (ff da) aq⟩
   |aC eB =>
    obtain rfl:v2=.aC eB:=eC;obtain rfl:dR=.bool eB:=eX
    exact⟨.tuple_bool _ (ff da) aq,.tuple_bool _ (ff da) aq,.tuple_bool _ (ff da) aq⟩
   |int dj =>
    obtain rfl:v2=.int dj:=eC;obtain⟨gi,rfl⟩:∃t,dR=.int dj t:=eX
    exact⟨.tuple_int _ _ (ff da) aq,.tuple_int _ _ (ff da) aq,.tuple_int _ _ (ff da) aq⟩
   |str dF =>
    obtain⟨rfl,_⟩:v2=.str dF/\_:=eC;obtain⟨gi,rfl⟩:∃t,dR=.str dF t:=eX
    exact⟨.tuple_str _ _ (ff da) aq,.tuple_str _ _ (ff da) aq,.tuple_str _ _ (ff da) aq⟩
   | tup gh =>
    obtain⟨a2,gj,rfl,g7,c8,_⟩:=eC;obtain rfl:dR=.ref a2:=eX;obtain⟨gA,cc,cm,_⟩:=aa.tuple (fm.of g7)
    have R:=ZK aa aq rL g7 c9 c8 fun e bg w iU x dF hm g g2 r eL=>(cp (pj hm (by rw[fh]at bf;omega)) g g2 r eL az).1
    refine⟨?_,R⟩
    by_cases z:a1=a2
    ·subst z
     obtain rfl:gK=gh:=by have dM:=dI.inj (.tup gK) (.tup gh) (v :=.ref a1) ⟨a1,kd,rfl,rL,c9,‹_›⟩ ⟨a1,gj,rfl,g7,c8,‹_›⟩;injection dM
     show EqAt A s _ _ (jn gK gK)
     rw[vS];exact .same _
    .exact .of_refs z R.1
   |lst gh =>
    obtain⟨a2,gj,rfl,g7,c8,_⟩:=eC;obtain rfl:dR=.ref a2:=eX;obtain⟨gA,cc,cm,_⟩:=aa.list (dr.of g7)
    exact⟨.tuple_list (ff da) cm.isList aq,.tuple_list (ff da) cm.isList aq,.tuple_list (ff da) cm.isList aq⟩
  | lst gK =>
   obtain⟨a1,kd,rfl,rL,c9,_⟩:=hd;obtain rfl:h6=.ref a1:=fO;obtain⟨jM,cA,da,_⟩:=aa.list (dr.of rL)
   rw[hu]
   cases hr with
   |aK =>
    obtain rfl:v2=.aK:=eC;obtain rfl:dR=.none:=eX
    exact⟨.list_none da.isList aq,.list_none da.isList aq,.list_none da.isList aq⟩
   |aC eB =>
    obtain rfl:v2=.aC eB:=eC;obtain rfl:dR=.bool eB:=eX
    exact⟨.list_bool _ da.isList aq,.list_bool _ da.isList aq,.list_bool _ da.isList aq⟩
   |int dj =>
    obtain rfl:v2=.int dj:=eC;obtain⟨gi,rfl⟩:∃t,dR=.int dj t:=eX
    exact⟨.list_int _ _ da.isList aq,.list_int _ _ da.isList aq,.list_int _ _ da.isList aq⟩
   |str dF =>
    obtain⟨rfl,_⟩:v2=.str dF/\_:=eC;obtain⟨gi,rfl⟩:∃t,dR=.str dF t:=eX
    exact⟨.list_str _ _ da.isList aq,.list_str _ _ da.isList aq,.list_str _ _ da.isList aq⟩
   |tup gh =>
    obtain⟨a2,gj,rfl,g7,c8,_⟩:=eC;obtain rfl:dR=.ref a2:=eX;obtain⟨gA,cc,cm,_⟩:=aa.tuple (fm.of g7)
    exact⟨.list_tuple da.isList (ff cm) aq,.list_tuple da.isList (ff cm) aq,.list_tuple da.isList (ff cm) aq⟩
   | lst gh =>
    obtain⟨a2,gj,rfl,g7,c8,_⟩:=eC;obtain rfl:dR=.ref a2:=eX;obtain⟨gA,cc,cm,_⟩:=aa.list (dr.of g7)
    have R:=ZJ aa aq rL g7 c9 c8 fun e bg w iU x dF hm g g2 r eL=>(cp (pj hm (by rw[fh]at bf;omega)) g g2 r eL az).1
    refine⟨?_,R⟩
    by_cases z:a1=a2
    ·subst z
     obtain rfl:gK=gh:=by have dM:=dI.inj (.lst gK) (.lst gh) (v :=.ref a1) ⟨a1,kd,rfl,rL,c9,‹_›⟩ ⟨a1,gj,rfl,g7,c8,‹_›⟩;injection dM
     show EqAt A s _ _ (jn gK gK)
     rw[vS];exact .same _
    .exact .of_refs z R.1
theorem S1(dZ:X.A.units+64<cLine):dO X (hC .NotEq) (fun x y H Q=>∃d d',dI H d x/\dI H d' y/\fh d<=60/\Q (.aC (!hu d d')) H):=by
 intro aj s ae H x y v u Q aa bl cw h
 obtain⟨d,d',hd,j6,bf,q⟩:=h
 exact(SF aa 60 bf hd j6 bl cw (by omega)).2.2 _ _ _ _ ⟨.aC _,H,aa,I,q⟩
end
section
variable {X:bj}
theorem X9(aH:b6 X l fj):iJ X ek l (fun ae H R=>(E1 X.K fj ae H R\/E2 fj ae H R)\/Ky X.K fj ae H R):=(ja aH).or (SV aH)
noncomputable def K5(dZ:X.A.units+64<cLine):=dO.or (nB (X:=X)) (S1 dZ)
end
end cM
end
variable {ds:List cM.D}
section
namespace cM
open PySem PySem.W PySem.Spec PyProof.Rows
structure A7 where
 has:ah->Prop
noncomputable instance:Membership ah A7:=⟨fun X a=>X.has a⟩
noncomputable def A7.of(H:ar):A7:=⟨fun a=>∃o,H a=J o⟩
mutual
noncomputable def cd{α:Type}[Membership ah α](X:α)(H:ar):D->V->Prop
 |.aK,v=>v=.aK
 |.aC b,v=>v=.aC b
 |.int i,v=>v=.int i
 |.str s,v=>v=.str s/\s.length<=16000000
 |.tup ds,v=>∃a vs,v=.ref a/\a∉X/\H a=J (.tup vs)/\b3 X H ds vs/\vs.length<=1000
 |.lst ds,v=>∃a vs,v=.ref a/\a∉X/\H a=J (.lst vs)/\b3 X H ds vs/\vs.length<=1000
noncomputable def b3{α:Type}[Membership ah α](X:α)(H:ar):List D->List V->Prop
 |[],vs=>vs=[]
 |d::ds,vs=>∃v r,vs=v::r/\cd X H d v/\b3 X H ds r
end
mutual
theorem cd.at{α:Type}[Membership ah α]{X:α}{H:ar}:∀(d:D){v:V},cd X H d v->dI H d v
 |.aK,v,h=>h
 |.aC b,v,h=>h
 |.int i,v,h=>h
 |.str t,v,h=>h
 |.tup ds,v,h=>by
  obtain⟨a,vs,e,n,ft,q,z⟩:=h
  exact⟨a,vs,e,ft,b3.at ds q,z⟩
 |.lst ds,v,h=>by
  obtain⟨a,vs,e,n,ft,q,z⟩:=h
  exact⟨a,vs,e,ft,b3.at ds q,z⟩
theorem b3.at{α:Type}[Membership ah α]{X:α}{H:ar}:∀(ds:List D){vs:List V},b3 X H ds vs->cU H ds vs
 |[],vs,h=>h
 |d::ds,vs,h=>by
  obtain⟨v,r,e,q,cc⟩:=h
  exact⟨v,r,e,cd.at d q,b3.at ds cc⟩
end
mutual
theorem cd.keep{α:Type}[Membership ah α]{X:α}{H ai:ar}(s:∀b u,b∉X->H b=J u->ai b=J u):∀(d:D){v:V},cd X H d v->cd X ai d v
 |.aK,v,h=>h
 |.aC b,v,h=>h
 |.int i,v,h=>h
 |.str t,v,h=>h
 |.tup ds,v,h=>by
  obtain⟨a,vs,e,n,ft,q,z⟩:=h
  exact⟨a,vs,e,n,s _ _ n ft,b3.keep s ds q,z⟩
 |.lst ds,v,h=>by
  obtain⟨a,vs,e,n,ft,q,z⟩:=h
  exact⟨a,vs,e,n,s _ _ n ft,b3.keep s ds q,z⟩
theorem b3.keep{α:Type}[Membership ah α]{X:α}{H ai:ar}(s:∀b u,b∉X->H b=J u->ai b=J u):∀(ds:List D){vs:List V},b3 X H ds vs->b3 X ai ds vs
 |[],vs,h=>h
 |d::ds,vs,h=>by
  obtain⟨v,r,e,q,cc⟩:=h
  exact⟨v,r,e,cd.keep s d q,b3.keep s ds cc⟩
end
mutual
theorem cd.add{X:List ah}{H:ar}{l:ah}(aH:H l=aw):∀(d:D){v:V},cd X H d v->cd (l::X) H d v
 |.aK,v,h=>h
 |.aC b,v,h=>h
 |.int i,v,h=>h
 |.str t,v,h=>h
 |.tup ds,v,h=>by
  obtain⟨a,vs,e,n,ft,q,z⟩:=h
  exact⟨a,vs,e,fun y=>(dy.mp y).elim (fun y=>by rw[y,aH]at ft;cases ft) n,ft,b3.add aH ds q,z⟩
 |.lst ds,v,h=>by
  obtain⟨a,vs,e,n,ft,q,z⟩:=h
  exact⟨a,vs,e,fun y=>(dy.mp y).elim (fun y=>by rw[y,aH]at ft;cases ft) n,ft,b3.add aH ds q,z⟩
theorem b3.add{X:List ah}{H:ar}{l:ah}(aH:H l=aw):∀(ds:List D){vs:List V},b3 X H ds vs->b3 (l::X) H ds vs
 |[],vs,h=>h
 |d::ds,vs,h=>by
  obtain⟨v,r,e,q,cc⟩:=h
  exact⟨v,r,e,cd.add aH d q,b3.add aH ds cc⟩
end
mutual
theorem cd.weak{α:Type}[Membership ah α]{X Y:α}{H:ar}(hs:∀x,x∈X->x∈Y):∀(d:D){v:V},cd Y H d v->cd X H d v
 |.aK,v,h=>h
 |.aC b,v,h=>h
 |.int i,v,h=>h
 |.str t,v,h=>h
 |.tup ds,v,h=>by
  obtain⟨a,vs,e,n,ft,q,z⟩:=h
  exact⟨a,vs,e,fun y=>n (hs _ y),ft,b3.weak hs ds q,z⟩
 |.lst ds,v,h=>by
  obtain⟨a,vs,e,n,ft,q,z⟩:=h
  exact⟨a,vs,e,fun y=>n (hs _ y),ft,b3.weak hs ds q,z⟩
theorem b3.weak{α:Type}[Membership ah α]{X Y:α}{H:ar}(hs:∀x,x∈X->x∈Y):∀(ds:List D){vs:List V},b3 Y H ds vs->b3 X H ds vs
 |[],vs,h=>h
 |d::ds,vs,h=>by
  obtain⟨v,r,e,q,cc⟩:=h
  exact⟨v,r,e,cd.weak hs d q,b3.weak hs ds cc⟩
end
theorem cd.same[Membership ah α]{X:α}(s:dJ H ai){d:D}(h:cd X H d v):cd X ai d v:=cd.keep (fun b u _ e=>s b u e) d h
theorem b3.same[Membership ah α]{X:α}(s:dJ H ai){vs:List V}(h:b3 X H ds vs):b3 X ai ds vs:=b3.keep (fun b u _ e=>s b u e) ds h
theorem b3.snoc{α:Type}[Membership ah α]{X:α}{H:ar}{d:D}{v:V}(hd:cd X H d v):∀(ds:List D){vs:List V},b3 X H ds vs->b3 X H (ds++[d]) (vs++[v])
 |[],vs,h=>by
  obtain rfl:vs=[]:=h
  exact⟨v,[],I,hd,I⟩
 |e::ds,vs,h=>by
  obtain⟨w,r,rfl,q,cc⟩:=h
  exact⟨w,r++[v],I,q,b3.snoc hd ds cc⟩
end cM
end
section
namespace eR
open PySem PyProof.Rows
end eR
end
section
namespace fQ
open PySem cM
end fQ
end
section
namespace eR
open PySem PyProof.Rows
end eR
end
section
namespace cM
open PySem PySem.W PySem.Spec PyProof.Rows
end cM
end
section
namespace fQ
open PySem cM
inductive R (α:Type) where
 |ok (a:α) (s:List Bool)
 |no (w:Bool) (k:Nat)
 |st
noncomputable def R.h5{α:Type}:R α->R α
 |.ok a s =>.ok a (s.map (!·))
 |.no w k =>.no w k
 |.st =>.st
noncomputable def eW(e u:Bool):List Bool->R Bool
 |b::s =>.ok b s
 |[]=>if e=au then .ok u []else .no ay 0
end fQ
end
section
namespace cM
open PySem PySem.W PySem.Spec PyProof.Rows
section
variable {X:bj} {k2 jo:Nat} {m:af} {aI:List af} {kE:Type} {cl:kE->ah} {Ln:kE->cT} {e o:cq} {aV:List cq} {t:hg} {cE:TE} {aX apos:Pos} {E:St->cC}
def A8(P:cW)(w:cD)(K:bH)(mg:af->Option al)(base:bb)(k:Nat)(m:af)(aI:List af){kE:Type}(cl:kE->ah)(sp:kE->cT):Prop:=∀i,GJ P w K mg base k (cl i) m aI (sp i)/\h8 K (cl i)
theorem PW(h':A8 X.prog X.w X.K X.mg X.base k2 m aI cl Ln)(aF:fY jo X.A)(av:GO (kh X.prog X.w) X E)(he:b6 X o cE)(bz:ib X (e::aV) t)(hk':k2<=jo:=by decide)
  (nv:dN (e::aV) X.env=(ay,eval e X.env)::dN aV X.env:=by rfl) (hx:(backTo aX (dN aV X.env)).any (·.1)=ay:=by rfl)
  (aO:eval (.Call (.Attribute o m apos) (e::aV) [] aX) X.env=(do
   let hK <-eval o X.env
   standAt apos.atName
   let (f,first) <-holding [hK] (getMethod hK m pl)
   callWith aX f first (backTo aX (dN (e::aV) X.env)) (backToKw aX (xW [] X.env))):=by rfl) :
  b6 X (.Call (.Attribute o m apos) (e::aV) [] aX) (fun ae H Q=>cE ae H fun x H1=>By cl m x H1 fun i=>t ae H1 fun vs ax=>Ln i (x::vs) ax Q (E ae)):=by
 intro aj s ae H Q aa aT
 refine PySem.W.methodCall_KW (pl:=pl) (cO (he aj s ae H _ aa aT) fun u s1 bJ=>?_) aO
 obtain⟨x,H1,bc,bl,a,i,aG,fs,ex,c6,l,q⟩:=bJ
 subst ex
 obtain rfl:u=al.ref a:=bl
 obtain⟨⟨f2,abT,ta,Vm,hm⟩,c⟩:=h' i
 refine Co bc c6 c hm l ?_
 refine A2 (first:=[.ref a]) (h₀:=X.base) aa.ok.mod.qH hm.ik (cO (bz aX aj s1 ae H1 _ bc q) fun us s2 bJ=>?_) nv hx
 obtain⟨vs,ax,bM,r,cc⟩:=bJ
 refine ⟨bM.gp,?_⟩
 have eL:Vals (V.ref a::vs) (al.ref a::us) :=.cons rfl r
 have aH:(al.ref a::us).length=aI.length:=by rw[<-eL.length];exact ta.len _ _ _ _ cc
 have mq:=Vm s2 (.ref a::us) bM.gp (by rw[List.append_nil];exact aH)
 rw[List.append_nil]at mq
 refine xX (oQ (ta.run X.A X.stack s2 ax ⟨.ref a::us,[]⟩ (.ref a::us) (.ref a::vs) Q (E ae) (aF.mono hk') bM.Dw mq eL cc) fun r aR aT=>?_)
 cases r with
 |error e=>exact av aj ae ax s2 e aR bM aT
 |ok fT =>
  cases fT with
  |ret u=>exact bM.after aT
  |next=>exact False.elim aT
  |brk=>exact False.elim aT
  |cont=>exact False.elim aT
end
variable {r:ic}
section
variable {X:bj} {a b:cq} {cE de:TE} {aX:Pos}
theorem b0(i:Nat)(b9:X.N.Nodup)(he:b6 X e cH)(aE:X.N[i]?=J x:=by rfl)(av:Loc X.env.scope x:=by first|exact Or.inl I|exact Or.inr I)(hs:swapsWith e (J (.Name x pos')) aX.line X.env=pure ay:=by rfl)(aQ:X.fn x=au\/X.env.scope.names.lookup x=J .local:=by first|exact .inl I|exact .inr I|assumption):
  jz X (.Assign [.Name x pos'] e aX) (sL cH (rP i)):=SU b9 aE av he hs aQ
theorem fc(aD:dO X (hC op) r)(bz:b6 X a cE)(ao:b6 X b de)(h:op≠.In:=by decide)(az:op≠.NotIn:=by decide):b6 X (.Compare a [op] [b] aX) (jQ r cE de):=IL aD bz ao (I9 _ h az)
theorem bZ(aD:dO X (hC op) r)(bz:b6 X a cE)(ao:b6 X b de)(h:op≠.In:=by decide)(az:op≠.NotIn:=by decide):jY X (.Compare a [op] [b] aX) (pZ (jQ r cE de)):=zb aD bz ao (I9 _ h az)
theorem b8(aF:mW X r)(bz:b6 X a cE)(ao:b6 X b de)(hs:GP b:=by intro _ _;rfl):b6 X (.Subscript a b aX) (jQ r cE de):=Tl aF bz ao hs
theorem fS(bz:b6 X a cE)(he:∀whole,isTrue a X.env whole=(do let v <-whole;standAt a.pos;holding [v] (truthy v)):=by intro _;rfl):
  jY X a (fun ae H Q=>cE ae H fun x ai=>∃k,vM X.K x ai k/\Q k ai):=Rr bz he
end
section
variable {X:bj} {elt iq iter:cq} {ifs:List cq} {cX:Scope} {aX p:Pos} {h7:dW} {g:A9 gG} {gb:A9 gH} {cH:A9 TE}
theorem hQ(gE:List af)(fJ:List (Nat×af))(hc:X.calm=au)(uz:zm cX (fJ.map (·.2))=au)(rW:q0 X fJ)(aE:iJ X iq iter h7)
  (aN:∀cl C s2 ax bX,nU (oa X h9 cX cl C (gE++fJ.map (·.2)) s2 ax bX) iq (g cl C s2 ax bX))
  (aO:∀cl C s2 ax bX,tH (oa X h9 cX cl C (gE++fJ.map (·.2)) s2 ax bX) ifs (gb cl C s2 ax bX))
  (he:∀cl C s2 ax bX,b6 (oa X h9 cX cl C (gE++fJ.map (·.2)) s2 ax bX) elt (cH cl C s2 ax bX))
  (mj:∀cl C s2 ax bX,g cl C s2 ax bX=g [] 0 X.dq X.iu []:=by intros;rfl) (ng:∀cl C s2 ax bX,gb cl C s2 ax bX=gb [] 0 X.dq X.iu []:=by intros;rfl) (qt:∀cl C s2 ax bX,cH cl C s2 ax bX=cH [] 0 X.dq X.iu []:=by intros;rfl)
  (hs:∀x,foldedSetIterable iter X.env x=pure x:=by intro _;rfl) :
  b6 X (.ListComp elt [⟨iq,iter,ifs,0⟩] cX aX) (FQ h7 (g [] 0 X.dq X.iu []) (gb [] 0 X.dq X.iu []) (cH [] 0 X.dq X.iu []) (n9 gE fJ)):=by
 intro aj s ae H Q aa h
 rw[eval_ListComp]
 refine Hy (use:=aw) (.inr fun _ _ _ z=>z) hc uz rW aE (fun cl C s2 ax bX=>mj cl C s2 ax bX ▸ aN cl C s2 ax bX) (fun cl C s2 ax bX=>ng cl C s2 ax bX ▸ aO cl C s2 ax bX) (fun cl C s2 ax bX=>qt cl C s2 ax bX ▸ he cl C s2 ax bX) aa h (fun D C ai aR gF q pz aq az bE cz bJ=>?_) hs
 obtain⟨m,hm⟩:=bJ
 refine⟨m,hm,fun h' EN=>?_⟩
 exact⟨.ref D,ai,gF.turned (t':=aR.toks) (fun b o ao e=>EN.extBut b o ao e) pz aq (.inr az) bE cz,I,q⟩
theorem Hm{y:af}{py Mj:Pos}(gE:List af)(fJ:List (Nat×af))(b9:X.N.Nodup)(VJ:X.N[i]?=J y)(bF:X.env.scope.names.lookup y=J .local)(hc:X.calm=au)(uz:zm cX (fJ.map (·.2))=au)(rW:q0 X fJ)(aE:iJ X iq iter h7)
  (aN:∀cl C s2 ax bX,nU (oa X h9 cX cl C (gE++fJ.map (·.2)) s2 ax bX) iq (g cl C s2 ax bX))
  (aO:∀cl C s2 ax bX,tH (oa X h9 cX cl C (gE++fJ.map (·.2)) s2 ax bX) ifs (gb cl C s2 ax bX))
  (he:∀cl C s2 ax bX,b6 (oa X h9 cX cl C (gE++fJ.map (·.2)) s2 ax bX) elt (cH cl C s2 ax bX))
  (mj:∀cl C s2 ax bX,g cl C s2 ax bX=g [] 0 X.dq X.iu []:=by intros;rfl) (ng:∀cl C s2 ax bX,gb cl C s2 ax bX=gb [] 0 X.dq X.iu []:=by intros;rfl) (qt:∀cl C s2 ax bX,cH cl C s2 ax bX=cH [] 0 X.dq X.iu []:=by intros;rfl)
  (Wo:swapsWith (.ListComp elt [⟨iq,iter,ifs,0⟩] cX aX) (J (.Name y py)) Mj.line X.env=pure au:=by rfl)
  (hs:∀x,foldedSetIterable iter X.env x=pure x:=by intro _;rfl) :
  jz X (.Assign [.Name y py] (.ListComp elt [⟨iq,iter,ifs,0⟩] cX aX) Mj) (sL (FQ h7 (g [] 0 X.dq X.iu []) (gb [] 0 X.dq X.iu []) (cH [] 0 X.dq X.iu []) (n9 gE fJ)) (rP i)):=by
 intro aj s ae H D aa h
 rw[exec_Assign_Name_used _ _ _ _ Wo]
 refine bQ (wpAny_standAt (bQ ?_))
 show bK _ X.A (do let _ <-comprehension (.ListComp elt [⟨iq,iter,ifs,0⟩] cX aX) cX X.env _ (newList []) ay (eval iter X.env) (J (assign (.Name y py) X.env))) _ _ s
 refine bQ (cO (Hy (use:=J (assign (.Name y py) X.env)) (Qf:=fun _ aR=>tK X aj D .next aR) (.inr fun _ _ _ z=>z) hc uz rW aE (fun cl C s2 ax bX=>mj cl C s2 ax bX ▸ aN cl C s2 ax bX) (fun cl C s2 ax bX=>ng cl C s2 ax bX ▸ aO cl C s2 ax bX) (fun cl C s2 ax bX=>qt cl C s2 ax bX ▸ he cl C s2 ax bX) aa h (fun Gk C ai aR gF q pz aq az bE cz bJ=>?_) hs) fun _ aR aT=>eF (eF aT))
 obtain⟨m,hm⟩:=bJ
 show bK _ X.A (assign (.Name y py) X.env (.ref Gk)) _ _ _
 refine wpAny_assign_Name (HB gF b9 VJ (.inl bF) (v :=.ref Gk) I (fun nF NF bJ=>?_) (.inr bF))
 obtain⟨a,EN,bz⟩:=bJ
 have zG:C≠a:=by
  rcases bz with z|z
  .rw[z];exact aq
  .exact e3 (bE _ _ z)
 refine⟨m,hm.sameBut EN zG,fun h' Wi=>?_⟩
 exact⟨_,ai,NF.turned (t':=nF.toks) (fun b o ao e=>Wi.extBut b o ao e) pz aq (.inr az) bE cz,q⟩
end
section
variable {P:cW} {w:cD} {K:bH} {mg:af->Option al} {base:bb} {x dH:af} {st:bG} {f:ah} {fd:hB} {N aI:List af} {k:Nat} {sp:cT}
theorem dV.hJ(F:dV K x dH st f fd)(S:cP N aI (b4 st))(kt:∀(bD:al)(A:c1)(outer:List Env)(s:aJ)(H:ar)(vs:List V)(Q:bP)(E:cC),fY k (A.deeper (envOfC dH (b4 st) s.heap.objs.size f bD))->sp vs H Q E->
   ∃t,hD (kQ eb P w K mg base N dH (b4 st) f bD A outer s H E).pO (jF st) t/\t {nx:=fun _ ai=>gf H ai (Q .aK),rt:=fun v ai=>gf H ai (Q v)} (start N vs) H)(len:∀vs H Q E,sp vs H Q E->vs.length=aI.length:=by intro vs H Q E h;first|(cases h;subst_vars;rfl)|((repeat (obtain⟨_,h⟩:=h))<;>(subst_vars;rfl))):di P w K mg base eb (k+1) f fd aI sp:=F.K6 S len kt
theorem dV.X0(F:dV K x dH st f fd)(S:cP N aI (b4 st))(kt:∀(bD:al)(A:c1)(outer:List Env)(s:aJ)(H:ar)(vs:List V)(Q:bP)(E:cC),fY k (A.deeper (envOfC dH (b4 st) s.heap.objs.size f bD))->sp vs H Q E->
   ∃t,hD (kQ (kh P w) P w K mg base N dH (b4 st) f bD A outer s H (zv H E)) (jF st) t/\t {nx:=fun _ ai=>gf H ai (Q .aK),rt:=fun v ai=>gf H ai (Q v)} (start N vs) H)(len:∀vs H Q E,sp vs H Q E->vs.length=aI.length:=by intro vs H Q E h;first|(cases h;subst_vars;rfl)|((repeat (obtain⟨_,h⟩:=h))<;>(subst_vars;rfl))):di P w K mg base (kh P w) (k+1) f fd aI sp:=F.XZ S len kt
theorem ed.fC(F:ed K mg x st aI f fd)(S:cP N aI (b4 st))(kt:∀(bD:al)(A:c1)(outer:List Env)(s:aJ)(H:ar)(vs:List V)(Q:bP)(E:cC),fY k (A.deeper (envOfC x (b4 st) s.heap.objs.size f bD))->sp vs H Q E->
   ∃t,hD (kQ eb P w K mg base N x (b4 st) f bD A outer s H E).pO (jF st) t/\t {nx:=fun _ ai=>gf H ai (Q .aK),rt:=fun v ai=>gf H ai (Q v)} (start N vs) H)(len:∀vs H Q E,sp vs H Q E->vs.length=aI.length:=by intro vs H Q E h;first|(cases h;subst_vars;rfl)|((repeat (obtain⟨_,h⟩:=h))<;>(subst_vars;rfl))):bx P w K mg base (k+1) x aI sp:=F.ok S len kt
end
end cM
end
variable {q hA:af} {S:cM.eG} {gX jV:ah} {iw:bH} {ms:List Int} {qY:Nat}
namespace KR
open PySem cM fQ
abbrev bA:=@dr.of
abbrev ck:=@fm.of
abbrev c2:=@dJ.refl
noncomputable def top(i:Nat):bG:=PySem.Challenge.pw_keyrise_k21_fits.main.body.getD i (.Pass ⟨0,0,0,0⟩)
noncomputable section
abbrev Ch:bG:=top 65
abbrev Ci:bG:=top 66
abbrev B5:bG:=top 67
abbrev B6:bG:=top 68
abbrev B1:bG:=top 69
abbrev yQ:bG:=top 70
abbrev yP:bG:=top 71
abbrev Cj:bG:=top 72
abbrev B2:bG:=top 73
abbrev BF:bG:=top 74
abbrev yq:bG:=top 75
abbrev B8:bG:=top 76
abbrev B7:bG:=top 77
abbrev yO:bG:=top 78
abbrev yX:bG:=top 79
abbrev yS:bG:=top 80
abbrev Bt:bG:=top 81
abbrev yR:bG:=top 82
abbrev B9:bG:=top 83
abbrev C7:bG:=top 84
abbrev yh:bG:=fq (top 62) 1
abbrev yE:bG:=fq (top 62) 2
abbrev abH:bG:=fq (top 62) 4
abbrev yI:bG:=fq (top 50) 0
abbrev yJ:bG:=fq (top 50) 1
abbrev abE:bG:=fq (top 50) 3
abbrev yj:bG:=fq (top 48) 0
abbrev yF:bG:=fq (top 48) 1
abbrev abK:bG:=fq (top 48) 3
abbrev abL:bG:=fq (top 59) 4
abbrev yl:bG:=fq (top 59) 1
abbrev yH:bG:=fq (top 59) 2
abbrev j0:bG:=fq (top 45) 0
abbrev abC:bG:=top 37
abbrev abI:bG:=top 27
abbrev abJ:bG:=top 26
abbrev abG:bG:=top 32
abbrev abM:bG:=top 31
abbrev Cf:bG:=top 30
abbrev BD:bG:=top 36
abbrev BS:bG:=top 35
abbrev BI:bG:=top 34
abbrev Bu:bG:=top 33
abbrev abN:bG:=fq (top 45) 1
abbrev Wp:bG:=top 21
abbrev abD:bG:=fq (top 14) 5
abbrev BX:bG:=fq (top 61) 0
abbrev BY:bG:=fq (top 62) 0
abbrev Cd:bG:=fq (top 49) 0
abbrev BG:bG:=fq (top 51) 0
abbrev B3:bG:=fq (top 59) 0
abbrev Ce:bG:=fq (top 60) 0
abbrev BW:bG:=fq (top 63) 0
abbrev Ca:bG:=top 43
abbrev Cs:bG:=top 44
abbrev Ct:bG:=top 57
abbrev Cg:bG:=top 58
abbrev Cb:bG:=top 24
abbrev B0:bG:=top 18
abbrev BE:bG:=top 19
abbrev yc:bG:=fq (top 46) 0
abbrev yk:bG:=fq (top 47) 0
abbrev yg:bG:=fq (top 61) 1
abbrev ys:bG:=fq (top 60) 1
abbrev yf:bG:=fq (top 63) 1
abbrev yr:bG:=fq (top 49) 1
abbrev ye:bG:=fq (top 51) 1
abbrev abF:bG:=top 56
abbrev B4:bG:=top 23
abbrev Cc:bG:=top 22
abbrev Ck:bG:=top 20
abbrev yC:bG:=fq (top 61) 2
abbrev yd:bG:=fq (top 60) 2
abbrev yB:bG:=fq (top 63) 2
abbrev yb:bG:=fq (top 49) 2
abbrev yM:bG:=fq (top 51) 3
abbrev yD:bG:=fq (top 51) 2
abbrev yL:bG:=fq (top 46) 1
abbrev yG:bG:=fq (top 47) 1
end
theorem ru:cP ["_law_script","_law_pool_here","_law_k","_law_number"] ["_law_script"] (b4 Ch):=dc
theorem PT:cP ["_law_pool_here"] ["_law_pool_here"] (b4 Ci):=dc
theorem n0:cP ["_law_cell","_law_rest","_law_size","_law_number","_law_found","_law_k","_law_at"] ["_law_cell"] (b4 B5):=dc
theorem m7:cP ["_law_cell","_law_many","_law_some","_law_size","_law_at","_law_step","_law_number","_law_first","_law_stem","_law_k"] ["_law_cell","_law_many"] (b4 B6):=dc
theorem BH:cP ["_law_pool_here","_law_way","_law_low","_law_cell"] ["_law_pool_here","_law_way"] (b4 B1):=dc
theorem o6:cP ["_law_pool_here","_law_deep","_law_cell","_law_way","_law_many","_law_names_here","_law_inner","_law_k"] ["_law_pool_here","_law_deep"] (b4 yQ):=dc
theorem Hl:cP ["_law_form_here","_law_word"] ["_law_form_here"] (b4 yP):=dc
theorem Hk:cP ["_law_cell","_law_number"] ["_law_cell"] (b4 Cj):=dc
theorem Zip:cP ["_law_cell"] ["_law_cell"] (b4 B2):=dc
theorem qm:cP ["_law_one","_law_other","_law_top","_law_bottom","_law_low","_law_by","_law_rest"] ["_law_one","_law_other"] (b4 BF):=dc
theorem mh:cP ["_law_pool_here","_law_form_here","_law_word","_law_cell","_law_size","_law_text","_law_k","_law_name","_law_inner"] ["_law_pool_here","_law_form_here"] (b4 yq):=dc
theorem Hc:cP ["_law_pool_here","_law_cell"] ["_law_pool_here"] (b4 B8):=dc
theorem yi:cP ["_law_kept","_law_kinds_here"] ["_law_kept"] (b4 B7):=dc
theorem PS:cP ["_law_found","_law_due"] ["_law_found","_law_due"] (b4 yO):=dc
theorem tg:cP ["_law_pool_here","_law_deep","_law_cell","_law_way","_law_number","_law_parts"] ["_law_pool_here","_law_deep"] (b4 yX):=dc
theorem yp:cP ["_law_pool_here","_law_value_here","_law_cell","_law_parts","_law_at"] ["_law_pool_here","_law_value_here"] (b4 yS):=dc
theorem nZ:cP ["_law_value_here","_law_part","_law_one","_law_other","_law_first","_law_step","_law_rest"] ["_law_value_here"] (b4 Bt):=dc
theorem tN:cP ["_law_form_here","_law_value_here","_law_word","_law_whole","_law_inner"] ["_law_form_here","_law_value_here"] (b4 yR):=dc
theorem tM:cP ["_law_made_here","_law_value_here","_law_kept","_law_row","e"] ["_law_made_here","_law_value_here"] (b4 B9):=dc
theorem ly:cP ["_law_script","_law_pool_here","_law_form_here","_law_made_here","_law_value_here","_law_some","_law_one","_law_due","_law_found","_law_row","_law_kept"] ["_law_script"] (b4 C7):=dc
theorem OQ:cP ["self","value"] ["self","value"] (b4 yh):=dc
theorem GR:cP ["self","value","place"] ["self","value"] (b4 yE):=dc
theorem Oi:cP ["self","value"] ["self","value"] (b4 yI):=dc
theorem NW:cP ["self","value"] ["self","value"] (b4 yJ):=dc
theorem O3:cP ["self","value"] ["self","value"] (b4 yj):=dc
theorem Of:cP ["self","value"] ["self","value"] (b4 yF):=dc
theorem O6:cP ["self","value"] ["self","value"] (b4 yl):=dc
theorem Oh:cP ["self","value"] ["self","value"] (b4 yH):=dc
theorem PV:cP ["self","value"] ["self","value"] (b4 j0):=dc
theorem rr:cP ["fraction","steps","top","bottom","rest"] ["fraction"] (b4 Cf):=dc
theorem ry:cP ["steps","last","rows","k","step","row"] ["steps"] (b4 BD):=dc
theorem GC:cP ["fraction","steps"] ["fraction"] (b4 BS):=dc
theorem OK:cP ["fraction"] ["fraction"] (b4 BI):=dc
theorem yK:cP ["one","other","rest"] ["one","other"] (b4 Bu):=dc
theorem G5:cP ["n"] ["n"] (b4 Wp):=dc
theorem ON:cP ["self","parts"] ["self","parts"] (b4 BX):=dc
theorem OP:cP ["self","cases"] ["self","cases"] (b4 BY):=dc
theorem Pp:cP ["self","low","high"] ["self","low","high"] (b4 Cd):=dc
theorem Oy:cP ["self","signs"] ["self","signs"] (b4 BG):=dc
theorem O5:cP ["self","inner"] ["self","inner"] (b4 B3):=dc
theorem Pr:cP ["self","inner"] ["self","inner"] (b4 Ce):=dc
theorem OL:cP ["self","inner"] ["self","inner"] (b4 BW):=dc
theorem Pn:cP ["value"] ["value"] (b4 Ca):=dc
theorem Qk:cP ["text","signs"] ["text","signs"] (b4 Cs):=dc
theorem Ql:cP ["name"] ["name"] (b4 Ct):=dc
theorem Hj:cP ["parts","names"] ["parts"] (b4 Cg):=dc
theorem Po:cP ["n","most"] ["n","most"] (b4 Cb):=dc
theorem O2:cP ["row"] ["row"] (b4 B0):=dc
theorem Ou:cP ["n","width"] ["n","width"] (b4 BE):=dc
theorem Ow:cP ["self","value"] ["self","value"] (b4 yc):=dc
theorem O4:cP ["self","value"] ["self","value"] (b4 yk):=dc
theorem OO:cP ["self","value"] ["self","value"] (b4 yg):=dc
theorem Ps:cP ["self","value"] ["self","value"] (b4 ys):=dc
theorem OM:cP ["self","value"] ["self","value"] (b4 yf):=dc
theorem Pq:cP ["self","value"] ["self","value"] (b4 yr):=dc
theorem Oz:cP ["self","value"] ["self","value"] (b4 ye):=dc
theorem Pm:cP ["n"] ["n"] (b4 B4):=dc
theorem vO:cP ["n","m","digits","ahead","end"] ["n"] (b4 Cc):=dc
theorem PU:cP ["n"] ["n"] (b4 Ck):=dc
theorem N4:cP ["self","value"] ["self","value"] (b4 yC):=dc
theorem Ox:cP ["self","value"] ["self","value"] (b4 yd):=dc
theorem N3:cP ["self","value"] ["self","value"] (b4 yB):=dc
theorem Ov:cP ["self","value"] ["self","value"] (b4 yb):=dc
theorem GQ:cP ["self","value","most"] ["self","value"] (b4 yM):=dc
theorem N5:cP ["self","text"] ["self","text"] (b4 yD):=dc
theorem NZ:cP ["self","value"] ["self","value"] (b4 yL):=dc
theorem Og:cP ["self","value"] ["self","value"] (b4 yG):=dc
structure et(mg:af->Option al):Prop where
 d2:mg "len"=aw
 nE:mg "range"=aw
 ow:mg "int"=aw
 qT:mg "str"=aw
 pg:mg "bool"=aw
 nI:mg "tuple"=aw
 eD:mg "isinstance"=aw
 Ff:mg "min"=aw
 Xv:mg "max"=aw
 se:mg "list"=aw
 wd:mg "all"=aw
 acB:mg "reversed"=aw
 Um:mg "enumerate"=aw
 MT:mg "zip"=aw
 Ll:mg "set"=aw
 TK:mg "abs"=aw
variable {A:Prop} {o:ah} {X:List ah} {Q:bP} {r:List D×List Int} {l:PySem.W.OpenLaw}
section
open PySem cM fQ
variable {P:cW} {w:cD} {K:bH} {mg:af->Option al} {base:bb}
variable {f C:ah}{fd:hB}{c:fX}{n:Nat}{b2:D->Bool}{has:gT->Bool}{dg:D->List Bool}
seal b6 jY e2 ib jz hD nU vI iJ tH NN vJ
theorem d5{P:cW}{w:cD}{K:bH}{mg:af->Option al}{base:bb}{f:ah}{dX:al}{A:c1}{o:List Env}{E:cC}:(kQ CX P w K mg base N q sc f dX A o s H E).K=K:=rfl
theorem d6{X:bj}:(X.l2 E).K=X.K:=rfl
theorem d7{X:bj}{cl:List (af×ah)}{C:ah}{s2:aJ}:(zo X sc cl C N s2 ax bX).K=X.K:=rfl
theorem d8{X:bj}:X.pO.K=X.K:=rfl
local macro_rules | `(tactic| walk_at "g1")=>`(tactic| first
 |with_reducible exact True.intro
 |refine⟨_,I,?_⟩
 |refine⟨_,_,I,I,?_⟩
 |refine Or.inl ⟨_,_,I,I,?_⟩
 |refine Or.inr ⟨_,_,I,I,?_⟩
 |refine⟨I,?_⟩
 |refine⟨(by first|omega|decide),?_⟩)
local macro_rules | `(tactic| walk_at "g")=>`(tactic| repeat walk_at "g1")
theorem dk{p:Prop}[Decidable p](aq:p->A)(az:¬p->B):if decide p=au then A else B:=by
 by_cases h:p
 .rw[if_pos (eY h)];exact aq h
 .rw[if_neg (by simpa using h)];exact az h
theorem eP{p:Prop}[Decidable p](h:¬p)(az:B):if decide p=au then A else B:=by rw[if_neg (by simpa using h)];exact az
theorem h1{p:Prop}[Decidable p](h:p)(az:A):if decide p=au then A else B:=by rw[if_pos (eY h)];exact az
theorem pW{n:Nat}(h:n<=16000000):n<=bW:=dp h (by decide)
inductive GB(vs:List V)(H:ar)(Q:bP)(E:cC):Prop where
 |mk (l:List Bool) (bt:vs=[.str (bR l)]) (aq:l.length<=16000000) (az:Q (.str (bR (l.map (!·)))) H):GB  vs H Q E
def vF:cT:=fun vs H Q E=>GB  vs H Q E
theorem eN{n:Nat}(h:n<=100000):n<=bW:=dp h (by decide)
theorem RC(l:List Bool){i5:Nat->V}(g:Bool->Bool)(h:∀i,i<l.length->i5 i=.str (bR [g (l.getD i ay)])):(List.range l.length).map i5=((l.map g).map fun b=>bR [b]).map V.str:=by
 apply List.ext_getElem?
 intro i
 rw[gm,gm,gm,gm]
 rcases jC i l.length with z|z
 ·rw[List.getElem?_range z,cV z]
  have:=h i z
  rw[eM,cV z]at this
  exact congrArg J this
 .rw[yz (by simpa using z),yz z];rfl
theorem Ij(l:List Bool):((l.map fun b=>bR [b]).map (·.length)).sum+(l.map fun b=>bR [b]).length*(af.ofString "").length=l.length:=by
 have e:(af.ofString "").length=0:=by decide+kernel
 rw[e,Nat.mul_zero,Nat.add_zero]
 induction l with
 |nil=>rfl
 |cons b r cp=>simp only[jB,List.sum_cons,cp,fI,ep,List.length_nil];omega
theorem Ia(h:ae.length=1):∃z,ae=[z]:=by
 match ae,h with
 |[z],_=>exact⟨z,I⟩
theorem O7(F:ed K mg "turned_row" B0 ["row"] f fd):bx P w K mg base 1 "turned_row" ["row"] vF:=by
 refine F.fC O2 (fun bD A _ s H vs Q E aF h=>?_)
 obtain⟨l,rfl,aH,q⟩:=h
 refine⟨_,(aY (bB (ki PySem.F.plainAttrs_str PySem.F.slot_str_join PySem.F.type_str_join tX b7 (ak (hQ ["sign"] [] I (by decide+kernel) trivial (ja (ag 0)) (fun _ _ _ _ _=>(eH (i:=0) (show(["sign"]:List af).Nodup by decide+kernel))) (fun _ _ _ _ _=>iA) (fun _ _ _ _ _=>(nX (bZ cN (ag 0) b7) b7 b7))) aB)))),?_⟩
 try dsimp only[d5,d6,d7,d8]
 refine⟨I,.inr ⟨_,I,_,I,fun D dz=>?_⟩⟩
 refine CJ l.length (fun i =>.str (bR [l.getD i ay])) (fun i =>.str (bR [!l.getD i ay])) (fun ae=>ae.length=1) (pW aH) ?_ ?_ ?_ ?_ ?_ ?_
 .rfl
 .intro i H1 aE;show i<(bR l).cps.size;simpa [bR] using aE
 .intro H1;show(bR l).cps.size<=l.length;simp[bR]
 ·rintro i H1 x ax aE ⟨rfl,c,hc,rfl⟩
  exact⟨I,Rm hc⟩
 ·intro i bV H1 aE fu R cf
  obtain⟨z,rfl⟩:=Ia fu
  refine⟨_,I,I,_,I,?_⟩
  revert cf
  rw[s0,s1,Ro]
  cases l.getD i ay
  .intro cf;exact bN (cf _ (by rfl))
  .intro cf;exact bT (cf _ (by rfl))
 ·refine⟨_,D,(l.map (!·)).map fun b=>bR [b],I,I,bA ?_,?_,H,.refl ?_,?_⟩
  .rw[aP];exact congrArg (fun x=>J (dC.lst x)) (RC l (!·) fun i _=>I)
  .rw[Ij,cI];omega
  .exact c3 dz
  .rw[HN];exact q
inductive LU(vs:List V)(H:ar)(Q:bP)(E:cC):Prop where
 |mk (n d:Nat) (bt:vs=[.int n,.int d]) (aq:d<=16000000) (az:Q (.str (bR (gu n d))) H):LU  vs H Q E
def FF:cT:=fun vs H Q E=>LU  vs H Q E
theorem Qb(n d:Nat):gu n d=(List.range d).map fun i=>n.testBit (d-1-i):=by
 induction d with
 |zero=>rfl
 |succ d cp =>
  rw[gu,cp,List.range_succ_eq_map,jB,i2]
  congr 1
  apply o5
  intro i aE
  show n.testBit (d-1-i)=n.testBit (d+1-1-(i+1))
  congr 1
  omega
theorem SI(n k:Nat):dh.bitAnd ((n:Int)/2^k) 1=((n.testBit k).toNat:Int):=by
 rw[PyProof.Rows.bitAnd_m1]
 have e:((n:Int)/2^k)%2=((n/2^k%2:Nat):Int):=by
  rw[Int.natCast_emod,Int.natCast_ediv,Int.natCast_pow];rfl
 rw[e,Nat.testBit_eq_decide_div_mod_eq]
 have:n/2^k%2<2:=Nat.mod_lt _ (by decide)
 by_cases q:n/2^k%2=1
 .simp[q]
 ·have:n/2^k%2=0:=by omega
  simp[this]
theorem OB(nb:et mg)(F:ed K mg "lower_digits" BE ["n","width"] f fd):bx P w K mg base 1 "lower_digits" ["n","width"] FF:=by
 refine F.fC Ou (fun bD A _ s H vs Q E aF h=>?_)
 obtain⟨n,d,rfl,aH,q⟩:=h
 refine⟨_,(aY (bB (ki PySem.F.plainAttrs_str PySem.F.slot_str_join PySem.F.type_str_join tX b7 (ak (hQ ["k"] [(0,"n")] I (by decide+kernel) ⟨I,.inl I,trivial⟩ (QO I nb.nE (ak (aL gB (ag 1) aA) (ak (pf o8 aA) (ak (pf o8 aA) aB)))) (fun _ _ _ _ _=>(eH (i:=0) (show(["k","n"]:List af).Nodup by decide+kernel))) (fun _ _ _ _ _=>iA) (fun _ _ _ _ _=>(nX (bZ cN (aL S3 (aL S0 (ag 1) (ag 0)) aA) aA) b7 b7))) aB)))),?_⟩
 try dsimp only[d5,d6,d7,d8]
 refine⟨I,_,I,_,_,I,I,_,I,_,I,_,_,I,⟨by omega,by omega,by decide,by decide⟩,fun D dz=>?_⟩
 have bf:(((d:Int)-1)-(-1)).toNat=d:=by omega
 refine CJ (((d:Int)-1)-(-1)).toNat (fun i =>.int ((d:Int)-1+i*(-1))) (fun i =>.str (bR [n.testBit (d-1-i)])) (fun ae=>∃z,ae=[z,J (.int n)]) (by rw[bf];exact pW aH) ?_ ?_ ?_ ?_ ?_ ?_
 .exact⟨_,I⟩
 .intro i H1 aE;exact aE
 .intro H1;exact cQ _
 ·rintro i H1 x ax aE ⟨rfl,rfl⟩
  exact⟨I,I⟩
 ·rintro i bV H1 aE ⟨z,rfl⟩ R cf
  rw[bf]at aE
  have j2:((d:Int)-1+(i:Int)*(-1)).toNat=d-1-i:=by omega
  refine⟨_,I,_,I,_,_,I,I,(by omega),_,_,I,I,I,_,I,?_⟩
  have ao:dh.bitAnd ((n:Int)/2^((d:Int)-1+(i:Int)*(-1)).toNat) 1=((n.testBit (d-1-i)).toNat:Int):=by rw[j2];exact SI _ _
  revert cf
  rw[s0,s1]
  cases e:n.testBit (d-1-i)
  ·rw[e]at ao
   intro cf;exact eP (fun c=>absurd (ao.symm.trans (V.int.inj c)) (by decide)) (cf _ ⟨_,I⟩)
  ·rw[e]at ao
   intro cf;exact h1 (congrArg V.int ao) (cf _ ⟨_,I⟩)
 ·refine⟨_,D,(gu n d).map fun b=>bR [b],I,I,bA ?_,?_,H,.refl ?_,?_⟩
  .rw[aP,bf,Qb,i2,i2];rfl
  .rw[Ij,kK];omega
  .exact c3 dz
  .rw[HN];exact q
inductive Lz(vs:List V)(H:ar)(Q:bP)(E:cC):Prop where
 |mk (n m:Nat) (bt:vs=[.int n,.int m]) (aq:n<=m) (az:bp m<=16000000) (bE:Q (.str (bR (gu n (bp m)))) H):Lz  vs H Q E
def xG:cT:=fun vs H Q E=>Lz  vs H Q E
theorem PC(F:ed K mg "fixed_row" Cb ["n","most"] f fd)(q5:bx P w K mg base 1 "lower_digits" ["n","width"] FF):bx P w K mg base 2 "fixed_row" ["n","most"] xG:=by
 refine F.fC Po (fun bD A _ s H vs Q E aF h=>?_)
 obtain⟨n,m,rfl,aH,ao,q⟩:=h
 refine⟨_,(aS (cy (e2.pt (ih (bZ oE (ag 0) aA) (iM (bZ il (ag 0) (ag 1))))) (aY oZ) cx)
  (aY (bB (cu q5 aF (ak (ag 0) (ak (v8 PySem.F.plainAttrs_int PySem.F.slot_int_bit_length PySem.F.type_int_bit_length vQ (ag 1)) aB)))))),?_⟩
 try dsimp only[d5,d6,d7,d8]
 refine⟨_,I,.inl ⟨_,_,I,I,_,I,?_⟩⟩
 refine eP (by omega) ⟨_,I,_,I,_,_,I,I,_,I,?_⟩
 refine eP (by omega) ⟨_,I,_,I,I,_,I,I,?_⟩
 rw[t2]
 exact⟨n,bp m,I,ao,H,.refl (c2 _),q⟩
inductive Lv(vs:List V)(H:ar)(Q:bP)(E:cC):Prop where
 |mk (n:Nat) (bt:vs=[.int n]) (aq:n+1<2^255) (az:Q (.str (bR (cnt n))) H):Lv  vs H Q E
def Fy:cT:=fun vs H Q E=>Lv  vs H Q E
theorem CL(e:Nat):(ko e).length<=1:=by unfold ko;split<;>simp
theorem RS{n:Nat}(h:2^k<=n):k<bp n:=by
 rcases jC k (bp n)with z|z
 .exact z
 ·have:=rC n
  have:=Nat.pow_le_pow_right (show 0<2 by decide) z
  omega
def gS(n:Int):Prop:=0<=n/\n<2^255-1
noncomputable instance (n:Int):Decidable (gS n):=inferInstanceAs (Decidable (_/\_))
inductive LH(vs:List V)(H:ar)(Q:bP)(E:cC):Prop where
 |mk (n:Int) (bt:vs=[.int n]) (aq:Q (.aC (decide (gS n))) H):LH  vs H Q E
def xH:cT:=fun vs H Q E=>LH  vs H Q E
theorem Js{m:Nat}:gS (m:Int)↔bp (m+1)<=255:=by
 unfold gS
 constructor
 .intro ⟨_,h⟩;exact jm (by omega)
 ·intro h
  rcases jC (m+1) (2^255)with z|z
  .omega
  .have:=RS z;omega
theorem P4(DI:eT mg "MOST_DIGITS" (.int 255))(F:ed K mg "is_count" Ck ["n"] f fd):bx P w K mg base 1 "is_count" ["n"] xH:=by
 refine F.fC PU (fun bD A _ s H vs Q E aF h=>?_)
 obtain⟨n,rfl,q⟩:=h
 refine⟨_,(aY (bB (gV (fc Fp (ag 0) aA) (hT (fc sq (v8 PySem.F.plainAttrs_int PySem.F.slot_int_bit_length PySem.F.type_int_bit_length vQ (aL eE (ag 0) aA)) (i4 DI)))))),?_⟩
 try dsimp only[d5,d6,d7,d8]
 refine⟨_,I,_,_,I,I,_,I,?_⟩
 refine dk (fun c=>?_) (fun c=>?_)
 ·refine⟨_,I,.inl ⟨_,_,I,I,I,_,I,I,_,_,I,I,H,.refl (c2 _),?_⟩⟩
  obtain⟨m,rfl⟩:∃m:Nat,n=m:=⟨n.toNat,by omega⟩
  rw[show((m:Int)+1)=((m+1:Nat):Int)from rfl,t2 (m+1)]
  have e:decide (((bp (m+1):Nat):Int)<=255)=decide (gS (m:Int)):=by
   rw[decide_eq_decide,Js];omega
  dsimp only
  rw[e]
  exact q
 ·refine⟨H,.refl (c2 _),?_⟩
  have e:decide (gS n)=ay:=fo fun z=>c z.1
  rw[<-e];exact q
theorem PD(DH:eT mg "MOST_AHEAD" (.int 7))(F:ed K mg "count_row" Cc ["n"] f fd)(l7:bx P w K mg base 1 "is_count" ["n"] xH)(q5:bx P w K mg base 1 "lower_digits" ["n","width"] FF):bx P w K mg base 2 "count_row" ["n"] Fy:=by
 refine F.fC vO (fun bD A _ s H vs Q E aF h=>?_)
 obtain⟨n,rfl,bf,q⟩:=h
 refine⟨_,(aS (cy (hS (fS (cu l7 aF (ak (ag 0) aB)))) (aY oZ) cx)
  (aS (b0 1 vO.bC (aL eE (ag 0) aA))
  (aS (b0 2 vO.bC (v8 PySem.F.plainAttrs_int PySem.F.slot_int_bit_length PySem.F.type_int_bit_length vQ (ag 1)))
  (aS (b0 3 vO.bC (aL gB (v8 PySem.F.plainAttrs_int PySem.F.slot_int_bit_length PySem.F.type_int_bit_length vQ (ag 2)) aA))
  (aS (b0 4 vO.bC (nX (bZ cN (ag 3) (i4 DH)) b7 b7))
  (aY (bB (aL eE (aL eE (aL eE (aL lg b7 (ag 3)) (ag 4)) (cu q5 aF (ak (ag 2) (ak (ag 3) aB)))) (cu q5 aF (ak (ag 1) (ak (aL gB (ag 2) aA) aB))))))))))),?_⟩
 try dsimp only[d5,d6,d7,d8]
 have hd:bp (n+1)<=255:=jm bf
 have bh:0<bp (n+1):=rn (by omega)
 have he:bp (bp (n+1))<=8:=jm (by omega)
 have aT:0<bp (bp (n+1)):=rn (by omega)
 have f3:=t2 (n+1)
 have eB:=t2 (bp (n+1))
 refine⟨_,I,_,I,_,I,?_⟩
 rw[eY (Js.mpr hd)]
 refine bT ⟨_,I,.inl ⟨_,_,I,I,_,I,I,_,I,I,?_⟩⟩
 rw[show((n:Int)+1)=((n+1:Nat):Int)from rfl,f3]
 refine⟨_,I,I,_,I,I,_,_,I,I,?_⟩
 rw[eB]
 obtain⟨k,hk⟩:∃k:Nat,((bp (bp (n+1)):Nat):Int)-1=k:=⟨bp (bp (n+1))-1,by omega⟩
 have hk':k=bp (bp (n+1))-1:=by omega
 dsimp only
 rw[hk]
 have a1:(k:Int)<2^40:=by omega
 have a2 : -(2^40)<(k:Int):=by omega
 have a3:(af.ofString "1").length*((k:Nat):Int).toNat<=bW:=by rw[s1,fI];exact eN (by show 1*_<=_;omega)
 have a4:(Txt.mul (af.ofString "1") (k:Int)).length+(bR (ko (bp (bp (n+1))))).length<=bW:=by
  rw[s1,zd,fI,fI,List.length_replicate]
  have:=CL (bp (bp (n+1)))
  exact eN (by omega)
 have a5:(Txt.mul (af.ofString "1") (k:Int)++bR (ko (bp (bp (n+1))))).length+(bR (gu (bp (n+1)) k)).length<=bW:=by
  rw[s1,zd,kL,fI,fI,eU,List.length_replicate,kK]
  have:=CL (bp (bp (n+1)))
  exact eN (by omega)
 have a6:(Txt.mul (af.ofString "1") (k:Int)++bR (ko (bp (bp (n+1))))++bR (gu (bp (n+1)) k)).length+(bR (gu (n+1) (bp (n+1)-1))).length<=bW:=by
  rw[s1,zd,kL,kL,fI,fI,eU,eU,List.length_replicate,kK,kK]
  have:=CL (bp (bp (n+1)))
  exact eN (by omega)
 have Jk:Txt.mul (af.ofString "1") (k:Int)++bR (ko (bp (bp (n+1))))++bR (gu (bp (n+1)) k)++bR (gu (n+1) (bp (n+1)-1))=bR (cnt n):=by
  rw[s1,zd,kL,kL,kL]
  unfold cnt
  rw[hk',rp,rp]
  rfl
 have ad:[V.int ((n:Int)+1),V.int (((bp (n+1):Nat):Int)-1)]=[.int ((n+1:Nat):Int),.int ((bp (n+1)-1:Nat):Int)]:=by
  have:((bp (n+1):Nat):Int)-1=((bp (n+1)-1:Nat):Int):=by omega
  rw[this];rfl
 refine⟨_,I,I,_,I,?_⟩
 refine dk (fun c=>?_) (fun c=>?_)
 ·have En:(af.ofString "")=bR (ko (bp (bp (n+1)))):=by
   have:=V.int.inj c
   rw[ZQ];unfold ko;rw[if_pos (by omega)]
  rw[En]
  refine⟨_,I,.inr ⟨_,_,I,I,a1,a2,a3,_,I,.inr ⟨_,_,I,I,a4,_,I,_,I,_,_,I,(by omega),.inr ⟨_,_,I,I,a5,?_⟩⟩⟩⟩
  refine⟨_,I,_,I,_,_,I,I,n+1,bp (n+1)-1,ad,(by omega),.inr ⟨_,_,I,I,a6,H,.refl (c2 _),?_⟩⟩
  rw[Jk]
  exact q
 ·have En:(af.ofString "0")=bR (ko (bp (bp (n+1)))):=by
   have:¬k=7:=fun z=>c (by rw[z];rfl)
   rw[s0];unfold ko;rw[if_neg (by omega)]
  rw[En]
  refine⟨_,I,.inr ⟨_,_,I,I,a1,a2,a3,_,I,.inr ⟨_,_,I,I,a4,_,I,_,I,_,_,I,(by omega),.inr ⟨_,_,I,I,a5,?_⟩⟩⟩⟩
  refine⟨_,I,_,I,_,_,I,I,n+1,bp (n+1)-1,ad,(by omega),.inr ⟨_,_,I,I,a6,H,.refl (c2 _),?_⟩⟩
  rw[Jk]
  exact q
def gI(n:Int):Prop := -(2^255)<n/\n<2^255-1
inductive G6(vs:List V)(H:ar)(Q:bP)(E:cC):Prop where
 |mk (n:Int) (bt:vs=[.int n]) (aq:gI n) (az:Q (.str (bR (jR n))) H):G6  vs H Q E
def yN:cT:=fun vs H Q E=>G6  vs H Q E
theorem Sm{n:Int}(h:n<0)(b : -(2^255)<n):∃m:Nat,-1-n=m/\m+1<2^255/\jR n=ay::(cnt m).map (!·):=by
 refine⟨(-1-n).toNat,by omega,by omega,?_⟩
 unfold jR;rw[if_pos h]
theorem Sa{n:Int}(h:¬n<0)(b:n<2^255-1):∃m:Nat,n=m/\m+1<2^255/\jR n=au::cnt m:=by
 refine⟨n.toNat,by omega,by omega,?_⟩
 unfold jR;rw[if_neg h]
theorem y8{n:Nat}(h:n+1<2^255):(cnt n).length<=269:=by
 have:=Hz h
 have:=jm h
 omega
theorem It(b:Bool)(l:List Bool):bR [b]++bR l=bR (b::l):=by rw[kL];rfl
theorem Pu(F:ed K mg "whole_row" B4 ["n"] f fd)(q1:bx P w K mg base 2 "count_row" ["n"] Fy)(mT:bx P w K mg base 1 "turned_row" ["row"] vF):bx P w K mg base 3 "whole_row" ["n"] yN:=by
 refine F.fC Pm (fun bD A _ s H vs Q E aF h=>?_)
 obtain⟨n,rfl,bf,q⟩:=h
 refine⟨_,(aS (cy (bZ oE (ag 0) aA) (aY (bB (aL eE b7 (cu mT aF (ak (cu q1 aF (ak (aL gB (pf o8 aA) (ag 0)) aB)) aB))))) cx)
  (aY (bB (aL eE b7 (cu q1 aF (ak (ag 0) aB)))))),?_⟩
 try dsimp only[d5,d6,d7,d8]
 refine⟨_,I,.inl ⟨_,_,I,I,_,I,?_⟩⟩
 refine dk (fun c=>?_) (fun c=>?_)
 ·obtain⟨m,e,hm,nh⟩:=Sm c bf.1
  have lm:=y8 hm
  refine⟨_,I,_,I,_,_,I,I,m,(congrArg (fun x=>[V.int x]) e),hm,cnt m,I,(by omega),.inr ⟨_,_,I,I,(by rw[s0,fI,fI,cI];exact eN (by simp only[ep,List.length_nil];omega)),H,.refl (c2 _),?_⟩⟩
  rw[s0,It,<-nh]
  exact q
 ·obtain⟨m,rfl,hm,nh⟩:=Sa c bf.2
  have lm:=y8 hm
  refine⟨_,I,m,I,hm,.inr ⟨_,_,I,I,(by rw[s1,fI,fI];exact eN (by simp only[ep,List.length_nil];omega)),H,.refl (c2 _),?_⟩⟩
  rw[s1,It,<-nh]
  exact q
theorem Ab(l:List Int):(l.map V.int).length=l.length:=cI ..
theorem xE{n:Nat}(h:n<=100001):n<=bW:=dp h (by decide)
theorem qk{r:ah}{o:dC}(hs:dJ H ax)(aF:H r=aw):dJ H (upd ax r o):=fun b u e=>by rw[cn (gv e aF)];exact hs b u e
inductive Me(vs:List V)(H:ar)(Q:bP)(E:cC):Prop where
 |mk (t:ah) (p q:Int) (bt:vs=[.ref t]) (aq:H t=J (.tup [.int p,.int q])) (az:0<=q) (bE:(e0 p q).length<=100000) (cz:(∀x∈e0 p q,x.natAbs<2^1000)) (dY:∀r,H r=aw->Q (.ref r) (upd H r (.lst ((e0 p q).map .int)))):Me  vs H Q E
def AH:cT:=fun vs H Q E=>Me  vs H Q E
theorem PX(F:ed K mg "steps_of" Cf ["fraction"] f fd):bx P w K mg base 1 "steps_of" ["fraction"] AH:=by
 refine F.fC rr (fun bD A _ s H vs Q E aF h=>?_)
 obtain⟨t,p,q,rfl,aO,aT,aH,ao,fV⟩:=h
 refine⟨_,(aS (b0 1 rr.bC (e4 aB))
  (aS (b0 2 rr.bC (b8 cb (ag 0) aA))
  (aS (b0 3 rr.bC (b8 cb (ag 0) aA))
  (aS (y3 lr.never (bZ nB (ag 3) aA)
   (aS (vZ (ki PySem.F.plainAttrs_list PySem.F.slot_list_append PySem.F.type_list_append tJ (ag 1) (ak (aL rk (ag 2) (ag 3)) aB)))
   (aS (b0 4 rr.bC (aL cZ (ag 2) (ag 3)))
   (aS (b0 2 rr.bC (ag 3))
   (aY (b0 3 rr.bC (ag 4)))))))
  (aY (bB (ag 1))))))),?_⟩
 try dsimp only[d5,d6,d7,d8]
 have a0:dv [V.int p,V.int q] 0=J (.int p):=c5 (j:=0) rfl
 have a1:dv [V.int p,V.int q] 1=J (.int q):=c5 (j:=1) rfl
 refine⟨UF _,fun r hH=>?_⟩
 have Kl:=c3 (o:=dC.lst []) hH t _ aO
 refine⟨_,I,.inl (.inr ⟨_,_,_,_,I,I,ck Kl,a0,_,I,.inl (.inr ⟨_,_,_,_,I,I,ck Kl,a1,?_⟩)⟩)⟩
 refine⟨fun m ae ax=>∃(d:List Int)(x y:Int)(z:Option V),d++e0 x y=e0 p q/\0<=y/\m=y.toNat/\ae=[J (.ref t),J (.ref r),J (.int x),J (.int y),z]/\ax=upd H r (.lst (d.map .int)),⟨q.toNat,[],p,q,aw,I,aT,I,I,I⟩,?_⟩
 rintro m ae ax ⟨d,x,y,z,hd,bF,rfl,rfl,rfl⟩
 refine⟨_,I,I,_,I,?_⟩
 rw[zf]
 by_cases sa:y=0
 ·subst sa
  rw[nY,List.append_nil]at hd
  subst hd
  refine bT ⟨_,I,_,.new hH (c3 hH) aP trivial,fV r hH⟩
 ·have mx:0<y:=by omega
  rw[lF mx]at hd
  have V0:x/y∈e0 p q:=by rw[<-hd];exact md _ (gU ..)
  have cG:=congrArg List.length hd
  rw[eU,ep]at cG
  have fi:(y == 0)=ay:=by simpa using sa
  rw[fi]
  have b5:=fR x mx
  have ip:=fp x sa
  refine bN ⟨fun bU ai=>∃cv,cv<y.toNat/\∃(d:List Int)(x y:Int)(z:Option V),d++e0 x y=e0 p q/\0<=y/\cv=y.toNat/\bU=[J (.ref t),J (.ref r),J (.int x),J (.int y),z]/\ai=upd H r (.lst (d.map .int)),fun _ _ h=>h,?_⟩
  refine⟨_,I,.inl ⟨I,_,bA aP⟩,_,I,_,I,_,_,I,I,⟨mx,.inr (dp (RN mx (ao _ V0)) (Nat.add_le_add_left (by decide) _))⟩,?_⟩
  refine⟨_,_,_,I,I,aP,(by rw[Ab];exact ez (show d.length<100001 by omega) (xE (by decide))),?_⟩
  refine⟨_,I,_,I,_,_,I,I,mx,_,I,_,I,?_⟩
  refine⟨(x%y).toNat,by omega,d++[x/y],y,x%y,_,?_,ip,rfl,rfl,?_⟩
  .rw[rp];exact hd
  .rw[kn,ie];rfl
noncomputable instance (n:Int):Decidable (gI n):=inferInstanceAs (Decidable (_/\_))
def nW(s:List Int):Prop:=(∀x∈s.take 1,gI x)/\∀x∈s.drop 1,gS (x-1)
noncomputable instance (s:List Int):Decidable (nW s):=inferInstanceAs (Decidable (_/\_))
inductive LG(vs:List V)(H:ar)(Q:bP)(E:cC):Prop where
 |mk (n:Int) (bt:vs=[.int n]) (aq:Q (.aC (decide (gI n))) H):LG  vs H Q E
def LD:cT:=fun vs H Q E=>LG  vs H Q E
theorem Oj(F:ed K mg "has_whole_row" Wp ["n"] f fd)(l7:bx P w K mg base 1 "is_count" ["n"] xH):bx P w K mg base 2 "has_whole_row" ["n"] LD:=by
 refine F.fC G5 (fun bD A _ s H vs Q E aF h=>?_)
 obtain⟨n,rfl,q⟩:=h
 refine⟨_,(aY (bB (cu l7 aF (ak (nX (bZ Fp (ag 0) aA) (ag 0) (aL gB (pf o8 aA) (ag 0))) aB)))),?_⟩
 try dsimp only[d5,d6,d7,d8]
 refine⟨_,I,_,_,I,I,_,I,?_⟩
 refine dk (fun c=>?_) (fun c=>?_)
 ·refine⟨_,I,_,I,H,.refl (c2 _),?_⟩
  have e:decide (gS n)=decide (gI n):=decide_eq_decide.mpr (by unfold gS gI;omega)
  rw[e];exact q
 ·refine⟨_,I,_,I,_,_,I,I,_,I,H,.refl (c2 _),?_⟩
  have e:decide (gS (-1-n))=decide (gI n):=decide_eq_decide.mpr (by unfold gS gI;omega)
  rw[e];exact q
inductive Lu(vs:List V)(H:ar)(Q:bP)(E:cC):Prop where
 |mk (p q:Int) (bt:vs=[.int p,.int q]) (aq:0<=q) (az:Q (.int (dX p q)) H):Lu  vs H Q E
def Ls:cT:=fun vs H Q E=>Lu  vs H Q E
theorem N7(F:ed K mg "common_divisor" Bu ["one","other"] f fd):bx P w K mg base 1 "common_divisor" ["one","other"] Ls:=by
 refine F.fC yK (fun bD A _ s H vs Q E aF h=>?_)
 obtain⟨p,q,rfl,aT,fV⟩:=h
 refine⟨_,(aS (y3 lr.never (bZ nB (ag 1) aA)
   (aS (b0 2 yK.bC (aL cZ (ag 0) (ag 1)))
   (aS (b0 0 yK.bC (ag 1))
   (aY (b0 1 yK.bC (ag 2))))))
  (aY (bB (ag 0)))),?_⟩
 try dsimp only[d5,d6,d7,d8]
 refine⟨fun m ae ax=>∃(x y:Int)(z:Option V),dX x y=dX p q/\0<=y/\m=y.toNat/\ae=[J (.int x),J (.int y),z]/\ax=H,⟨q.toNat,p,q,aw,I,aT,I,I,I⟩,?_⟩
 rintro m ae ax ⟨x,y,z,hd,bF,rfl,rfl,rfl⟩
 refine⟨_,I,I,_,I,?_⟩
 rw[zf]
 by_cases sa:y=0
 ·subst sa
  rw[tZ]at hd
  subst hd
  exact bT ⟨_,I,ax,.refl (c2 _),fV⟩
 ·have mx:0<y:=by omega
  rw[wa mx]at hd
  have fi:(y == 0)=ay:=by simpa using sa
  rw[fi]
  have b5:=fR x mx
  have ip:=fp x sa
  refine bN ⟨fun bU ai=>∃cv,cv<y.toNat/\∃(x y:Int)(z:Option V),dX x y=dX p q/\0<=y/\cv=y.toNat/\bU=[J (.int x),J (.int y),z]/\ai=ax,fun _ _ h=>h,?_⟩
  refine⟨_,I,_,I,_,_,I,I,mx,_,I,_,I,?_⟩
  exact⟨(x%y).toNat,by omega,y,x%y,_,hd,ip,rfl,rfl,rfl⟩
inductive LJ(vs:List V)(H:ar)(Q:bP)(E:cC):Prop where
 |mk (t:ah) (p q:Int) (bt:vs=[.ref t]) (aq:H t=J (.tup [.int p,.int q])) (az:Q (.aC (decide (0<q/\dX p q=1))) H):LJ  vs H Q E
def LI:cT:=fun vs H Q E=>LJ  vs H Q E
theorem OU(F:ed K mg "is_fraction" BI ["fraction"] f fd)(Bc:bx P w K mg base 1 "common_divisor" ["one","other"] Ls):bx P w K mg base 2 "is_fraction" ["fraction"] LI:=by
 refine F.fC OK (fun bD A _ s H vs Q E aF h=>?_)
 obtain⟨t,p,q,rfl,aO,fV⟩:=h
 refine⟨_,(aY (bB (gV (fc il (b8 cb (ag 0) aA) aA) (hT (fc cN (cu Bc aF (ak (b8 cb (ag 0) aA) (ak (b8 cb (ag 0) aA) aB))) aA))))),?_⟩
 try dsimp only[d5,d6,d7,d8]
 have a0:dv [V.int p,V.int q] 0=J (.int p):=c5 (j:=0) rfl
 have a1:dv [V.int p,V.int q] 1=J (.int q):=c5 (j:=1) rfl
 refine⟨_,I,.inl (.inr ⟨_,_,_,_,I,I,ck aO,a1,_,_,I,I,_,I,?_⟩)⟩
 refine dk (fun c=>?_) (fun c=>?_)
 ·refine⟨_,I,.inl (.inr ⟨_,_,_,_,I,I,ck aO,a0,_,I,.inl (.inr ⟨_,_,_,_,I,I,ck aO,a1,p,q,I,Int.le_of_lt c,I,H,.refl (c2 _),?_⟩)⟩)⟩
  have e:decide (V.int (dX p q)=V.int 1)=decide (0<q/\dX p q=1):=decide_eq_decide.mpr ⟨fun z=>⟨c,V.int.inj z⟩,fun z=>congrArg V.int z.2⟩
  rw[e];exact fV
 ·refine⟨H,.refl (c2 _),?_⟩
  rw[fo (fun z=>c z.1)]at fV
  exact fV
inductive LC(vs:List V)(H:ar)(Q:bP)(E:cC):Prop where
 |mk (t:ah) (p q:Int) (bt:vs=[.ref t]) (aq:H t=J (.tup [.int p,.int q])) (az:(0<q->(e0 p q).length<=100000/\∀x∈e0 p q,x.natAbs<2^1000)) (bE:Q (.aC (decide (0<q/\dX p q=1/\nW (e0 p q)))) H):LC  vs H Q E
def FA:cT:=fun vs H Q E=>LC  vs H Q E
theorem NX(nb:et mg)(F:ed K mg "has_fraction_row" BS ["fraction"] f fd)(Bd:bx P w K mg base 2 "is_fraction" ["fraction"] LI)(p8:bx P w K mg base 1 "steps_of" ["fraction"] AH)(q2:bx P w K mg base 2 "has_whole_row" ["n"] LD)(l7:bx P w K mg base 1 "is_count" ["n"] xH):bx P w K mg base 3 "has_fraction_row" ["fraction"] FA:=by
 refine F.fC GC (fun bD A _ s H vs Q E aF h=>?_)
 obtain⟨t,p,q,rfl,aO,ao,fV⟩:=h
 refine⟨_,(aS (cy (hS (fS (cu Bd aF (ak (ag 0) aB)))) (aY (bB gJ)) cx)
  (aS (b0 1 GC.bC (cu p8 aF (ak (ag 0) aB)))
  (aY (bB (gV (cu q2 aF (ak (b8 cb (ag 1) aA) aB)) (hT (bY (vX rfl) rfl nb.wd wb (ak (hQ ["step"] [] rfl (by decide+kernel) trivial (ja (ri sH (ag 1) (rz aA) rA)) (fun _ _ _ _ _=>(eH (i:=0) (show(["step"]:List af).Nodup by decide+kernel))) (fun _ _ _ _ _=>iA) (fun _ _ _ _ _=>(cu l7 aF (ak (aL gB (ag 0) aA) aB)))) aB)))))))),?_⟩
 try dsimp only[d5,d6,d7,d8]
 refine⟨_,I,t,p,q,I,aO,_,I,?_⟩
 by_cases aQ:0<q/\dX p q=1
 ·rw[eY aQ]
  obtain⟨aH,bw⟩:=ao aQ.1
  refine bT ⟨_,I,t,p,q,I,aO,Int.le_of_lt aQ.1,aH,bw,fun r hH=>?_⟩
  have pT:=c3 (o:=dC.lst ((e0 p q).map V.int)) hH
  obtain⟨a,aV,he⟩:∃a aV,e0 p q=a::aV:=⟨_,_,lF aQ.1⟩
  rw[he]at fV pT aH ⊢
  have a0:dv ((a::aV).map V.int) 0=J (.int a):=c5 (j:=0) rfl
  refine⟨_,I,.inl (.inl ⟨_,_,_,_,I,I,bA aP,a0,a,I,_,I,?_⟩)⟩
  refine dk (fun c=>?_) (fun c=>?_)
  ·refine .inl ⟨_,I,_,I,.inl ⟨r,_,I,bA aP,fun g aN=>⟨_,I,⟨_,bA aP⟩,fun D dz=>?_⟩⟩⟩
   rw[Q9,<-List.map_drop]at dz ⊢
   have As:=pT.trans (c3 (o:=dC.lst (((a::aV).drop 1).map V.int)) aN)
   refine Cx (xs:=((a::aV).drop 1).map V.int) (fun x=>match x with|.int i =>.aC (decide (gS (i-1)))|_=>x) (fun ae=>ae.length=1) (by rw[Ab,rq];exact eN (by omega)) rfl dz (bA aP) ?_ ?_
   ·rintro x av bV H1 fu c9 R cf
    obtain⟨i,_,rfl⟩:=List.mem_map.mp av
    obtain⟨z,rfl⟩:=Ia fu
    exact⟨_,I,_,_,I,I,_,I,cf _ I⟩
   ·rw[i2]
    have Fx:=As.trans (c3 (o:=dC.lst (((a::aV).drop 1).map fun i=>V.aC (decide (gS (i-1))))) dz)
    refine⟨D,((a::aV).drop 1).map fun i=>decide (gS (i-1)),I,bA (by rw[aP,i2];rfl),H,.refl Fx,?_⟩
    have e:(((a::aV).drop 1).map fun i=>decide (gS (i-1))).all id=decide (0<q/\dX p q=1/\nW (a::aV)):=by
     rw[List.all_map]
     apply Bool.eq_iff_iff.mpr
     rw[ig,mc]
     constructor
     ·intro h
      refine⟨aQ.1,aQ.2,fun x av=>?_,fun x av=>lD (h x av)⟩
      rw[hq.mp av];exact c
     ·intro h x av
      exact eY (h.2.2.2 x av)
    rw[e];exact fV
  ·refine⟨H,.refl pT,?_⟩
   rw[fo (fun z=>c (z.2.2.1 a (hq.mpr rfl)))]at fV
   exact fV
 ·rw[fo aQ]
  refine bN ⟨H,.refl (c2 _),?_⟩
  rw[fo (fun z=>aQ ⟨z.1,z.2.1⟩)]at fV
  exact fV
inductive L6(vs:List V)(H:ar)(Q:bP)(E:cC):Prop where
 |mk (a:ah) (s:List Int) (bt:vs=[.ref a]) (aq:H a=J (.lst (s.map .int))) (az:s≠[]) (bE:s.length<=10000) (cz:nW s) (dY:Q (.str (bR (ue s))) H):L6  vs H Q E
def FJ:cT:=fun vs H Q E=>L6  vs H Q E
theorem QN{x:Int}{b:Bool}(h:if k=0 then gI x else gS (x-1)):(hz k x b).length<=271:=by
 unfold hz
 rw[cI,eU,i1]
 by_cases hk:k=0
 ·rw[if_pos hk]at h ⊢
  have:=Ht h.1 h.2
  omega
 ·rw[if_neg hk]at h ⊢
  have:=y8 (n:=(x-1).toNat) (by unfold gS at h;omega)
  omega
theorem nW.at{s:List Int}{x:Int}(h:nW s)(av:s[i]?=J x):if i=0 then gI x else gS (x-1):=by
 match s,i,av with
 |a::r,0,av=>cases av;exact h.1 x (hq.mpr I)
 |a::r,i+1,av=>exact h.2 x (iL av)
theorem R4{l:List (List Bool)}(h:∀p∈l,p.length<=271):((l.map bR).map (·.length)).sum<=271*l.length:=by
 induction l with
 |nil=>exact UF _
 |cons p r cp =>
  rw[jB,jB,List.sum_cons,ep,fI]
  have:=h p (gU ..)
  have:=cp fun q aT=>h q (eo _ aT)
  omega
theorem yV(x:List Bool)(b:Bool):bR x++bR [b]=bR (x++[b]):=by rw[kL]
theorem OA(nb:et mg)(F:ed K mg "row_of_steps" BD ["steps"] f fd)(p9:bx P w K mg base 3 "whole_row" ["n"] yN)(q1:bx P w K mg base 2 "count_row" ["n"] Fy)(mT:bx P w K mg base 1 "turned_row" ["row"] vF):bx P w K mg base 4 "row_of_steps" ["steps"] FJ:=by
 refine F.fC ry (fun bD A _ s H vs Q E aF h=>?_)
 obtain⟨a,s,rfl,bz,lQ,aH,cf,q⟩:=h
 refine⟨_,(aS (b0 1 ry.bC (aL gB (bY ec I nb.d2 d4 (ak (ag 0) aB)) aA))
  (aS (b0 2 ry.bC (e4 aB))
  (aS (qo lr.never rfl (Sd rfl nb.Um (ag 0)) (o9 rfl (jk (eH (i:=3) ry.bC rfl (by exact Or.inl I)) (jk (eH (i:=4) ry.bC rfl (by exact Or.inl I)) o1)))
   (aS (b0 5 ry.bC (nX (bZ cN (ag 3) aA) (cu p9 aF (ak (ag 4) aB)) (cu q1 aF (ak (aL gB (ag 4) aA) aB))))
   (aS (b0 5 ry.bC (aL eE (ag 5) (nX (bZ cN (ag 3) (ag 1)) b7 b7)))
   (aY (vZ (ki PySem.F.plainAttrs_list PySem.F.slot_list_append PySem.F.type_list_append tJ (ag 2) (ak (nX (bZ cN (aL cZ (ag 3) aA) aA) (cu mT aF (ak (ag 5) aB)) (ag 5)) aB)))))))
  (aY (bB (ki PySem.F.plainAttrs_str PySem.F.slot_str_join PySem.F.type_str_join tX b7 (ak (ag 2) aB))))))),?_⟩
 try dsimp only[d5,d6,d7,d8]
 refine⟨_,I,_,_,I,.inl ⟨_,bA bz,I⟩,_,_,I,I,UF _,fun r hH=>?_⟩
 have sB:=c3 (o:=dC.lst []) hH
 refine⟨_,I,a,_,I,bA (sB _ _ bz),?_⟩
 refine RI (xs:=s.map V.int) (fun i ae ax=>dJ H ax/\ax r=J (.lst (((gC 0 s).take i).map (fun p=>V.str (bR p))))/\∃ea el kD,ae=[J (.ref a),J (.int ((s.length:Nat)-1:Int)),J (.ref r),ea,el,kD]) ?_ ?_ ?_ ?_
 .exact⟨sB,aP,aw,aw,aw,by dsimp only;rw[Ab];rfl⟩
 .rintro i ae ax aE ⟨hs,_⟩;exact bA (hs _ _ bz)
 ·rintro i aa4 ae ax T av cF ⟨hs,oe,ea,el,kD,rfl⟩
  obtain⟨x,EY,rfl⟩:∃x,s[i]?=J x/\aa4=.int x:=by
   rw[gm]at av
   cases h:s[i]? with
   |none=>rw[h]at av;cases av
   |some y=>rw[h]at av;exact⟨y,I,(gk av).symm⟩
  have aE:i<s.length:=(lE.mp EY).1
  have g9:=cf.at EY
  have w2:=IM (k:=0) EY
  rw[Nat.zero_add]at w2
  have c8:=hs.trans (c3 (o:=dC.tup [V.int ((i:Nat):Int),V.int x]) cF)
  have ml:=c3 (o:=dC.tup [V.int ((i:Nat):Int),V.int x]) cF _ _ oe
  refine⟨T,_,I,ck aP,I,_,_,I,_,_,I,I,?_⟩
  refine⟨_,I,I,_,I,?_⟩
  by_cases wX:i=0
  ·rw[if_pos wX]at g9
   have eI:decide (V.int ((i:Nat):Int)=V.int 0)=au:=eY (congrArg V.int (by omega))
   rw[eI]
   refine bN ⟨_,I,x,I,g9,_,I,_,I,_,I,I,_,I,?_⟩
   obtain⟨kA,qv⟩:∃kA,kA=jR x:=⟨_,rfl⟩
   have ex:(if i=0 then jR x else cnt (x-1).toNat)=kA:=by rw[if_pos wX,qv]
   have Xm:kA.length<=270:=by rw[qv];exact Ht g9.1 g9.2
   rw[<-qv]
   have Xk:(kA++[!decide (i+1=s.length)]).length<=271:=by rw[eU,i1];omega
   refine dk (fun ee=>?_) (fun ee=>?_)
   ·
    have hX:i+1=s.length:=by have:=V.int.inj ee;omega
    have fi:[!decide (i+1=s.length)]=[ay]:=by rw[eY hX];rfl
    refine .inr ⟨_,_,I,I,(by rw[s0,fI,fI];exact eN (by rw[i1];omega)),?_⟩
    rw[s0,yV,<-fi]
    refine⟨_,I,.inl ⟨I,_,bA ml⟩,_,I,_,_,I,I,(by show(0:Int)<2;decide),I,_,I,?_⟩
    have nr:∀z:List V,z=((gC 0 s).take i).map (fun p=>V.str (bR p))->z.length<bW:=fun z bw=>by rw[bw,cI,kj];exact ez (show min i (gC 0 s).length<100001 by omega) (xE (by decide))
    have aZ:∀p:List Bool,p=hz i x (decide (i+1=s.length))->((gC 0 s).take i).map (fun p=>V.str (bR p))++[V.str (bR p)]=((gC 0 s).take (i+1)).map (fun p=>V.str (bR p)):=fun p bh=>by rw[m4,w2,ie,bh];rfl
    refine dk (fun eu=>?_) (fun eu=>?_)
    ·have aD:odd i=au:=eY (by have:=V.int.inj eu;omega)
     refine⟨_,I,_,I,by omega,?_⟩
     refine⟨_,_,_,I,I,ml,nr _ I,?_⟩
     rw[aZ _ (by unfold hz;rw[aD,ex];exact o5 fun b _=>by cases b<;>rfl)]
     exact⟨qk c8 hH,aP,_,_,_,I⟩
    ·have aD:odd i=ay:=fo (fun z=>eu (congrArg V.int (by omega)))
     refine⟨_,I,?_⟩
     refine⟨_,_,_,I,I,ml,nr _ I,?_⟩
     rw[aZ _ (by unfold hz;rw[aD,ex,vU])]
     exact⟨qk c8 hH,aP,_,_,_,I⟩
   ·have hX:¬i+1=s.length:=fun z=>ee (congrArg V.int (by omega))
    have fi:[!decide (i+1=s.length)]=[au]:=by rw[fo hX];rfl
    refine .inr ⟨_,_,I,I,(by rw[s1,fI,fI];exact eN (by rw[i1];omega)),?_⟩
    rw[s1,yV,<-fi]
    refine⟨_,I,.inl ⟨I,_,bA ml⟩,_,I,_,_,I,I,(by show(0:Int)<2;decide),I,_,I,?_⟩
    have nr:∀z:List V,z=((gC 0 s).take i).map (fun p=>V.str (bR p))->z.length<bW:=fun z bw=>by rw[bw,cI,kj];exact ez (show min i (gC 0 s).length<100001 by omega) (xE (by decide))
    have aZ:∀p:List Bool,p=hz i x (decide (i+1=s.length))->((gC 0 s).take i).map (fun p=>V.str (bR p))++[V.str (bR p)]=((gC 0 s).take (i+1)).map (fun p=>V.str (bR p)):=fun p bh=>by rw[m4,w2,ie,bh];rfl
    refine dk (fun eu=>?_) (fun eu=>?_)
    ·have aD:odd i=au:=eY (by have:=V.int.inj eu;omega)
     refine⟨_,I,_,I,by omega,?_⟩
     refine⟨_,_,_,I,I,ml,nr _ I,?_⟩
     rw[aZ _ (by unfold hz;rw[aD,ex];exact o5 fun b _=>by cases b<;>rfl)]
     exact⟨qk c8 hH,aP,_,_,_,I⟩
    ·have aD:odd i=ay:=fo (fun z=>eu (congrArg V.int (by omega)))
     refine⟨_,I,?_⟩
     refine⟨_,_,_,I,I,ml,nr _ I,?_⟩
     rw[aZ _ (by unfold hz;rw[aD,ex,vU])]
     exact⟨qk c8 hH,aP,_,_,_,I⟩
  ·rw[if_neg wX]at g9
   have eI:decide (V.int ((i:Nat):Int)=V.int 0)=ay:=fo (fun z=>wX (by have:=V.int.inj z;omega))
   rw[eI]
   have ab6:=g9.1
   have ab7:=g9.2
   refine bT ⟨_,I,_,_,I,I,(x-1).toNat,(congrArg (fun y=>[V.int y]) (by omega)),(by omega),_,I,_,I,_,I,I,_,I,?_⟩
   obtain⟨kA,qv⟩:∃kA,kA=cnt (x-1).toNat:=⟨_,rfl⟩
   have ex:(if i=0 then jR x else cnt (x-1).toNat)=kA:=by rw[if_neg wX,qv]
   have Xm:kA.length<=270:=by rw[qv];have:=y8 (n:=(x-1).toNat) (by omega);omega
   rw[<-qv]
   have Xk:(kA++[!decide (i+1=s.length)]).length<=271:=by rw[eU,i1];omega
   refine dk (fun ee=>?_) (fun ee=>?_)
   ·
    have hX:i+1=s.length:=by have:=V.int.inj ee;omega
    have fi:[!decide (i+1=s.length)]=[ay]:=by rw[eY hX];rfl
    refine .inr ⟨_,_,I,I,(by rw[s0,fI,fI];exact eN (by rw[i1];omega)),?_⟩
    rw[s0,yV,<-fi]
    refine⟨_,I,.inl ⟨I,_,bA ml⟩,_,I,_,_,I,I,(by show(0:Int)<2;decide),I,_,I,?_⟩
    have nr:∀z:List V,z=((gC 0 s).take i).map (fun p=>V.str (bR p))->z.length<bW:=fun z bw=>by rw[bw,cI,kj];exact ez (show min i (gC 0 s).length<100001 by omega) (xE (by decide))
    have aZ:∀p:List Bool,p=hz i x (decide (i+1=s.length))->((gC 0 s).take i).map (fun p=>V.str (bR p))++[V.str (bR p)]=((gC 0 s).take (i+1)).map (fun p=>V.str (bR p)):=fun p bh=>by rw[m4,w2,ie,bh];rfl
    refine dk (fun eu=>?_) (fun eu=>?_)
    ·have aD:odd i=au:=eY (by have:=V.int.inj eu;omega)
     refine⟨_,I,_,I,by omega,?_⟩
     refine⟨_,_,_,I,I,ml,nr _ I,?_⟩
     rw[aZ _ (by unfold hz;rw[aD,ex];exact o5 fun b _=>by cases b<;>rfl)]
     exact⟨qk c8 hH,aP,_,_,_,I⟩
    ·have aD:odd i=ay:=fo (fun z=>eu (congrArg V.int (by omega)))
     refine⟨_,I,?_⟩
     refine⟨_,_,_,I,I,ml,nr _ I,?_⟩
     rw[aZ _ (by unfold hz;rw[aD,ex,vU])]
     exact⟨qk c8 hH,aP,_,_,_,I⟩
   ·have hX:¬i+1=s.length:=fun z=>ee (congrArg V.int (by omega))
    have fi:[!decide (i+1=s.length)]=[au]:=by rw[fo hX];rfl
    refine .inr ⟨_,_,I,I,(by rw[s1,fI,fI];exact eN (by rw[i1];omega)),?_⟩
    rw[s1,yV,<-fi]
    refine⟨_,I,.inl ⟨I,_,bA ml⟩,_,I,_,_,I,I,(by show(0:Int)<2;decide),I,_,I,?_⟩
    have nr:∀z:List V,z=((gC 0 s).take i).map (fun p=>V.str (bR p))->z.length<bW:=fun z bw=>by rw[bw,cI,kj];exact ez (show min i (gC 0 s).length<100001 by omega) (xE (by decide))
    have aZ:∀p:List Bool,p=hz i x (decide (i+1=s.length))->((gC 0 s).take i).map (fun p=>V.str (bR p))++[V.str (bR p)]=((gC 0 s).take (i+1)).map (fun p=>V.str (bR p)):=fun p bh=>by rw[m4,w2,ie,bh];rfl
    refine dk (fun eu=>?_) (fun eu=>?_)
    ·have aD:odd i=au:=eY (by have:=V.int.inj eu;omega)
     refine⟨_,I,_,I,by omega,?_⟩
     refine⟨_,_,_,I,I,ml,nr _ I,?_⟩
     rw[aZ _ (by unfold hz;rw[aD,ex];exact o5 fun b _=>by cases b<;>rfl)]
     exact⟨qk c8 hH,aP,_,_,_,I⟩
    ·have aD:odd i=ay:=fo (fun z=>eu (congrArg V.int (by omega)))
     refine⟨_,I,?_⟩
     refine⟨_,_,_,I,I,ml,nr _ I,?_⟩
     rw[aZ _ (by unfold hz;rw[aD,ex,vU])]
     exact⟨qk c8 hH,aP,_,_,_,I⟩
 ·rintro ae ax ⟨hs,oe,ea,el,kD,rfl⟩
  have ng:(gC 0 s).take (s.map V.int).length=gC 0 s:=by rw[Ab,<-Cn 0 s,List.take_length]
  rw[ng]at oe
  obtain⟨a0,Ar,rfl⟩:=List.exists_cons_of_ne_nil lQ
  have cG:∀p∈gC 0 (a0::Ar),p.length<=271:=fun p bh=>by
   obtain⟨i,aE,rfl⟩:=List.mem_iff_getElem.mp bh
   have rY:i<(a0::Ar).length:=by rw[<-Cn 0 (a0::Ar)];exact aE
   have aN:=IM (k:=0) (cV rY)
   rw[cV aE,Nat.zero_add]at aN
   rw[gk aN]
   exact QN (cf.at (cV rY))
  refine⟨I,_,I,_,r,(gC 0 (a0::Ar)).map bR,I,I,bA (by rw[oe,i2];rfl),?_,H,.refl hs,?_⟩
  ·have:=R4 cG
   have eI:(af.ofString "").length=0:=by decide+kernel
   rw[eI,Nat.mul_zero,Nat.add_zero]
   rw[Cn]at this
   omega
  .rw[rf,Si];exact q
structure sZ where
 (n s w l f t a b FW k:ah)
structure GL(mg:af->Option al)(c:sZ):Prop where
 abY:eT mg "NoFit" (.ref c.n)
 hj:eT mg "Short" (.ref c.s)
 abZ:eT mg "Wrong" (.ref c.w)
 gl:eT mg "Left" (.ref c.l)
 abW:eT mg "NoForm" (.ref c.f)
 gt:eT mg "NoText" (.ref c.t)
 ga:eT mg "NotAhead" (.ref c.a)
 abU:eT mg "BadPage" (.ref c.b)
 g2:eT mg "Twice" (.ref c.FW)
 abX:eT mg "Lacking" (.ref c.k)
structure Bx(K:bH)(c:sZ)(C:ah)(bs:List Bool):Prop where
 gQ:ExcC K C
 xf:∃f3 eB m9 n5 n6 n7 n8 t9 ua t8:Bool,bs=[f3,eB,m9,n5,n6,n7,n8,t9,ua,t8,au]/\fD K (.ref C) (.ref c.n)=J f3/\fD K (.ref C) (.ref c.s)=J eB/\fD K (.ref C) (.ref c.w)=J m9/\fD K (.ref C) (.ref c.l)=J n5/\
  fD K (.ref C) (.ref c.f)=J n6/\fD K (.ref C) (.ref c.t)=J n7/\fD K (.ref C) (.ref c.a)=J n8/\fD K (.ref C) (.ref c.b)=J t9/\fD K (.ref C) (.ref c.FW)=J ua/\fD K (.ref C) (.ref c.k)=J t8/\fD K (.ref C) (.type "ValueError")=J au
inductive LO(K:bH)(c:sZ)(vs:List V)(H:ar)(Q:bP)(E:cC):Prop where
 |mk (v:V) (bt:vs=[v]) (aq:((v=.aK/\∀p,H p=aw->Q (.ref p) (upd H p (.lst ([]:List V))))\/ (∃a C d bs,v=.ref a/\H a=J (oW a C d)/\(d=aw\/∃aG fs,d=J aG/\H aG=J (.jS fs))/\Bx K c C bs/\∀p,H p=aw->Q (.ref p) (upd H p (.lst (bs.map .aC)))))):LO K c vs H Q E
def LN(K:bH)(c:sZ):cT:=fun vs H Q E=>LO K c vs H Q E
theorem Pb{c:sZ}(nb:et mg)(Fj:mg "ValueError"=aw)(X:GL mg c)(F:ed K mg "_law_kinds" B7 ["_law_kept"] f fd):bx P w K mg base 1 "_law_kinds" ["_law_kept"] (LN K c):=by
 obtain⟨DP,DT,DV,DO,DQ,DR,DS,DM,DU,DN⟩:=X
 refine F.fC yi (fun bD A _ s H vs Q E aF h=>?_)
 obtain⟨v,rfl,bS⟩:=h
 refine⟨_,(aS (cy (bZ t6 (ag 0) km) (aY (bB (e4 aB))) cx)
  (aS (b0 1 yi.bC (e4 (ak (bY m8 rfl nb.eD eA (ak (ag 0) (ak (i4 DP) aB))) (ak (bY m8 rfl nb.eD eA (ak (ag 0) (ak (i4 DT) aB))) (ak (bY m8 rfl nb.eD eA (ak (ag 0) (ak (i4 DV) aB))) (ak (bY m8 rfl nb.eD eA (ak (ag 0) (ak (i4 DO) aB))) aB))))))
  (aS (b0 1 yi.bC (aL zj (ag 1) (e4 (ak (bY m8 rfl nb.eD eA (ak (ag 0) (ak (i4 DQ) aB))) (ak (bY m8 rfl nb.eD eA (ak (ag 0) (ak (i4 DR) aB))) (ak (bY m8 rfl nb.eD eA (ak (ag 0) (ak (i4 DS) aB))) aB))))))
  (aS (b0 1 yi.bC (aL zj (ag 1) (e4 (ak (bY m8 rfl nb.eD eA (ak (ag 0) (ak (i4 DM) aB))) (ak (bY m8 rfl nb.eD eA (ak (ag 0) (ak (i4 DU) aB))) (ak (bY m8 rfl nb.eD eA (ak (ag 0) (ak (i4 DN) aB))) aB))))))
  (aY (bB (aL zj (ag 1) (e4 (ak (bY m8 rfl nb.eD eA (ak (ag 0) (ak (fz (v :=.ty "ValueError") rfl Fj Pg rfl) aB))) aB))))))))),?_⟩
 try dsimp only[d5,d6,d7,d8]
 rcases bS with⟨rfl,q⟩|⟨a,C,d,bs,rfl,bz,hd,⟨gQ,f3,eB,m9,n5,n6,n7,n8,t9,ua,t8,rfl,k1,k2,k3,pJ,k5,E7,E8,E9,Fa,WX,gq⟩,q⟩
 .exact⟨_,I,I,_,I,h1 I ⟨UF _,fun r hH=>⟨_,.new hH (c3 hH) aP trivial,q r hH⟩⟩⟩
 ·have oy:∀{D:ah}{b:Bool},fD K (.ref C) (.ref D)=J b->∀mi,RelV (.ref D) mi->fD K (.ref C) mi=J b:=fun{D b}h mi r=>by
   obtain rfl:mi=.ref D:=r
   exact h
  have Xb:∀mi,RelV (.ty "ValueError") mi->fD K (.ref C) mi=J au:=fun mi r=>by
   obtain rfl:mi=.type "ValueError":=r
   exact gq
  have rJ:∀{ai:ar},dJ H ai->(d=aw\/∃aG fs,d=J aG/\ai aG=J (.jS fs)):=fun{ai}hs=>by
   rcases hd with z|⟨aG,fs,z,e⟩
   .exact .inl z
   .exact .inr ⟨aG,fs,z,hs _ _ e⟩
  refine⟨_,I,I,_,I,eP (fun z=>nomatch z) ?_⟩
  refine⟨_,I,a,C,d,_,f3,I,bz,gQ,hd,oy k1,?_⟩
  refine⟨_,I,a,C,d,_,eB,I,bz,gQ,hd,oy k2,?_⟩
  refine⟨_,I,a,C,d,_,m9,I,bz,gQ,hd,oy k3,?_⟩
  refine⟨_,I,a,C,d,_,n5,I,bz,gQ,hd,oy pJ,?_⟩
  refine⟨(by show 4<=bW;decide),fun b5 aq=>?_⟩
  have pT:=c3 (o:=dC.lst [V.aC f3,.aC eB,.aC m9,.aC n5]) aq
  have Ed:=pT _ _ bz
  refine⟨_,I,_,I,a,C,d,_,n6,I,Ed,gQ,rJ pT,oy k5,?_⟩
  refine⟨_,I,a,C,d,_,n7,I,Ed,gQ,rJ pT,oy E7,?_⟩
  refine⟨_,I,a,C,d,_,n8,I,Ed,gQ,rJ pT,oy E8,?_⟩
  refine⟨(by show 3<=bW;decide),fun eL az=>?_⟩
  have As:=c3 (o:=dC.lst [V.aC n6,.aC n7,.aC n8]) az
  refine⟨b5,eL,_,_,I,I,As _ _ aP,aP,(by show 4+3<=bW;decide),fun xw bE=>?_⟩
  have Fx:=c3 (o:=dC.lst ([V.aC f3,.aC eB,.aC m9,.aC n5]++[V.aC n6,.aC n7,.aC n8])) bE
  have t3:=(pT.trans As).trans Fx
  have Ee:=t3 _ _ bz
  refine⟨_,I,_,I,a,C,d,_,t9,I,Ee,gQ,rJ t3,oy E9,?_⟩
  refine⟨_,I,a,C,d,_,ua,I,Ee,gQ,rJ t3,oy Fa,?_⟩
  refine⟨_,I,a,C,d,_,t8,I,Ee,gQ,rJ t3,oy WX,?_⟩
  refine⟨(by show 3<=bW;decide),fun Fv cz=>?_⟩
  have Lh:=c3 (o:=dC.lst [V.aC t9,.aC ua,.aC t8]) cz
  refine⟨xw,Fv,_,_,I,I,Lh _ _ aP,aP,(by show 7+3<=bW;decide),fun qQ dY=>?_⟩
  have ZP:=c3 (o:=dC.lst (([V.aC f3,.aC eB,.aC m9,.aC n5]++[V.aC n6,.aC n7,.aC n8])++[V.aC t9,.aC ua,.aC t8])) dY
  have lZ:=(t3.trans Lh).trans ZP
  have Vh:=lZ _ _ bz
  refine⟨_,I,_,I,a,C,d,_,au,I,Vh,gQ,rJ lZ,Xb,?_⟩
  refine⟨(by show 1<=bW;decide),fun Zx kT=>?_⟩
  have Li:=c3 (o:=dC.lst [V.aC au]) kT
  refine⟨qQ,Zx,_,_,I,I,Li _ _ aP,aP,(by show 10+1<=bW;decide),fun p bh=>?_⟩
  have xD:=lZ.trans Li
  exact⟨_,.new (xD.free bh) (xD.trans (c3 bh)) aP trivial,q p (xD.free bh)⟩
theorem pb:1<=bW:=by decide
inductive LV(vs:List V)(H:ar)(Q:bP)(E:cC):Prop where
 |mk (t s:af) (bt:vs=[.str t,.str s]) (aq:t.length<=1000) (az:Q (.aC (j9 t s)) H):LV  vs H Q E
def xK:cT:=fun vs H Q E=>LV  vs H Q E
theorem Qq(nb:et mg)(F:ed K mg "made_of" Cs ["text","signs"] f fd):bx P w K mg base 1 "made_of" ["text","signs"] xK:=by
 refine F.fC Qk (fun bD A _ s H vs Q E aF h=>?_)
 obtain⟨t,cg,rfl,aO,q⟩:=h
 refine⟨_,(aY (bB (bY (vX I) I nb.wd wb (ak (hQ ["sign"] [(1,"signs")] I (by decide+kernel) ⟨I,.inl I,trivial⟩ (ja (ag 0)) (fun _ _ _ _ _=>(eH (i:=0) (show(["sign","signs"]:List af).Nodup by decide+kernel))) (fun _ _ _ _ _=>iA) (fun _ _ _ _ _=>(IL QS (ag 0) (ag 1) (by with_unfolding_all rfl)))) aB)))),?_⟩
 try dsimp only[d5,d6,d7,d8]
 refine .inr ⟨_,I,t,I,fun D dz=>?_⟩
 refine Iu (fun c =>.aC (decide (c∈cg.cps.toList))) (fun ae=>∃z,ae=[z,J (.str cg)]) (eN (by show t.length<=_;omega)) ⟨_,I⟩ dz ?_ ?_
 ·rintro c hc bV H1 ⟨z,rfl⟩ hs R cf
  refine⟨_,I,_,I,_,_,I,I,?_⟩
  rw[StrLaws.found_one]
  exact cf _ ⟨_,I⟩
 ·refine⟨D,t.cps.toList.map fun c=>decide (c∈cg.cps.toList),I,?_,H,.refl (c3 dz),?_⟩
  .rw[i2];exact bA aP
  .rw[List.all_map];exact q
inductive LL(vs:List V)(H:ar)(Q:bP)(E:cC):Prop where
 |mk (n:af) (bt:vs=[.str n]) (aq:n.length<=1000) (az:Q (.aC (isName n)) H):LL  vs H Q E
def LK:cT:=fun vs H Q E=>LL  vs H Q E
theorem Qr(nb:et mg)(DG:eT mg "LONGEST_NAME" (.int 12))(DL:eT mg "SMALL_LETTERS" (.str ji))(F:ed K mg "is_name" Ct ["name"] f fd)(mS:bx P w K mg base 1 "made_of" ["text","signs"] xK):bx P w K mg base 2 "is_name" ["name"] LK:=by
 refine F.fC Ql (fun bD A _ s H vs Q E aF h=>?_)
 obtain⟨n,rfl,bf,q⟩:=h
 refine⟨_,(aY (bB (gV (fc oE aA (bY ec I nb.d2 d4 (ak (ag 0) aB))) (gV (fc sq (bY ec I nb.d2 d4 (ak (ag 0) aB)) (i4 DG)) (hT (cu mS aF (ak (ag 0) (ak (i4 DL) aB)))))))),?_⟩
 try dsimp only[d5,d6,d7,d8]
 have ln:n.length<=bW:=eN (by omega)
 unfold isName at q
 refine⟨_,I,_,_,I,⟨ln,I⟩,.inl ⟨_,_,I,I,_,I,?_⟩⟩
 refine dk (fun dm=>?_) (fun dm=>?_)
 ·refine⟨_,I,_,_,I,⟨ln,I⟩,_,_,I,I,_,I,?_⟩
  refine dk (fun ee=>?_) (fun ee=>?_)
  ·refine⟨_,I,n,ji,I,bf,H,.refl (c2 _),?_⟩
   rw[eY ⟨by omega,by omega⟩,Bool.true_and]at q
   exact q
  ·rw[fo (fun z=>ee (by omega)),Bool.false_and]at q
   exact⟨H,.refl (c2 _),q⟩
 ·rw[fo (fun z=>dm (by omega)),Bool.false_and]at q
  exact⟨H,.refl (c2 _),q⟩
structure Parts(H:ar)(p:ah)(aI:List (ah×af×ah)):Prop where
 l:H p=J (.lst (aI.map fun x=>V.ref x.1))
 t:∀x,x∈aI->H x.1=J (.tup [.str x.2.1,.ref x.2.2])
 n:aI.length<=30
 b:∀x,x∈aI->x.2.1.length<=100
noncomputable def gP(aI:List (ah×af×ah)):List af:=aI.map fun x=>x.2.1
noncomputable def hZ(aI:List (ah×af×ah)):List ah:=aI.map fun x=>x.2.2
theorem Parts.same{aI:List (ah×af×ah)}(h:Parts H p aI)(s:dJ H ai):Parts ai p aI:=⟨s _ _ h.l,fun x av=>s _ _ (h.t x av),h.n,h.b⟩
inductive LX(vs:List V)(H:ar)(Q:bP)(E:cC):Prop where
 |mk (p aI:_) (bt:vs=[.ref p]) (aq:Parts H p aI) (az:jI (gP aI)=au) (bE:∀D,H D=aw->Q (.ref D) (upd H D (.lst ((gP aI).map V.str)))):LX  vs H Q E
def FH:cT:=fun vs H Q E=>LX  vs H Q E
theorem PZ(nb:et mg)(DJ:eT mg "MOST_PARTS" (.int 20))(F:ed K mg "names_of" Cg ["parts"] f fd)(Be:bx P w K mg base 2 "is_name" ["name"] LK):bx P w K mg base 3 "names_of" ["parts"] FH:=by
 refine F.fC Hj (fun bD A _ s H vs Q E aF h=>?_)
 obtain⟨p,aI,rfl,c7,aN,q⟩:=h
 refine⟨_,(aS (Hm (i:=1)  ["part"] [] Hj.bC I I I (by decide+kernel) trivial (ja (ag 0)) (fun _ _ _ _ _=>(eH (i:=0) (show(["part"]:List af).Nodup by decide+kernel))) (fun _ _ _ _ _=>iA) (fun _ _ _ _ _=>(b8 cb (ag 0) aA)))
  (aS (cy (e2.pt (ih (bZ cN (bY ec rfl nb.d2 d4 (ak (ag 1) aB)) aA) (iM (bZ il (bY ec rfl nb.d2 d4 (ak (ag 1) aB)) (i4 DJ))))) (aY oZ) cx)
  (aS (cy (bZ oE (HH rfl rfl nb.d2 rfl nb.Ll (ag 1)) (bY ec rfl nb.d2 d4 (ak (ag 1) aB))) (aY oZ) cx)
  (aS (cy (hS (fS (bY (vX rfl) rfl nb.wd wb (ak (hQ ["name"] [] rfl (by decide+kernel) trivial (ja (ag 1)) (fun _ _ _ _ _=>(eH (i:=0) (show(["name"]:List af).Nodup by decide+kernel))) (fun _ _ _ _ _=>iA) (fun _ _ _ _ _=>(cu Be aF (ak (ag 0) aB)))) aB)))) (aY oZ) cx)
  (aY (bB (ag 1))))))),?_⟩
 try dsimp only[d5,d6,d7,d8]
 refine .inl ⟨_,I,p,I,⟨_,bA c7.l⟩,fun D dz=>?_⟩
 refine th (K:=K) (a:=p) (xs:=aI.map fun x=>V.ref x.1) (fun i=>V.str ((gP aI).getD i af.empty)) (fun ae=>∃z,ae=[z]) (by rw[cI];exact eN (by have:=c7.n;omega)) ⟨_,I⟩ dz (bA c7.l) ?_ ?_
 ·rintro i x av bV H1 ⟨z,rfl⟩ c9 R cf
  rw[gm]at av
  obtain⟨y,bF,rfl⟩:=Uf.mp av
  have hm:=iL bF
  have e:(gP aI).getD i af.empty=y.2.1:=by unfold gP;rw[eM,gm,bF];rfl
  rw[e]at cf
  exact⟨_,I,.inl (.inr ⟨_,_,_,_,I,I,ck (c9 _ _ (c7.t y hm)),c5 (j:=0) I,cf _ ⟨_,I⟩⟩)⟩
 have hY:(List.range (aI.map fun x=>V.ref x.1).length).map (fun i=>V.str ((gP aI).getD i af.empty))=(gP aI).map V.str:=by
  have bt:=Hn (gP aI)
  rw[show(aI.map fun x=>V.ref x.1).length=(gP aI).length by unfold gP;rw[cI,cI]]
  exact bt
 rw[hY]
 have acb:(gP aI).length<=30:=by unfold gP;rw[cI];exact c7.n
 have uk:dr K (upd H D (.lst ((gP aI).map V.str))) D ((gP aI).map V.str):=bA aP
 have cJ:=Tf (gP aI)
 unfold jI at aN
 refine⟨_,I,_,_,I,.inl ⟨_,uk,I⟩,I,_,I,?_⟩
 rw[cI]
 simp only[jA,mc]at aN
 obtain⟨⟨bt,uh,hd⟩,i6⟩:=aN
 refine eP (fun z=>bt (by have:=V.int.inj z;omega)) ⟨_,I,_,_,I,.inl ⟨_,uk,I⟩,_,_,I,I,_,I,eP (by rw[cI];omega) ?_⟩
 refine⟨_,I,_,_,PR uk,(by unfold scanBound;omega),_,I,_,_,I,.inl ⟨_,uk,I⟩,.inl ⟨_,_,I,I,_,I,eP (by rw[cI];show ¬(((zq (gP aI):Nat):Int)<_);omega) ?_⟩⟩
 refine .inl ⟨_,I,D,I,⟨_,uk⟩,fun jx hl=>?_⟩
 have h0:upd H D (.lst ((gP aI).map V.str)) D=J (.lst ((gP aI).map V.str)):=aP
 refine Cx (K:=K) (a:=D) (xs:=(gP aI).map V.str) (fun x=>match x with|.str n =>.aC (isName n)|_ =>.aK) (fun ae=>∃z,ae=[z]) (by rw[cI];exact eN (by omega)) ⟨_,rfl⟩ hl uk ?_ ?_
 ·rintro x av bV H1 ⟨z,rfl⟩ c9 R cf
  obtain⟨n,bf,rfl⟩:=List.mem_map.mp av
  obtain⟨y,bF,rfl⟩:=List.mem_map.mp bf
  have:=c7.b y bF
  exact⟨_,I,_,I,by omega,cf _ ⟨_,rfl⟩⟩
 ·rw[i2]
  refine⟨jx,(gP aI).map isName,I,?_,_,I,?_⟩
  .rw[i2];exact bA aP
  rw[List.all_map,show(id ∘ isName)=isName from rfl,i6]
  exact bT ⟨_,I,_,.new (o:=dC.lst ((gP aI).map V.str)) dz ((c3 dz).trans (c3 hl)) (by rw[cn (fun z=>by rw[<-z,h0]at hl;cases hl)];exact aP) trivial,q D dz⟩
structure vK(K:bH)(C:ah):Prop where
 cl:h8 K C
 qL:l9 K C "low"
 Fh:l9 K C "high"
structure tj(K:bH)(C:ah):Prop where
 cl:h8 K C
 Ad:l9 K C "signs"
structure o3(K:bH)(C:ah):Prop where
 cl:h8 K C
 uL:l9 K C "names"
 sh:l9 K C "forms"
theorem Xj:¬(("low":af)="high"):=by decide+kernel
theorem XM:¬(("names":af)="forms"):=by decide+kernel
theorem R9(v:V):h4 "low" v []=([("low",v)]:List (af×V)):=rfl
theorem Rq(v w:V):h4 "high" w ([("low",v)]:List (af×V))=([("low",v),("high",w)]:List (af×V)):=by simp only[h4,Xj,if_false]
theorem Qm(v:V):h4 "signs" v []=([("signs",v)]:List (af×V)):=rfl
theorem HE(v:V):h4 "names" v []=([("names",v)]:List (af×V)):=rfl
theorem HF(v w:V):h4 "forms" w ([("names",v)]:List (af×V))=([("names",v),("forms",w)]:List (af×V)):=by simp only[h4,XM,if_false]
theorem j8(k:af)(v:V)(r:List (af×V)):((k,v)::r).lookup k=J v:=by simp[List.lookup]
theorem sf(k k2:af)(v w:V)(h:(k2 == k)=ay):([(k,v),(k2,w)]:List (af×V)).lookup k2=J w:=by simp[List.lookup,h]
theorem J5:(("high":af) == "low")=ay:=by decide+kernel
theorem wu:(("forms":af) == "names")=ay:=by decide+kernel
noncomputable def Mi(a b:Int):List (af×V):=[("low",.int a),("high",.int b)]
noncomputable def KD(s:af):List (af×V):=[("signs",.str s)]
noncomputable def AQ(dA dx:ah):List (af×V):=[("names",.ref dA),("forms",.ref dx)]
inductive Md(C:ah)(vs:List V)(H:ar)(Q:bP)(E:cC):Prop where
 |mk (p aG:ah) (a b:Int) (bt:vs=[.ref p,.int a,.int b]) (aq:H p=J (.ins C aG [])) (az:a<=b) (bE:Q .aK (upd H p (.ins C aG (Mi a b)))):Md C vs H Q E
def FN(C:ah):cT:=fun vs H Q E=>Md C vs H Q E
theorem Pw(T:vK K C)(F:dV K "__init__" "Span.__init__" Cd f fd):di P w K mg base eb 1 f fd ["self","low","high"] (FN C):=by
 refine F.ok Pp (fun vs H Q E h=>?_) (fun bD A _ s H vs Q E aF h=>?_)
 .obtain⟨_,_,_,_,rfl,_⟩:=h;rfl
 obtain⟨p,aG,a,b,rfl,bh,Ef,q⟩:=h
 refine⟨_,(aS (cy (bZ il (ag 1) (ag 2)) (aY oZ) cx)
  (aS (n3 (ag 0) (ag 1) rfl)
  (aY (n3 (ag 0) (ag 2) rfl)))),?_⟩
 try dsimp only[d5,d6,d7,d8]
 refine⟨_,I,_,I,_,_,I,I,_,I,eP (by omega) ?_⟩
 refine⟨_,I,_,I,p,C,aG,_,I,bh,T.cl,T.qL,(by show 0<1000;decide),?_⟩
 rw[R9]
 refine⟨_,I,_,I,p,C,aG,_,I,aP,T.cl,T.Fh,(by show 1<1000;decide),?_⟩
 rw[Rq,kn]
 exact q
inductive LS(C:ah)(vs:List V)(H:ar)(Q:bP)(E:cC):Prop where
 |mk (p aG:ah) (s:af) (bt:vs=[.ref p,.str s]) (aq:H p=J (.ins C aG [])) (az:s.length<=1000) (bE:nj s=au) (cz:Q .aK (upd H p (.ins C aG (KD s)))):LS C vs H Q E
def FE(C:ah):cT:=fun vs H Q E=>LS C vs H Q E
theorem P0(nb:et mg)(DK:eT mg "MOST_SIGNS" (.int 60))(DF:eT mg "LETTERS_AND_FIGURES" (.str nS))(T:tj K C)(F:dV K "__init__" "Letters.__init__" BG f fd)(mS:bx P w K mg base 1 "made_of" ["text","signs"] xK):di P w K mg base eb 2 f fd ["self","signs"] (FE C):=by
 refine F.ok Oy (fun vs H Q E h=>?_) (fun bD A _ s H vs Q E aF h=>?_)
 .obtain⟨_,_,_,rfl,_⟩:=h;rfl
 obtain⟨p,aG,t,rfl,bh,aO,aN,q⟩:=h
 refine⟨_,(aS (cy (e2.pt (ih (bZ cN (ag 1) b7) (iM (bZ il (bY ec I nb.d2 d4 (ak (ag 1) aB)) (i4 DK))))) (aY oZ) cx)
  (aS (cy (bZ oE (HH rfl rfl nb.d2 rfl nb.Ll (ag 1)) (bY ec rfl nb.d2 d4 (ak (ag 1) aB))) (aY oZ) cx)
  (aS (cy (hS (fS (cu mS aF (ak (ag 1) (ak (i4 DF) aB))))) (aY oZ) cx)
  (aY (n3 (ag 0) (ag 1) rfl))))),?_⟩
 try dsimp only[d5,d6,d7,d8]
 have ln:t.length<=bW:=eN (by omega)
 have cJ:=Te t
 unfold nj at aN
 simp only[jA,mc]at aN
 obtain⟨⟨bt,U1,hd⟩,i6⟩:=aN
 refine⟨_,I,I,_,I,eP (fun z=>bt ((R5 t).mp (V.str.inj z))) ⟨_,I,_,_,I,⟨ln,I⟩,_,_,I,I,_,I,eP (by omega) ?_⟩⟩
 refine⟨_,I,_,_,Qh t,(by unfold scanBound;show t.length+1<_;omega),_,I,_,_,I,⟨ln,I⟩,.inl ⟨_,_,I,I,_,I,eP (by show ¬(((zr t:Nat):Int)<_);omega) ?_⟩⟩
 refine⟨_,I,t,nS,I,by omega,_,rfl,?_⟩
 rw[i6]
 refine bT ⟨_,I,_,I,p,C,aG,_,I,bh,T.cl,T.Ad,(by show 0<1000;decide),?_⟩
 rw[Qm]
 exact q
theorem Parts.keep{C aG:ah}{fs:List (af×V)}{aI:List (ah×af×ah)}(h:Parts H p aI)(aD:H o=J (.ins C aG fs))(s:∀b u,b≠o->H b=J u->ai b=J u):Parts ai p aI :=
 ⟨s _ _ (fun z=>by have:=h.l;rw[z,aD]at this;cases this) h.l,fun x av=>s _ _ (fun z=>by have:=h.t x av;rw[z,aD]at this;cases this) (h.t x av),h.n,h.b⟩
inductive Mf(C:ah)(vs:List V)(H:ar)(Q:bP)(E:cC):Prop where
 |mk (o aG p:ah) (aI:List (ah×af×ah)) (bt:vs=[.ref o,.ref p]) (aq:H o=J (.ins C aG [])) (az:Parts H p aI) (bE:jI (gP aI)=au) (cz:∀dA dx,H dA=aw->H dx=aw->dA≠dx->Q .aK (upd (upd (upd H dA (.lst ((gP aI).map V.str))) dx (.lst ((hZ aI).map V.ref))) o (.ins C aG (AQ dA dx)))):Mf C vs H Q E
def u0(C:ah):cT:=fun vs H Q E=>Mf C vs H Q E
theorem PY(nb:et mg)(T:o3 K C)(F:dV K "__init__" "Record.__init__" BX f fd)(s9:bx P w K mg base 3 "names_of" ["parts"] FH):di P w K mg base eb 4 f fd ["self","parts"] (u0 C):=by
 refine F.ok ON (fun vs H Q E h=>?_) (fun bD A _ s H vs Q E aF h=>?_)
 .obtain⟨_,_,_,_,rfl,_⟩:=h;rfl
 obtain⟨o,aG,p,aI,rfl,aD,c7,aN,q⟩:=h
 refine⟨_,(aS (n3 (ag 0) (cu s9 aF (ak (ag 1) aB)) I)
  (aY (n3 (ag 0) (hQ ["part"] [] rfl (by decide+kernel) trivial (ja (ag 1)) (fun _ _ _ _ _=>(eH (i:=0) (show(["part"]:List af).Nodup by decide+kernel))) (fun _ _ _ _ _=>iA) (fun _ _ _ _ _=>(b8 cb (ag 0) aA))) rfl))),?_⟩
 try dsimp only[d5,d6,d7,d8]
 refine⟨_,I,p,aI,I,c7,aN,fun dA aq=>?_⟩
 have d9:dA≠o:=(gv aD aq).symm
 refine⟨_,I,o,C,aG,_,I,(by rw[cn (e3 d9)];exact aD),T.cl,T.uL,(by show 0<1000;decide),?_⟩
 rw[HE]
 have k1:∀b u,b≠o->H b=J u->upd (upd H dA (.lst ((gP aI).map V.str))) o (.ins C aG [("names",.ref dA)]) b=J u:=fun b u nb e=>by rw[cn nb,cn (gv e aq)];exact e
 have rR:=c7.keep aD k1
 refine .inl ⟨_,I,p,I,⟨_,bA rR.l⟩,fun dx az=>?_⟩
 have es:dx≠o:=fun z=>by rw[z,aP]at az;cases az
 have xj:dA≠dx:=fun z=>by rw[cn es,<-z,aP]at az;cases az
 have uh:H dx=aw:=by rw[cn es,cn (e3 xj)]at az;exact az
 refine th (K:=K) (a:=p) (xs:=aI.map fun x=>V.ref x.1) (fun i=>V.ref ((hZ aI).getD i 0)) (fun ae=>∃z,ae=[z]) (by rw[cI];exact eN (by have:=c7.n;omega)) ⟨_,I⟩ az (bA rR.l) ?_ ?_
 ·rintro i x av bV H1 ⟨z,rfl⟩ c9 R cf
  rw[gm]at av
  obtain⟨y,bF,rfl⟩:=Uf.mp av
  have hm:=iL bF
  have e:(hZ aI).getD i 0=y.2.2:=by unfold hZ;rw[eM,gm,bF];rfl
  rw[e]at cf
  exact⟨_,I,.inl (.inr ⟨_,_,_,_,I,I,ck (c9 _ _ (rR.t y hm)),c5 (j:=1) I,cf _ ⟨_,I⟩⟩)⟩
 have hY:(List.range (aI.map fun x=>V.ref x.1).length).map (fun i=>V.ref ((hZ aI).getD i 0))=(hZ aI).map V.ref:=by
  apply List.ext_getElem
  .unfold hZ;simp
  ·intro i g1 g2
   have g3:i<aI.length:=by simpa [hZ] using g2
   have uf:i<(hZ aI).length:=by simpa using g2
   rw[i3,i3,List.getElem_range,eM,cV uf];rfl
 rw[hY]
 refine⟨_,I,o,C,aG,_,I,(by rw[cn (e3 es)];exact aP),T.cl,T.sh,(by show 1<1000;decide),?_⟩
 rw[HF,y0 (e3 es),kn]
 exact q dA dx aq uh xj
theorem P5(nb:et mg)(T:o3 K C)(F:dV K "__init__" "Choice.__init__" BY f fd)(s9:bx P w K mg base 3 "names_of" ["parts"] FH):di P w K mg base eb 4 f fd ["self","cases"] (u0 C):=by
 refine F.ok OP (fun vs H Q E h=>?_) (fun bD A _ s H vs Q E aF h=>?_)
 .obtain⟨_,_,_,_,rfl,_⟩:=h;rfl
 obtain⟨o,aG,p,aI,rfl,aD,c7,aN,q⟩:=h
 refine⟨_,(aS (n3 (ag 0) (cu s9 aF (ak (ag 1) aB)) I)
  (aY (n3 (ag 0) (hQ ["case"] [] rfl (by decide+kernel) trivial (ja (ag 1)) (fun _ _ _ _ _=>(eH (i:=0) (show(["case"]:List af).Nodup by decide+kernel))) (fun _ _ _ _ _=>iA) (fun _ _ _ _ _=>(b8 cb (ag 0) aA))) rfl))),?_⟩
 try dsimp only[d5,d6,d7,d8]
 refine⟨_,I,p,aI,I,c7,aN,fun dA aq=>?_⟩
 have d9:dA≠o:=(gv aD aq).symm
 refine⟨_,I,o,C,aG,_,I,(by rw[cn (e3 d9)];exact aD),T.cl,T.uL,(by show 0<1000;decide),?_⟩
 rw[HE]
 have k1:∀b u,b≠o->H b=J u->upd (upd H dA (.lst ((gP aI).map V.str))) o (.ins C aG [("names",.ref dA)]) b=J u:=fun b u nb e=>by rw[cn nb,cn (gv e aq)];exact e
 have rR:=c7.keep aD k1
 refine .inl ⟨_,I,p,I,⟨_,bA rR.l⟩,fun dx az=>?_⟩
 have es:dx≠o:=fun z=>by rw[z,aP]at az;cases az
 have xj:dA≠dx:=fun z=>by rw[cn es,<-z,aP]at az;cases az
 have uh:H dx=aw:=by rw[cn es,cn (e3 xj)]at az;exact az
 refine th (K:=K) (a:=p) (xs:=aI.map fun x=>V.ref x.1) (fun i=>V.ref ((hZ aI).getD i 0)) (fun ae=>∃z,ae=[z]) (by rw[cI];exact eN (by have:=c7.n;omega)) ⟨_,I⟩ az (bA rR.l) ?_ ?_
 ·rintro i x av bV H1 ⟨z,rfl⟩ c9 R cf
  rw[gm]at av
  obtain⟨y,bF,rfl⟩:=Uf.mp av
  have hm:=iL bF
  have e:(hZ aI).getD i 0=y.2.2:=by unfold hZ;rw[eM,gm,bF];rfl
  rw[e]at cf
  exact⟨_,I,.inl (.inr ⟨_,_,_,_,I,I,ck (c9 _ _ (rR.t y hm)),c5 (j:=1) I,cf _ ⟨_,I⟩⟩)⟩
 have hY:(List.range (aI.map fun x=>V.ref x.1).length).map (fun i=>V.ref ((hZ aI).getD i 0))=(hZ aI).map V.ref:=by
  apply List.ext_getElem
  .unfold hZ;simp
  ·intro i g1 g2
   have g3:i<aI.length:=by simpa [hZ] using g2
   have uf:i<(hZ aI).length:=by simpa using g2
   rw[i3,i3,List.getElem_range,eM,cV uf];rfl
 rw[hY]
 refine⟨_,I,o,C,aG,_,I,(by rw[cn (e3 es)];exact aP),T.cl,T.sh,(by show 1<1000;decide),?_⟩
 rw[HF,y0 (e3 es),kn]
 exact q dA dx aq uh xj
structure lA(K:bH)(C:ah):Prop where
 cl:h8 K C
 pN:l9 K C "inner"
inductive L2(C:ah)(vs:List V)(H:ar)(Q:bP)(E:cC):Prop where
 |mk (p aG w:_) (bt:vs=[.ref p,.ref w]) (aq:H p=J (.ins C aG [])) (az:Q .aK (upd H p (.ins C aG [("inner",.ref w)]))):L2 C vs H Q E
def pX(C:ah):cT:=fun vs H Q E=>L2 C vs H Q E
theorem O8(T:lA K C)(F:dV K "__init__" "Maybe.__init__" B3 f fd):di P w K mg base eb 1 f fd ["self","inner"] (pX C):=by
 refine F.ok O5 (fun vs H Q E h=>?_) (fun bD A _ s H vs Q E aF h=>?_)
 .obtain⟨_,_,_,rfl,_⟩:=h;rfl
 obtain⟨p,aG,w,rfl,bh,q⟩:=h
 exact⟨_,(aY (n3 (ag 0) (ag 1) I)),_,I,_,I,p,C,aG,_,I,bh,T.cl,T.pN,(by show 0<1000;decide),q⟩
theorem Px(T:lA K C)(F:dV K "__init__" "Many.__init__" Ce f fd):di P w K mg base eb 1 f fd ["self","inner"] (pX C):=by
 refine F.ok Pr (fun vs H Q E h=>?_) (fun bD A _ s H vs Q E aF h=>?_)
 .obtain⟨_,_,_,rfl,_⟩:=h;rfl
 obtain⟨p,aG,w,rfl,bh,q⟩:=h
 exact⟨_,(aY (n3 (ag 0) (ag 1) I)),_,I,_,I,p,C,aG,_,I,bh,T.cl,T.pN,(by show 0<1000;decide),q⟩
theorem OS(T:lA K C)(F:dV K "__init__" "Turned.__init__" BW f fd):di P w K mg base eb 1 f fd ["self","inner"] (pX C):=by
 refine F.ok OL (fun vs H Q E h=>?_) (fun bD A _ s H vs Q E aF h=>?_)
 .obtain⟨_,_,_,rfl,_⟩:=h;rfl
 obtain⟨p,aG,w,rfl,bh,q⟩:=h
 exact⟨_,(aY (n3 (ag 0) (ag 1) I)),_,I,_,I,p,C,aG,_,I,bh,T.cl,T.pN,(by show 0<1000;decide),q⟩
noncomputable def isNum:D->Bool
 |.int _=>au
 |_=>ay
noncomputable def Dd(b2:D->Bool):Fin 4->D->Bool
 |0,.aK=>au
 |1,.aC _=>au
 |2,.int i=>decide (gI i)
 |3,d=>b2 d
 |_,_=>ay
noncomputable def sg(g:D->Bool):D->Bool
 |.tup []=>au
 |.tup [x]=>g x
 |_=>ay
noncomputable def uK(g:D->Bool):D->Bool
 |.lst ds=>decide (ds.length<=60)&&ds.all g
 |_=>ay
noncomputable def Ak(k:Fin 3)(g:D->Bool)(d:D):Bool:=if k=0 then sg g d else if k=1 then uK g d else g d
noncomputable def ZW(a b:Int):D->Bool
 |.int i=>decide (a<=i/\i<=b)
 |_=>ay
noncomputable def Xg(s:af):D->Bool
 |.str t=>decide (t.length<=200)&&j9 t s
 |_=>ay
noncomputable def FV(g:List D->Bool):D->Bool
 |.tup ds=>g ds
 |_=>ay
noncomputable def uc(g:af->D->Bool):D->Bool
 |.tup [.str n,x]=>g n x
 |_=>ay
mutual
noncomputable def br(b2:D->Bool):bq->D->Bool
 |.bare k,d=>Dd b2 k d
 |.sp a b,d=>ZW a b d
 |.le s,d=>Xg s d
 |.one k f,d=>Ak k (br b2 f) d
 |.two k ns fs,d=>if k=0 then FV (fL b2 fs) d else uc (hi b2 fs ns) d
noncomputable def fL(b2:D->Bool):List bq->List D->Bool
 |[],ds=>ds.isEmpty
 |f::fs,ds=>match ds with|[]=>ay|d::ds=>br b2 f d&&fL b2 fs ds
noncomputable def hi(b2:D->Bool):List bq->List af->af->D->Bool
 |[],_,_,_=>ay
 |f::fs,ns,n,x=>if ns.head?=J n then br b2 f x else hi b2 fs ns.tail n x
end
inductive LM(vs:List V)(H:ar)(Q:bP)(E:cC):Prop where
 |mk (v:V) (d:D) (bt:vs=[v]) (aq:dI H d v) (az:Q (.aC (isNum d)) H):LM  vs H Q E
def xI:cT:=fun vs H Q E=>LM  vs H Q E
inductive LF(vs:List V)(H:ar)(Q:bP)(E:cC):Prop where
 |mk (n:Int) (bt:vs=[.int n]) (aq:Q (.aC (decide (gI n))) H):LF  vs H Q E
def FC:cT:=fun vs H Q E=>LF  vs H Q E
theorem N6(F:ed K mg "has_whole_row" Wp ["n"] f fd)(l7:bx P w K mg base 1 "is_count" ["n"] xH):bx P w K mg base 2 "has_whole_row" ["n"] FC:=by
 refine F.fC G5 (fun bD A _ s H vs Q E aF h=>?_)
 obtain⟨n,rfl,q⟩:=h
 refine⟨_,(aY (bB (cu l7 aF (ak (nX (bZ Fp (ag 0) aA) (ag 0) (aL gB (pf o8 aA) (ag 0))) aB)))),?_⟩
 try dsimp only[d5,d6,d7,d8]
 refine⟨_,I,_,_,I,I,_,I,?_⟩
 refine dk (fun c=>?_) (fun c=>?_)
 ·refine⟨_,I,_,I,H,.refl (c2 _),?_⟩
  have e:decide (gS n)=decide (gI n):=decide_eq_decide.mpr (by unfold gS gI;omega)
  rw[e];exact q
 ·refine⟨_,I,_,I,_,_,I,I,_,I,H,.refl (c2 _),?_⟩
  have e:decide (gS (-1-n))=decide (gI n):=decide_eq_decide.mpr (by unfold gS gI;omega)
  rw[e];exact q
theorem Pc(nb:et mg)(F:ed K mg "is_number" Ca ["value"] f fd):bx P w K mg base 1 "is_number" ["value"] xI:=by
 refine F.fC Pn (fun bD A _ s H vs Q E aF h=>?_)
 obtain⟨v,d,rfl,hd,q⟩:=h
 refine⟨_,(aY (bB (gV (bY fH I nb.eD eA (ak (ag 0) (ak (fz (v :=.ty "int") I nb.ow n4 I) aB))) (hT (CQ (bY fH I nb.eD eA (ak (ag 0) (ak (fz (v :=.ty "bool") I nb.pg o2 I) aB)))))))),?_⟩
 try dsimp only[d5,d6,d7,d8]
 refine⟨_,I,.inl ⟨_,_,_,_,I,hd.ty,bO K d (by decide),_,I,?_⟩⟩
 cases d with
 |int i=>exact bN ⟨_,I,.inl ⟨_,_,_,_,I,hd.ty,bO K _ (by decide),_,I,H,.refl (c2 _),q⟩⟩
 |aC b=>exact bN ⟨_,I,.inl ⟨_,_,_,_,I,hd.ty,bO K _ (by decide),_,I,H,.refl (c2 _),q⟩⟩
 |_=>exact bT ⟨H,.refl (c2 _),q⟩
mutual
noncomputable def iR:D->Prop
 |.int i=>i.natAbs<2^390
 |.tup ds=>lV ds
 |.lst ds=>lV ds
 |_=>True
noncomputable def lV:List D->Prop
 |[]=>True
 |d::ds=>iR d/\lV ds
end
theorem qg:∀(ds:List D){i:Nat}{d:D},lV ds->ds[i]?=J d->iR d
 |[],i,d,_,e=>by cases e
 |x::ds,0,d,h,e=>by cases e;exact h.1
 |x::ds,i+1,d,h,e=>qg ds h.2 e
inductive Ly(has:gT->Bool)(b2:D->Bool)(c:fX)(n:Nat)(i:gT)(vs:List V)(H:ar)(Q:bP)(E:cC):Prop where
 |mk (o:ah) (f:bq) (v:V) (d:D) (bt:vs=[.ref o,v]) (aq:slot f=i) (az:dn c [] H f o) (bE:nC has f) (cz:aO f<=n) (dY:dI H d v) (kT:iR d) (zE:Q (.aC (br b2 f d)) H):Ly has b2 c n i vs H Q E
def iS(has:gT->Bool)(b2:D->Bool)(c:fX)(n:Nat)(i:gT):cT:=fun vs H Q E=>Ly has b2 c n i vs H Q E
theorem gg(b2:D->Bool)(k:Fin 4)(d:D):br b2 (.bare k) d=Dd b2 k d:=by rw[br]
theorem Sx{d:D}(h:dI H d v):decide (v=.aK)=Dd (fun _=>ay) 0 d:=by
 cases d with
 |aK=>obtain rfl:v=.aK:=h;rfl
 |aC b=>obtain rfl:v=.aC b:=h;rfl
 |int i=>obtain rfl:v=.int i:=h;rfl
 |str s=>obtain⟨rfl,_⟩:=h;rfl
 |tup ds=>obtain⟨a,vs,rfl,e,_⟩:=h;rfl
 |lst ds=>obtain⟨a,vs,rfl,e,_⟩:=h;rfl
theorem OE(F:dV K "fits" "Nothing.fits" yc f fd):di P w K mg base eb 1 f fd ["self","value"] (iS has b2 c n (.b 0)):=by
 refine F.hJ Ow (fun bD A _ s H vs Q E aF h=>?_)
 obtain⟨o,eO,v,d,rfl,hs,eJ,aU,eg,hd,fU,q⟩:=h
 have:=qj hs
 subst this
 refine⟨_,(aY (bB (fc t6 (ag 1) km))),_,I,I,H,.refl (c2 _),?_⟩
 rw[Sx hd]
 rw[gg]at q
 cases d<;>exact q
theorem Pd(F:dV K "fits" "Truth.fits" yk f fd):di P w K mg base eb 1 f fd ["self","value"] (iS has b2 c n (.b 1)):=by
 refine F.hJ O4 (fun bD A _ s H vs Q E aF h=>?_)
 obtain⟨o,eO,v,d,rfl,hs,eJ,aU,eg,hd,fU,q⟩:=h
 have:=qj hs
 subst this
 rw[gg]at q
 refine⟨_,(aY (bB (C8 (fc C4 (ag 1) gJ) (hT (fc C4 (ag 1) gJ))))),_,I,ay,I,hd.plain,?_⟩
 have no:∀d',d=d'->(∀b,d'≠.aC b)->∀b,decide (v=.aC b)=ay:=fun d' e bf b=>fo fun z=>by
  subst e
  cases d with
  |aC Jl=>exact bf Jl I
  |aK=>obtain rfl:v=.aK:=hd;cases z
  |int i=>obtain rfl:v=.int i:=hd;cases z
  |str s=>obtain⟨rfl,_⟩:=hd;cases z
  |tup ds=>obtain⟨a,vs,rfl,e,_⟩:=hd;cases z
  |lst ds=>obtain⟨a,vs,rfl,e,_⟩:=hd;cases z
 cases d with
 |aC b =>
  obtain rfl:v=.aC b:=hd
  cases b with
  |false=>exact⟨au,I,bN ⟨H,.refl (c2 _),q⟩⟩
  |true=>exact⟨ay,I,bT ⟨_,I,au,I,I,H,.refl (c2 _),q⟩⟩
 |_ =>
  have d9:=no _ rfl (fun b z=>by cases z)
  refine⟨ay,by rw[d9],bT ⟨_,rfl,au,rfl,hd.plain,H,.refl (c2 _),?_⟩⟩
  rw[d9];exact q
theorem OV(F:dV K "fits" "Whole.fits" yj f fd)(l8:bx P w K mg base 1 "is_number" ["value"] xI)(q2:bx P w K mg base 2 "has_whole_row" ["n"] FC):di P w K mg base eb 3 f fd ["self","value"] (iS has b2 c n (.b 2)):=by
 refine F.hJ O3 (fun bD A _ s H vs Q E aF h=>?_)
 obtain⟨o,eO,v,d,rfl,hs,eJ,aU,eg,hd,fU,q⟩:=h
 have:=qj hs
 subst this
 rw[gg]at q
 refine⟨_,(aY (bB (gV (cu l8 aF (ak (ag 1) aB)) (hT (cu q2 aF (ak (ag 1) aB)))))),_,I,v,d,I,hd,_,I,?_⟩
 cases d with
 |int i =>
  obtain rfl:v=.int i:=hd
  exact bN ⟨_,I,i,I,H,.refl (c2 _),q⟩
 |_=>exact bT ⟨H,.refl (c2 _),q⟩
theorem PE(T:vK K c.s)(F:dV K "fits" "Span.fits" yr f fd)(l8:bx P w K mg base 1 "is_number" ["value"] xI):di P w K mg base eb 2 f fd ["self","value"] (iS has b2 c n .s):=by
 refine F.hJ Pq (fun bD A _ s H vs Q E aF h=>?_)
 obtain⟨o,eO,v,d,rfl,hs,eJ,aU,eg,hd,fU,q⟩:=h
 obtain⟨a,b,rfl⟩:=IG hs
 obtain⟨_,aG,aD⟩:=eJ
 rw[br]at q
 refine⟨_,(aY (bB (gV (cu l8 aF (ak (ag 1) aB)) (gV (fc sq (hU (ag 0) I) (ag 1)) (hT (fc sq (ag 1) (hU (ag 0) I))))))),_,I,v,d,I,hd,_,I,?_⟩
 cases d with
 | int i =>
  obtain rfl:v=.int i:=hd
  refine bN ⟨_,I,o,c.s,aG,_,_,I,aD,T.cl,T.qL,j8 ..,_,I,_,_,I,I,_,I,dk (fun dm=>?_) (fun dm=>?_)⟩
  ·refine⟨_,I,_,I,o,c.s,aG,_,_,I,aD,T.cl,T.Fh,sf _ _ _ _ J5,_,_,I,I,H,.refl (c2 _),?_⟩
   have e:decide (i<=b)=decide (a<=i/\i<=b):=decide_eq_decide.mpr ⟨fun z=>⟨dm,z⟩,fun z=>z.2⟩
   dsimp only
   rw[e];exact q
  ·have e:decide (a<=i/\i<=b)=ay:=fo fun z=>dm z.1
   have q:Q (.aC (decide (a<=i/\i<=b))) H:=q
   rw[e]at q
   exact⟨H,.refl (c2 _),q⟩
 |_=>exact bT ⟨H,.refl (c2 _),q⟩
theorem OG(nb:et mg)(wy:eT mg "LONGEST_TEXT" (.int 200))(T:tj K c.l)(F:dV K "fits" "Letters.fits" ye f fd)(mS:bx P w K mg base 1 "made_of" ["text","signs"] xK):di P w K mg base eb 2 f fd ["self","value"] (iS has b2 c n .l):=by
 refine F.hJ Oz (fun bD A _ s H vs Q E aF h=>?_)
 obtain⟨o,eO,v,d,rfl,hs,eJ,aU,eg,hd,fU,q⟩:=h
 obtain⟨cg,rfl⟩:=IH hs
 obtain⟨_,aG,aD⟩:=eJ
 rw[br]at q
 refine⟨_,(aY (bB (gV (bY fH I nb.eD eA (ak (ag 1) (ak (fz (v :=.ty "str") I nb.qT qp I) aB))) (gV (fc sq (bY ec I nb.d2 d4 (ak (ag 1) aB)) (i4 wy)) (hT (cu mS aF (ak (ag 1) (ak (hU (ag 0) I) aB)))))))),_,I,.inl ⟨_,_,_,_,I,hd.ty,bO K d (by decide),_,I,?_⟩⟩
 cases d with
 | str t =>
  obtain⟨rfl,uA⟩:=hd
  refine bN ⟨_,I,_,_,I,⟨pW uA,I⟩,_,_,I,I,_,I,dk (fun dm=>?_) (fun dm=>?_)⟩
  ·refine⟨_,I,_,I,o,c.l,aG,_,_,I,aD,T.cl,T.Ad,j8 ..,t,cg,I,by omega,H,.refl (c2 _),?_⟩
   have q:Q (.aC (decide (t.length<=200)&&j9 t cg)) H:=q
   rw[eY (by omega),Bool.true_and]at q
   exact q
  ·have q:Q (.aC (decide (t.length<=200)&&j9 t cg)) H:=q
   rw[fo (by omega),Bool.false_and]at q
   exact⟨H,.refl (c2 _),q⟩
 |_=>exact bT ⟨H,.refl (c2 _),q⟩
theorem dn.fits{c:fX}(f:bq)(h:dn c X H f o):∃aG fs,H o=J (.ins (g5 c (slot f)) aG fs)/\fs.lookup (af.ofString "fits")=aw :=
 dn.ins (m:=af.ofString "fits") (by decide+kernel) (by decide+kernel) (by decide+kernel) (by decide+kernel) (by decide+kernel) (by decide+kernel) f h
theorem Pe(nb:et mg)(T:lA K (c.o 0))(F:dV K "fits" "Maybe.fits" yl f fd)(iX:jg P w K mg base (2*n+4) "fits" ["self","value"] (g5 c) (iS has b2 c n)):di P w K mg base eb (2*n+4+1) f fd ["self","value"] (iS has b2 c (n+1) (.o 0)):=by
 refine F.hJ O6 (fun bD A _ s H vs Q E aF h=>?_)
 obtain⟨o,eO,v,d,rfl,hs,eJ,aU,eg,hd,fU,q⟩:=h
 obtain⟨g,rfl⟩:=tR hs
 obtain⟨_,aG,i,aD,fN⟩:=eJ
 have i9:=aU.one
 have ku:aO g<=n:=by rw[aO]at eg;omega
 rw[br]at q
 have q:Q (.aC (sg (br b2 g) d)) H:=q
 obtain⟨g6,g8,gn,li⟩:=dn.fits g fN
 refine⟨_,(aS (cy (e2.pt (ih (hS (fS (bY fH I nb.eD eA (ak (ag 1) (ak (fz (v :=.ty "tuple") I nb.nI m5 I) aB))))) (iM (bZ il (bY ec I nb.d2 d4 (ak (ag 1) aB)) aA)))) (aY (bB gJ)) cx)
  (aY (bB (C8 (fc cN (bY ec rfl nb.d2 d4 (ak (ag 1) aB)) aA) (hT (kM iX aF (hU (ag 0) rfl) (ak (b8 cb (ag 1) aA) aB) (hk:=by omega))))))),_,rfl,.inl ⟨_,_,_,_,rfl,hd.ty,bO K d (by decide),_,rfl,?_⟩⟩
 cases d with
 | tup ds =>
  obtain⟨a,vs,rfl,c6,cJ,iQ⟩:=hd
  have cG:=cU.len ds cJ
  refine bT ⟨_,I,_,_,I,.inr ⟨_,ck c6,I⟩,_,_,I,I,_,I,dk (fun dm=>?_) (fun dm=>?_)⟩
  ·have e:sg (br b2 g) (.tup ds)=ay:=by
    cases ds with
    |nil=>rw[cG,List.length_nil]at dm;omega
    |cons x r =>
     cases r with
     |nil=>rw[cG,i1]at dm;omega
     |cons y r=>rfl
   rw[e]at q
   exact⟨H,.refl (c2 _),q⟩
  ·refine⟨_,I,_,_,I,.inr ⟨_,ck c6,I⟩,I,_,I,dk (fun ee=>?_) (fun ee=>?_)⟩
   ·have bt:ds=[]:=List.length_eq_zero_iff.mp (by have:=V.int.inj ee;omega)
    subst bt
    exact⟨H,.refl (c2 _),q⟩
   ·have aq:ds.length=1:=by
     rcases Nat.eq_zero_or_pos ds.length with z|z
     .exact absurd (by rw[cG,z];rfl) ee
     .omega
    obtain⟨x,rfl⟩:=List.length_eq_one_iff.mp aq
    obtain⟨y,r,rfl,av,uy⟩:=cJ
    obtain rfl:r=[]:=uy
    refine⟨_,I,o,c.o 0,aG,_,_,I,aD,T.cl,T.pN,j8 ..,i,slot g,g6,g8,I,gn,li,?_⟩
    exact⟨_,I,.inl (.inr ⟨_,_,_,_,I,I,ck c6,c5 (j:=0) I,i,g,y,x,I,I,fN,i9,ku,av,fU.1,H,.refl (c2 _),q⟩)⟩
 |_=>exact bN ⟨H,.refl (c2 _),q⟩
theorem OD(T:lA K (c.o 2))(F:dV K "fits" "Turned.fits" yf f fd)(iX:jg P w K mg base (2*n+4) "fits" ["self","value"] (g5 c) (iS has b2 c n)):di P w K mg base eb (2*n+4+1) f fd ["self","value"] (iS has b2 c (n+1) (.o 2)):=by
 refine F.hJ OM (fun bD A _ s H vs Q E aF h=>?_)
 obtain⟨o,eO,v,d,rfl,hs,eJ,aU,eg,hd,fU,q⟩:=h
 obtain⟨g,rfl⟩:=tR hs
 obtain⟨_,aG,i,aD,fN⟩:=eJ
 have i9:=aU.one
 have ku:aO g<=n:=by rw[aO]at eg;omega
 rw[br]at q
 have q:Q (.aC (br b2 g d)) H:=q
 obtain⟨g6,g8,gn,li⟩:=dn.fits g fN
 refine⟨_,(aY (bB (kM iX aF (hU (ag 0) I) (ak (ag 1) aB) (hk:=by omega)))),_,rfl,o,c.o 2,aG,_,_,rfl,aD,T.cl,T.pN,j8 ..,i,slot g,g6,g8,rfl,gn,li,?_⟩
 exact⟨_,I,i,g,v,d,I,I,fN,i9,ku,hd,fU,H,.refl (c2 _),q⟩
theorem PF(nb:et mg)(wz:eT mg "MOST_VALUES" (.int 60))(T:lA K (c.o 1))(F:dV K "fits" "Many.fits" ys f fd)(iX:jg P w K mg base (2*n+4) "fits" ["self","value"] (g5 c) (iS has b2 c n)):di P w K mg base eb (2*n+4+1) f fd ["self","value"] (iS has b2 c (n+1) (.o 1)):=by
 refine F.hJ Ps (fun bD A _ s H vs Q E aF h=>?_)
 obtain⟨o,eO,v,d,rfl,hs,eJ,aU,eg,hd,fU,q⟩:=h
 obtain⟨g,rfl⟩:=tR hs
 obtain⟨_,aG,i,aD,fN⟩:=eJ
 have i9:=aU.one
 have ku:aO g<=n:=by rw[aO]at eg;omega
 rw[br]at q
 have q:Q (.aC (uK (br b2 g) d)) H:=q
 obtain⟨g6,g8,gn,li⟩:=dn.fits g fN
 refine⟨_,(aS (cy (e2.pt (ih (hS (fS (bY fH I nb.eD eA (ak (ag 1) (ak (fz (v :=.ty "list") I nb.se rB I) aB))))) (iM (bZ il (bY ec I nb.d2 d4 (ak (ag 1) aB)) (i4 wz))))) (aY (bB gJ)) cx)
  (aY (bB (bY (vX rfl) rfl nb.wd wb (ak (hQ ["part"] [(0,"self")] rfl (by decide+kernel) ⟨rfl,.inl rfl,trivial⟩ (ja (ag 1)) (fun _ _ _ _ _=>(eH (i:=0) (show(["part","self"]:List af).Nodup by decide+kernel))) (fun _ _ _ _ _=>iA) (fun _ _ _ _ _=>(kM iX aF (hU (ag 1) rfl) (ak (ag 0) aB) (hk:=by omega)))) aB))))),_,rfl,.inl ⟨_,_,_,_,rfl,hd.ty,bO K d (by decide),_,rfl,?_⟩⟩
 cases d with
 | lst ds =>
  obtain⟨a,vs,rfl,c6,cJ,iQ⟩:=hd
  have cG:=cU.len ds cJ
  have q:Q (.aC (decide (ds.length<=60)&&ds.all (br b2 g))) H:=q
  refine bT ⟨_,I,_,_,I,.inl ⟨_,bA c6,I⟩,_,_,I,I,_,I,dk (fun dm=>?_) (fun dm=>?_)⟩
  ·rw[fo (by omega),Bool.false_and]at q
   exact⟨H,.refl (c2 _),q⟩
  ·rw[eY (by omega),Bool.true_and]at q
   refine .inl ⟨_,I,a,I,⟨_,bA c6⟩,fun cB ef=>?_⟩
   refine th (K:=K) (a:=a) (xs:=vs) (fun k=>V.aC (br b2 g (ds.getD k .aK))) (fun ae=>∃z,ae=[z,J (.ref o)]) (eN (by omega)) ⟨_,I⟩ ef (bA c6) ?_ ?_
   ·rintro k x av bV H1 ⟨z,rfl⟩ c9 R cf
    obtain⟨f5,f6,EX⟩:=cU.get ds cJ av
    have e:ds.getD k .aK=f5:=by rw[eM,f6];rfl
    rw[e]at cf
    refine⟨_,I,o,c.o 1,aG,_,_,I,c9 _ _ aD,T.cl,T.pN,j8 ..,i,slot g,g6,g8,I,c9 _ _ gn,li,?_⟩
    exact⟨_,I,i,g,x,f5,I,I,dn.keep (fun b u _ e=>c9 b u e) g fN,i9,ku,dI.same c9 f5 EX,qg ds fU f6,cf _ ⟨_,I⟩⟩
   ·have e:(List.range vs.length).map (fun k=>V.aC (br b2 g (ds.getD k .aK)))=(ds.map (br b2 g)).map V.aC:=by
     rw[cG]
     apply List.ext_getElem
     .simp
     ·intro k aq az
      have bE:k<ds.length:=by simpa using az
      rw[i3,i3,i3,List.getElem_range,eM,cV bE];rfl
    rw[e]
    refine⟨cB,ds.map (br b2 g),I,bA aP,H,.refl (c3 ef),?_⟩
    rw[List.all_map]
    exact q
 |_=>exact bN ⟨H,.refl (c2 _),q⟩
theorem vV(b2:D->Bool):∀(fs:List bq)(ds:List D),ds.length≠fs.length->fL b2 fs ds=ay
 |[],ds,h=>by
  cases ds with
  |nil=>exact absurd I h
  |cons d ds=>rw[fL];rfl
 |f::fs,[],h=>by rw[fL]
 |f::fs,d::ds,h=>by
  rw[fL]
  show(br b2 f d&&fL b2 fs ds)=ay
  rw[vV b2 fs ds (fun e=>h (by rw[ep,ep,e])),Bool.and_false]
theorem y5(b2:D->Bool):∀(fs:List bq)(ds:List D),ds.length=fs.length->fL b2 fs ds=(List.range fs.length).all fun i=>br b2 (fs.getD i (.bare 0)) (ds.getD i .aK)
 |[],ds,h=>by
  obtain rfl:ds=[]:=List.length_eq_zero_iff.mp h
  rw[fL];rfl
 |f::fs,[],h=>by cases h
 |f::fs,d::ds,h=>by
  rw[fL]
  show(br b2 f d&&fL b2 fs ds)=_
  rw[y5 b2 fs ds (by simpa using h),ep,List.range_succ_eq_map,List.all_cons,List.all_map]
  rfl
theorem OW(nb:et mg)(T:o3 K (c.t 0))(F:dV K "fits" "Record.fits" yg f fd)(iX:jg P w K mg base (2*n+4) "fits" ["self","value"] (g5 c) (iS has b2 c n)):di P w K mg base eb (2*n+4+1) f fd ["self","value"] (iS has b2 c (n+1) (.t 0)):=by
 refine F.hJ OO (fun bD A _ s H vs Q E aF h=>?_)
 obtain⟨o,eO,v,d,rfl,hs,eJ,aU,eg,hd,fU,q⟩:=h
 obtain⟨ns,fs,rfl⟩:=y1 hs
 obtain⟨_,aG,a1,a2,os,aD,_,_,aq,az,fN⟩:=eJ
 obtain⟨gO,lR,i9⟩:=aU.two
 have ku:fA fs<=n:=by rw[aO]at eg;omega
 have r5:=fl.len fs fN
 have EB:=(m6 gO).1
 rw[br]at q
 have q:Q (.aC (FV (fL b2 fs) d)) H:=q
 refine⟨_,(aS (cy (e2.pt (ih (hS (fS (bY fH I nb.eD eA (ak (ag 1) (ak (fz (v :=.ty "tuple") I nb.nI m5 I) aB))))) (iM (bZ nB (bY ec I nb.d2 d4 (ak (ag 1) aB)) (bY ec I nb.d2 d4 (ak (hU (ag 0) I) aB)))))) (aY (bB gJ)) cx)
  (aY (bB (bY (vX rfl) rfl nb.wd wb (ak (hQ ["form","part"] [] rfl (by decide+kernel) trivial (IK rfl nb.MT (ak (hU (ag 0) rfl) (ak (ag 1) aB))) (fun _ _ _ _ _=>(o9 rfl (jk (eH (i:=0) (show(["form","part"]:List af).Nodup by decide+kernel)) (jk (eH (i:=1) (show(["form","part"]:List af).Nodup by decide+kernel)) o1)))) (fun _ _ _ _ _=>iA) (fun _ _ _ _ _=>(kM iX aF (ag 0) (ak (ag 1) aB) (hk:=by omega)))) aB))))),_,rfl,.inl ⟨_,_,_,_,rfl,hd.ty,bO K d (by decide),_,rfl,?_⟩⟩
 cases d with
 | tup ds =>
  obtain⟨a,vs,rfl,c6,cJ,iQ⟩:=hd
  have cG:=cU.len ds cJ
  have q:Q (.aC (fL b2 fs ds)) H:=q
  have z2:vs.length=ds.length:=cG
  have cF:∀{H1:ar},dJ H H1->fm K H1 a vs:=fun s1=>ck (s1 _ _ c6)
  refine bT ⟨_,I,_,_,I,.inr ⟨_,ck c6,I⟩,_,I,o,c.t 0,aG,_,_,I,aD,T.cl,T.sh,sf _ _ _ _ wu,_,_,I,.inl ⟨_,bA az,I⟩,I,_,I,?_⟩
  by_cases dm:ds.length=fs.length
  ·refine la (by rw[cI,z2,r5,dm]) ?_
   rw[y5 b2 fs ds dm]at q
   refine⟨_,I,o,c.t 0,aG,_,_,I,aD,T.cl,T.sh,sf _ _ _ _ wu,_,I,a2,a,_,_,I,bA az,ck c6,fun cB ef=>?_⟩
   refine HU (fun k=>V.aC (br b2 (fs.getD k (.bare 0)) (ds.getD k .aK))) (fun ae=>∃ea el,ae=[ea,el]) (by rw[cI];omega) ⟨_,_,I⟩ ef (bA az) (ck c6) ?_ ?_
   ·rintro k x y av bF bV H1 BL ⟨ea,el,rfl⟩ c9 wJ R cf
    rw[gm]at av
    obtain⟨su,EH,rfl⟩:=Uf.mp av
    obtain⟨eO,uw,wB⟩:=fl.get fs fN EH
    obtain⟨f5,f6,EZ⟩:=cU.get ds cJ bF
    obtain⟨r4,Es⟩:=i9.get uw
    have ba:fs.getD k (.bare 0)=eO:=by rw[eM,uw];rfl
    have bg:ds.getD k .aK=f5:=by rw[eM,f6];rfl
    rw[ba,bg]at cf
    have sD:=c9.trans (c3 (o:=dC.tup [V.ref su,y]) wJ)
    obtain⟨g6,g8,gn,li⟩:=dn.fits eO (dn.keep (fun b u _ e=>sD b u e) eO wB)
    refine⟨BL,_,I,ck aP,I,_,_,I,_,_,I,I,?_⟩
    refine⟨_,I,su,slot eO,g6,g8,I,gn,li,?_⟩
    exact⟨_,I,su,eO,y,f5,I,I,dn.keep (fun b u _ e=>sD b u e) eO wB,r4,by omega,dI.same sD f5 EZ,qg ds fU f6,cf _ _ ⟨_,_,rfl⟩ (c2 _)⟩
   ·intro ai mv nq
    have e:(List.range (min (os.map V.ref).length vs.length)).map (fun k=>V.aC (br b2 (fs.getD k (.bare 0)) (ds.getD k .aK)))=((List.range fs.length).map fun k=>br b2 (fs.getD k (.bare 0)) (ds.getD k .aK)).map V.aC:=by
     rw[cI,z2,r5,dm,Nat.min_self,i2];rfl
    rw[e]at nq
    refine⟨cB,_,I,bA nq,H,.refl mv,?_⟩
    rw[List.all_map]
    exact q
  ·rw[vV b2 fs ds dm]at q
   have lQ:¬(V.int ((vs.length:Nat):Int)=V.int (((os.map V.ref).length:Nat):Int)):=fun e=>dm (by have e:=V.int.inj e;rw[cI]at e;omega)
   rw[fo lQ]
   exact bN ⟨H,.refl (c2 _),q⟩
 |_=>exact bN ⟨H,.refl (c2 _),q⟩
noncomputable def TN(dg:D->List Bool):Fin 4->D->List Bool
 |1,.aC b=>[b]
 |2,.int i=>jR i
 |3,d=>dg d
 |_,_=>[]
noncomputable def Fe(g:D->List Bool):D->List Bool
 |.tup [x]=>au::g x
 |_=>[ay]
noncomputable def Xu(g:D->List Bool):D->List Bool
 |.lst ds=>(ds.map fun d=>au::g d).flatten++[ay]
 |_=>[]
noncomputable def K8(k:Fin 3)(g:D->List Bool)(d:D):List Bool:=if k=0 then Fe g d else if k=1 then Xu g d else(g d).map (!·)
noncomputable def ZX(a b:Int):D->List Bool
 |.int i=>gu (i-a).toNat (bp (b-a).toNat)
 |_=>[]
noncomputable def KG(s:af):D->List Bool
 |.str t=>(t.cps.toList.map fun c=>au::gu (s.cps.toList.idxOf c) (bp (s.length-1))).flatten++[ay]
 |_=>[]
noncomputable def aaE(g:List D->List Bool):D->List Bool
 |.tup ds=>g ds
 |_=>[]
noncomputable def TS(g:af->D->List Bool):D->List Bool
 |.tup [.str n,x]=>g n x
 |_=>[]
mutual
noncomputable def ej(dg:D->List Bool):bq->D->List Bool
 |.bare k,d=>TN dg k d
 |.sp a b,d=>ZX a b d
 |.le s,d=>KG s d
 |.one k f,d=>K8 k (ej dg f) d
 |.two k ns fs,d=>if k=0 then aaE (lh dg fs) d else TS (oI dg fs ns 0 (fs.length-1)) d
noncomputable def lh(dg:D->List Bool):List bq->List D->List Bool
 |[],_=>[]
 |f::fs,ds=>match ds with|[]=>[]|d::ds=>ej dg f d++lh dg fs ds
noncomputable def oI(dg:D->List Bool):List bq->List af->Nat->Nat->af->D->List Bool
 |[],_,_,_,_,_=>[]
 |f::fs,ns,k,m,n,x=>if ns.head?=J n then gu k (bp m)++ej dg f x else oI dg fs ns.tail (k+1) m n x
end
inductive Mh(has:gT->Bool)(b2:D->Bool)(dg:D->List Bool)(c:fX)(n:Nat)(i:gT)(vs:List V)(H:ar)(Q:bP)(E:cC):Prop where
 |mk (o:ah) (f:bq) (v:V) (d:D) (bt:vs=[.ref o,v]) (aq:slot f=i) (az:dn c [] H f o) (bE:nC has f) (cz:aO f<=n) (dY:dI H d v) (kT:br b2 f d=au) (zE:(ej dg f d).length<=15000000) (DY:Q (.str (bR (ej dg f d))) H):Mh has b2 dg c n i vs H Q E
def jb(has:gT->Bool)(b2:D->Bool)(dg:D->List Bool)(c:fX)(n:Nat)(i:gT):cT:=fun vs H Q E=>Mh has b2 dg c n i vs H Q E
theorem dn.written{c:fX}(f:bq)(h:dn c X H f o):∃aG fs,H o=J (.ins (g5 c (slot f)) aG fs)/\fs.lookup (af.ofString "written")=aw :=
 dn.ins (m:=af.ofString "written") (by decide+kernel) (by decide+kernel) (by decide+kernel) (by decide+kernel) (by decide+kernel) (by decide+kernel) f h
theorem tW:af.ofString "1"=bR [au]:=by decide+kernel
theorem y9:af.ofString "0"=bR [ay]:=by decide+kernel
theorem N1(F:dV K "written" "Nothing.written" yL f fd):di P w K mg base eb 1 f fd ["self","value"] (jb has b2 dg c n (.b 0)):=by
 refine F.hJ NZ (fun bD A _ s H vs Q E aF h=>?_)
 obtain⟨o,eO,v,d,rfl,hs,eJ,aU,eg,hd,aQ,aH,q⟩:=h
 have:=qj hs
 subst this
 rw[ej]at q
 refine⟨_,(aY (bB b7)),H,.refl (c2 _),?_⟩
 cases d<;>exact q
theorem Ol(F:dV K "written" "Truth.written" yG f fd):di P w K mg base eb 1 f fd ["self","value"] (jb has b2 dg c n (.b 1)):=by
 refine F.hJ Og (fun bD A _ s H vs Q E aF h=>?_)
 obtain⟨o,eO,v,d,rfl,hs,eJ,aU,eg,hd,aQ,aH,q⟩:=h
 have:=qj hs
 subst this
 rw[ej]at q
 rw[br]at aQ
 cases d with
 |aC b =>
  obtain rfl:v=.aC b:=hd
  refine⟨_,(aY (bB (nX (fS (ag 1)) b7 b7))),_,I,?_⟩
  refine⟨b,I,?_⟩
  cases b with
  |true=>exact bN ⟨H,.refl (c2 _),q⟩
  |false=>exact bT ⟨H,.refl (c2 _),q⟩
 |_=>cases aQ
theorem N8(F:dV K "written" "Whole.written" yF f fd)(p9:bx P w K mg base 3 "whole_row" ["n"] yN):di P w K mg base eb 4 f fd ["self","value"] (jb has b2 dg c n (.b 2)):=by
 refine F.hJ Of (fun bD A _ s H vs Q E aF h=>?_)
 obtain⟨o,eO,v,d,rfl,hs,eJ,aU,eg,hd,aQ,aH,q⟩:=h
 have:=qj hs
 subst this
 rw[ej]at q
 rw[br]at aQ
 cases d with
 |int i =>
  obtain rfl:v=.int i:=hd
  exact⟨_,(aY (bB (cu p9 aF (ak (ag 1) aB)))),_,I,i,I,lD aQ,H,.refl (c2 _),q⟩
 |_=>cases aQ
theorem Om(T:vK K c.s)(F:dV K "written" "Span.written" yb f fd)(mQ:bx P w K mg base 2 "fixed_row" ["n","most"] xG):di P w K mg base eb 3 f fd ["self","value"] (jb has b2 dg c n .s):=by
 refine F.hJ Ov (fun bD A _ s H vs Q E aF h=>?_)
 obtain⟨o,eO,v,d,rfl,hs,eJ,aU,eg,hd,aQ,aH,q⟩:=h
 obtain⟨a,b,rfl⟩:=IG hs
 obtain⟨_,aG,aD⟩:=eJ
 rw[ej]at q aH
 rw[br]at aQ
 cases d with
 |int i =>
  obtain rfl:v=.int i:=hd
  have aQ:a<=i/\i<=b:=lD aQ
  have aH:(gu (i-a).toNat (bp (b-a).toNat)).length<=15000000:=aH
  rw[kK]at aH
  have ba:((i-a).toNat:Int)=i-a:=Int.toNat_of_nonneg (by omega)
  have bg:((b-a).toNat:Int)=b-a:=Int.toNat_of_nonneg (by omega)
  refine⟨_,(aY (bB (cu mQ aF (ak (aL gB (ag 1) (hU (ag 0) I)) (ak (aL gB (hU (ag 0) I) (hU (ag 0) I)) aB))))),?_⟩
  try dsimp only[d5,d6,d7,d8]
  refine⟨_,I,_,I,o,c.s,aG,_,_,I,aD,T.cl,T.qL,j8 ..,_,_,I,I,_,I,o,c.s,aG,_,_,I,aD,T.cl,T.Fh,sf _ _ _ _ J5,_,I,o,c.s,aG,_,_,I,aD,T.cl,T.qL,j8 ..,_,_,I,I,(i-a).toNat,(b-a).toNat,by rw[ba,bg];rfl,by omega,by omega,H,.refl (c2 _),q⟩
 |_=>cases aQ
theorem Oo(nb:et mg)(T:lA K (c.o 0))(F:dV K "written" "Maybe.written" yH f fd)(kg:jg P w K mg base (2*n+4) "written" ["self","value"] (g5 c) (jb has b2 dg c n)):di P w K mg base eb (2*n+4+1) f fd ["self","value"] (jb has b2 dg c (n+1) (.o 0)):=by
 refine F.hJ Oh (fun bD A _ s H vs Q E aF h=>?_)
 obtain⟨o,eO,v,d,rfl,hs,eJ,aU,eg,hd,aQ,aH,q⟩:=h
 obtain⟨g,rfl⟩:=tR hs
 obtain⟨_,aG,i,aD,fN⟩:=eJ
 have i9:=aU.one
 have ku:aO g<=n:=by rw[aO]at eg;omega
 rw[br]at aQ
 rw[ej]at q aH
 have aQ:sg (br b2 g) d=au:=aQ
 have q:Q (.str (bR (Fe (ej dg g) d))) H:=q
 have aH:(Fe (ej dg g) d).length<=15000000:=aH
 obtain⟨g6,g8,gn,li⟩:=dn.written g fN
 cases d with
 | tup ds =>
  obtain⟨a,vs,rfl,c6,cJ,iQ⟩:=hd
  have cG:=cU.len ds cJ
  refine⟨_,(aY (bB (nX (bZ cN (bY ec I nb.d2 d4 (ak (ag 1) aB)) aA) b7 (aL eE b7 (kM kg aF (hU (ag 0) I) (ak (b8 cb (ag 1) aA) aB) (hk:=by omega)))))),?_⟩
  try dsimp only[d5,d6,d7,d8]
  refine⟨_,I,_,_,I,.inr ⟨_,ck c6,I⟩,I,_,I,?_⟩
  cases ds with
  |nil =>
   obtain rfl:vs=[]:=cJ
   exact bN ⟨H,.refl (c2 _),q⟩
  | cons x r =>
   cases r with
   |cons y r=>cases aQ
   |nil =>
    obtain⟨y,r,rfl,av,uy⟩:=cJ
    obtain rfl:r=[]:=uy
    have aH:(au::ej dg g x).length<=15000000:=aH
    rw[ep]at aH
    refine bT ⟨_,I,o,c.o 0,aG,_,_,I,aD,T.cl,T.pN,j8 ..,i,slot g,g6,g8,I,gn,li,?_⟩
    refine⟨_,I,.inl (.inr ⟨_,_,_,_,I,I,ck c6,c5 (j:=0) I,i,g,y,x,I,I,fN,i9,ku,av,aQ,by omega,.inr ⟨_,_,rfl,rfl,pW ?_,H,.refl (c2 _),?_⟩⟩)⟩
    .rw[tW,fI,fI];simp only[ep,List.length_nil];omega
    .rw[tW,kL];exact q
 |_=>cases aQ
theorem N9(T:lA K (c.o 2))(F:dV K "written" "Turned.written" yB f fd)(mT:bx P w K mg base 1 "turned_row" ["row"] vF)(kg:jg P w K mg base (2*n+4) "written" ["self","value"] (g5 c) (jb has b2 dg c n)):di P w K mg base eb (2*n+4+1) f fd ["self","value"] (jb has b2 dg c (n+1) (.o 2)):=by
 refine F.hJ N3 (fun bD A _ s H vs Q E aF h=>?_)
 obtain⟨o,eO,v,d,rfl,hs,eJ,aU,eg,hd,aQ,aH,q⟩:=h
 obtain⟨g,rfl⟩:=tR hs
 obtain⟨_,aG,i,aD,fN⟩:=eJ
 have i9:=aU.one
 have ku:aO g<=n:=by rw[aO]at eg;omega
 rw[br]at aQ
 rw[ej]at q aH
 have aQ:br b2 g d=au:=aQ
 have q:Q (.str (bR ((ej dg g d).map (!·)))) H:=q
 have aH:((ej dg g d).map (!·)).length<=15000000:=aH
 rw[cI]at aH
 obtain⟨g6,g8,gn,li⟩:=dn.written g fN
 refine⟨_,(aY (bB (cu mT aF (ak (kM kg aF (hU (ag 0) I) (ak (ag 1) aB) (hk:=by omega)) aB) (hk:=by omega)))),?_⟩
 try dsimp only[d5,d6,d7,d8]
 refine⟨_,I,o,c.o 2,aG,_,_,I,aD,T.cl,T.pN,j8 ..,i,slot g,g6,g8,I,gn,li,?_⟩
 exact⟨_,I,i,g,v,d,I,I,fN,i9,ku,hd,aQ,aH,_,I,by omega,H,.refl (c2 _),q⟩
theorem CC{ls:List (List Bool)}{l:List Bool}(h:l∈ls):l.length<=ls.flatten.length:=by
 induction ls with
 |nil=>cases h
 |cons a r cp =>
  rw[o4,eU]
  rcases dy.mp h with rfl|h
  .omega
  .have:=cp h;omega
theorem CB(ls:List (List Bool)):((ls.map bR).map (·.length)).sum+(ls.map bR).length*(af.ofString "").length=ls.flatten.length:=by
 have e:(af.ofString "").length=0:=by decide+kernel
 rw[e,Nat.mul_zero,Nat.add_zero,i2,List.length_flatten]
 congr 1
 exact o5 fun l _=>fI l
theorem HD(dg:D->List Bool):∀(fs:List bq)(ds:List D),ds.length=fs.length->lh dg fs ds=((List.range fs.length).map fun i=>ej dg (fs.getD i (.bare 0)) (ds.getD i .aK)).flatten
 |[],ds,h=>by rw[lh];rfl
 |f::fs,[],h=>by cases h
 |f::fs,d::ds,h=>by
  rw[lh]
  show ej dg f d++lh dg fs ds=_
  rw[HD dg fs ds (by simpa using h),ep,List.range_succ_eq_map,jB,o4,i2]
  rfl
theorem OF(nb:et mg)(T:lA K (c.o 1))(F:dV K "written" "Many.written" yd f fd)(kg:jg P w K mg base (2*n+4) "written" ["self","value"] (g5 c) (jb has b2 dg c n)):di P w K mg base eb (2*n+4+1) f fd ["self","value"] (jb has b2 dg c (n+1) (.o 1)):=by
 refine F.hJ Ox (fun bD A _ s H vs Q E aF h=>?_)
 obtain⟨o,eO,v,d,rfl,hs,eJ,aU,eg,hd,aQ,aH,q⟩:=h
 obtain⟨g,rfl⟩:=tR hs
 obtain⟨_,aG,i,aD,fN⟩:=eJ
 have i9:=aU.one
 have ku:aO g<=n:=by rw[aO]at eg;omega
 rw[br]at aQ
 rw[ej]at q aH
 have aQ:uK (br b2 g) d=au:=aQ
 obtain⟨g6,g8,gn,li⟩:=dn.written g fN
 cases d with
 | lst ds =>
  obtain⟨a,vs,rfl,c6,cJ,iQ⟩:=hd
  have cG:=cU.len ds cJ
  have aQ:(decide (ds.length<=60)&&ds.all (br b2 g))=au:=aQ
  obtain⟨U1,i6⟩:=kk.mp aQ
  have i6:=ig.mp i6
  have q:Q (.str (bR ((ds.map fun d=>au::ej dg g d).flatten++[ay]))) H:=q
  have aH:((ds.map fun d=>au::ej dg g d).flatten++[ay]).length<=15000000:=aH
  rw[eU]at aH
  refine⟨_,(aY (bB (aL eE (ki PySem.F.plainAttrs_str PySem.F.slot_str_join PySem.F.type_str_join tX b7 (ak (hQ ["part"] [(0,"self")] I (by decide+kernel) ⟨I,.inl I,trivial⟩ (ja (ag 1)) (fun _ _ _ _ _=>(eH (i:=0) (show(["part","self"]:List af).Nodup by decide+kernel))) (fun _ _ _ _ _=>iA) (fun _ _ _ _ _=>(aL eE b7 (kM kg aF (hU (ag 1) rfl) (ak (ag 0) aB) (hk:=by omega))))) aB)) b7))),?_⟩
  try dsimp only[d5,d6,d7,d8]
  refine⟨I,.inl ⟨_,I,a,I,⟨_,bA c6⟩,fun cB ef=>?_⟩⟩
  refine th (K:=K) (a:=a) (xs:=vs) (fun k=>V.str (bR (au::ej dg g (ds.getD k .aK)))) (fun ae=>∃z,ae=[z,J (.ref o)]) (eN (by omega)) ⟨_,I⟩ ef (bA c6) ?_ ?_
  ·rintro k x av bV H1 ⟨z,rfl⟩ c9 R cf
   obtain⟨f5,f6,EX⟩:=cU.get ds cJ av
   have e:ds.getD k .aK=f5:=by rw[eM,f6];rfl
   rw[e]at cf
   have hm:f5∈ds:=iL f6
   have bh:=CC (List.mem_map_of_mem (f:=fun d=>au::ej dg g d) hm)
   rw[ep]at bh
   refine⟨_,I,o,c.o 1,aG,_,_,I,c9 _ _ aD,T.cl,T.pN,j8 ..,i,slot g,g6,g8,I,c9 _ _ gn,li,?_⟩
   refine⟨_,I,i,g,x,f5,I,I,dn.keep (fun b u _ e=>c9 b u e) g fN,i9,ku,dI.same c9 f5 EX,i6 _ hm,by omega,.inr ⟨_,_,rfl,rfl,pW ?_,?_⟩⟩
   .rw[tW,fI,fI];simp only[ep,List.length_nil];omega
   .rw[tW,kL];exact cf _ ⟨_,I⟩
  ·have e:(List.range vs.length).map (fun k=>V.str (bR (au::ej dg g (ds.getD k .aK))))=((ds.map fun d=>au::ej dg g d).map bR).map V.str:=by
    rw[cG]
    apply List.ext_getElem
    .simp
    ·intro k aq az
     have bE:k<ds.length:=by simpa using az
     rw[i3,i3,i3,i3,List.getElem_range,eM,cV bE];rfl
   rw[e]
   refine⟨_,cB,_,I,I,bA aP,by rw[CB];omega,.inr ⟨_,_,rfl,rfl,pW ?_,H,.refl (c3 ef),?_⟩⟩
   .rw[rf,y9,fI,fI];omega
   .rw[rf,y9,kL];exact q
 |_=>cases aQ
theorem Oa(nb:et mg)(T:o3 K (c.t 0))(F:dV K "written" "Record.written" yC f fd)(kg:jg P w K mg base (2*n+4) "written" ["self","value"] (g5 c) (jb has b2 dg c n)):di P w K mg base eb (2*n+4+1) f fd ["self","value"] (jb has b2 dg c (n+1) (.t 0)):=by
 refine F.hJ N4 (fun bD A _ s H vs Q E aF h=>?_)
 obtain⟨o,eO,v,d,rfl,hs,eJ,aU,eg,hd,aQ,aH,q⟩:=h
 obtain⟨ns,fs,rfl⟩:=y1 hs
 obtain⟨_,aG,a1,a2,os,aD,_,_,aq,az,fN⟩:=eJ
 obtain⟨gO,lR,i9⟩:=aU.two
 have ku:fA fs<=n:=by rw[aO]at eg;omega
 have r5:=fl.len fs fN
 have EB:=(m6 gO).1
 rw[br]at aQ
 rw[ej]at q aH
 have aQ:FV (fL b2 fs) d=au:=aQ
 cases d with
 | tup ds =>
  obtain⟨a,vs,rfl,c6,cJ,iQ⟩:=hd
  have z2:=cU.len ds cJ
  have aQ:fL b2 fs ds=au:=aQ
  have dm:ds.length=fs.length:=Classical.byContradiction fun bf=>by rw[vV b2 fs ds bf]at aQ;cases aQ
  rw[y5 b2 fs ds dm]at aQ
  have i6:=ig.mp aQ
  have q:Q (.str (bR (lh dg fs ds))) H:=q
  have aH:(lh dg fs ds).length<=15000000:=aH
  rw[HD dg fs ds dm]at q aH
  refine⟨_,(aY (bB (ki PySem.F.plainAttrs_str PySem.F.slot_str_join PySem.F.type_str_join tX b7 (ak (hQ ["form","part"] [] I (by decide+kernel) trivial (IK I nb.MT (ak (hU (ag 0) I) (ak (ag 1) aB))) (fun _ _ _ _ _=>(o9 I (jk (eH (i:=0) (show(["form","part"]:List af).Nodup by decide+kernel)) (jk (eH (i:=1) (show(["form","part"]:List af).Nodup by decide+kernel)) o1)))) (fun _ _ _ _ _=>iA) (fun _ _ _ _ _=>(kM kg aF (ag 0) (ak (ag 1) aB) (hk:=by omega)))) aB)))),?_⟩
  try dsimp only[d5,d6,d7,d8]
  refine⟨I,_,I,o,c.t 0,aG,_,_,I,aD,T.cl,T.sh,sf _ _ _ _ wu,_,I,a2,a,_,_,I,bA az,ck c6,fun cB ef=>?_⟩
  refine HU (fun k=>V.str (bR (ej dg (fs.getD k (.bare 0)) (ds.getD k .aK)))) (fun ae=>∃ea el,ae=[ea,el]) (by rw[cI];omega) ⟨_,_,I⟩ ef (bA az) (ck c6) ?_ ?_
  ·rintro k x y av bF bV H1 BL ⟨ea,el,rfl⟩ c9 wJ R cf
   rw[gm]at av
   obtain⟨su,EH,rfl⟩:=Uf.mp av
   obtain⟨eO,uw,wB⟩:=fl.get fs fN EH
   obtain⟨f5,f6,EZ⟩:=cU.get ds cJ bF
   obtain⟨r4,Es⟩:=i9.get uw
   have ba:fs.getD k (.bare 0)=eO:=by rw[eM,uw];rfl
   have bg:ds.getD k .aK=f5:=by rw[eM,f6];rfl
   have hk:k∈List.range fs.length:=List.mem_range.mpr (lE.mp uw).1
   have J1:=i6 k hk
   have bh:=CC (List.mem_map_of_mem (f:=fun i=>ej dg (fs.getD i (.bare 0)) (ds.getD i .aK)) hk)
   rw[ba,bg]at cf J1 bh
   have sD:=c9.trans (c3 (o:=dC.tup [V.ref su,y]) wJ)
   obtain⟨g6,g8,gn,li⟩:=dn.written eO (dn.keep (fun b u _ e=>sD b u e) eO wB)
   refine⟨BL,_,I,ck aP,I,_,_,I,_,_,I,I,?_⟩
   refine⟨_,I,su,slot eO,g6,g8,I,gn,li,?_⟩
   exact⟨_,I,su,eO,y,f5,I,I,dn.keep (fun b u _ e=>sD b u e) eO wB,r4,by omega,dI.same sD f5 EZ,J1,by omega,cf _ _ ⟨_,_,rfl⟩ (c2 _)⟩
  ·intro ai mv nq
   have e:(List.range (min (os.map V.ref).length vs.length)).map (fun k=>V.str (bR (ej dg (fs.getD k (.bare 0)) (ds.getD k .aK))))=(((List.range fs.length).map fun k=>ej dg (fs.getD k (.bare 0)) (ds.getD k .aK)).map bR).map V.str:=by
    rw[cI,z2,r5,dm,Nat.min_self,i2,i2];rfl
   rw[e]at nq
   refine⟨_,cB,_,I,I,bA nq,by rw[CB];omega,H,.refl mv,?_⟩
   rw[rf];exact q
 |_=>cases aQ
theorem Hx{K:bH}{D:ah}(Inv:Nat->List V->ar->Prop)(S:St->Prop)(bw:xs.length<=100000)(bt:S fk)
  (aH:∀i aM ax,Inv i aM ax->dr K ax a xs) (aq:Inv 0 [] (upd H D (.lst [])))
  (aO:∀i x,xs[i]?=J x->∀aM bV H1,S bV->Inv i aM H1->H1 D=J (.lst aM)->aM.length=i->∀R:St->V->ar->Prop,(∀bI y bL,S bI->bL D=J (.lst aM)->Inv (i+1) (aM++[y]) (upd bL D (.lst (aM++[y])))->R bI y bL)->g x bV H1 fun bI ax=>cH bI ax fun y bL=>R bI y bL)
  (aT:∀(aM:List V)(ai:ar),aM.length=xs.length->ai D=J (.lst aM)->Inv xs.length aM ai->Q (.ref D) ai) :
  mP (oY K a) g qU cH Q fk H D:=by
 refine⟨fun i m bV ax=>i<=xs.length/\m=xs.length-i/\S bV/\∃aM:List V,aM.length=i/\ax D=J (.lst aM)/\Inv i aM ax,⟨xs.length,UF _,I,bt,[],I,aP,aq⟩,?_⟩
 rintro i m bV ax ⟨aE,rfl,az,aM,bF,lL,c7⟩
 have f7:=aH i aM ax c7
 rcases jC i xs.length with z|z
 ·refine .inr ⟨⟨xs,xs[i],f7,cV z⟩,?_⟩
  rintro x bL ⟨rfl,av⟩
  have av:=av xs f7
  refine aO i x av aM bV _ az c7 lL bF (fun bI y e1=>∃zs cv,e1 D=J (.lst zs)/\zs.length<bW/\cv<xs.length-i/\(i+1<=xs.length/\cv=xs.length-(i+1)/\S bI/\∃ws:List V,ws.length=i+1/\upd e1 D (.lst (zs++[y])) D=J (.lst ws)/\Inv (i+1) ws (upd e1 D (.lst (zs++[y]))))) fun bI y e1 fx D0 D5=>?_
  exact⟨aM,xs.length-(i+1),D0,ez (show aM.length<100000 by omega) (by decide),by omega,by omega,rfl,fx,aM++[y],by rw[eU,bF];rfl,aP,D5⟩
 ·have e:i=xs.length:=by omega
  subst e
  exact .inl ⟨⟨xs,f7,cQ _⟩,aT aM ax bF lL c7⟩
noncomputable def idxs(s t:af):List Nat:=t.cps.toList.map fun c=>s.cps.toList.idxOf c
inductive L3(C:ah)(vs:List V)(H:ar)(Q:bP)(E:cC):Prop where
 |mk (o aG:ah) (s t:af) (bt:vs=[.ref o,.str t]) (aq:H o=J (.ins C aG [("signs",.str s)])) (az:j9 t s=au) (bE:t.length<=200) (cz:∀r,H r=aw->Q (.ref r) (upd H r (.lst ((idxs s t).map fun k=>V.int ((k:Nat):Int))))):L3 C vs H Q E
def FI(C:ah):cT:=fun vs H Q E=>L3 C vs H Q E
theorem Ob(T:tj K C)(F:dV K "places" "Letters.places" yD f fd):di P w K mg base eb 1 f fd ["self","text"] (FI C):=by
 refine F.hJ N5 (fun bD A _ s H vs Q E aF h=>?_)
 obtain⟨o,aG,cg,t,rfl,aD,hm,aH,q⟩:=h
 refine⟨_,(aY (bB (hQ ["sign"] [(0,"self")] I (by decide+kernel) ⟨I,.inl I,trivial⟩ (ja (ag 1)) (fun _ _ _ _ _=>(eH (i:=0) (show(["sign","self"]:List af).Nodup by decide+kernel))) (fun _ _ _ _ _=>iA) (fun _ _ _ _ _=>(ki PySem.F.plainAttrs_str PySem.F.slot_str_index PySem.F.type_str_index Qs (hU (ag 1) rfl) (ak (ag 0) aB)))))),?_⟩
 try dsimp only[d5,d6,d7,d8]
 refine .inr ⟨_,I,_,I,fun D dz=>?_⟩
 refine Iu (fun c=>V.int ((cg.cps.toList.idxOf c:Nat):Int)) (fun ae=>∃z,ae=[z,J (.ref o)]) (eN (by show t.length<=_;omega)) ⟨_,I⟩ dz ?_ ?_
 ·rintro ch hc bV H1 ⟨z,rfl⟩ c9 R cf
  refine⟨_,I,o,C,aG,_,_,I,c9 _ _ aD,T.cl,T.Ad,j8 ..,?_⟩
  exact⟨I,_,I,cg,ch,I,I,lD (ig.mp hm ch hc),cf _ ⟨_,I⟩⟩
 ·refine⟨_,.new dz (c3 dz) aP trivial,?_⟩
  have q:=q D dz
  unfold idxs at q
  rw[i2]at q
  exact q
theorem N2(nb:et mg)(T:tj K c.l)(F:dV K "written" "Letters.written" yM f fd)(TQ:h8 K c.l)(vH:tC P w K mg base 1 c.l "places" ["self","text"] (FI c.l))(mQ:bx P w K mg base 2 "fixed_row" ["n","most"] xG):di P w K mg base eb 3 f fd ["self","value"] (jb has b2 dg c n .l):=by
 refine F.hJ GQ (fun bD A _ s H vs Q E aF h=>?_)
 obtain⟨o,eO,v,d,rfl,hs,eJ,aU,eg,hd,aQ,aH,q⟩:=h
 obtain⟨cg,rfl⟩:=IH hs
 obtain⟨_,aG,aD⟩:=eJ
 rw[br]at aQ
 rw[ej]at q aH
 cases d with
 | str t =>
  obtain⟨rfl,_⟩:=hd
  have aQ:(decide (t.length<=200)&&j9 t cg)=au:=aQ
  obtain⟨DX,hm⟩:=kk.mp aQ
  have DX:=lD DX
  have Kk:nj cg=au/\cg.length<=60:=by have:=aU.1;rw[mB]at this;exact this
  refine⟨_,(aS (b0 2 GQ.bC (aL gB (bY ec I nb.d2 d4 (ak (hU (ag 0) I) aB)) aA))
  (aY (bB (aL eE (ki PySem.F.plainAttrs_str PySem.F.slot_str_join PySem.F.type_str_join tX b7 (ak (hQ ["place"] [(2,"most")] rfl (by decide+kernel) ⟨rfl,.inl rfl,trivial⟩ (ja (Ru vH TQ aF (ag 0) (ak (ag 1) aB))) (fun _ _ _ _ _=>(eH (i:=0) (show(["place","most"]:List af).Nodup by decide+kernel))) (fun _ _ _ _ _=>iA) (fun _ _ _ _ _=>(aL eE b7 (cu mQ aF (ak (ag 0) (ak (ag 1) aB)))))) aB)) b7)))),?_⟩
  try dsimp only[d5,d6,d7,d8]
  have q:Q (.str (bR ((t.cps.toList.map fun c=>au::gu (cg.cps.toList.idxOf c) (bp (cg.length-1))).flatten++[ay]))) H:=q
  have aH:((t.cps.toList.map fun c=>au::gu (cg.cps.toList.idxOf c) (bp (cg.length-1))).flatten++[ay]).length<=15000000:=aH
  rw[eU]at aH
  refine⟨_,I,o,c.l,aG,_,_,I,aD,T.cl,T.Ad,j8 ..,_,_,I,⟨eN (by omega),I⟩,_,_,I,I,?_⟩
  have XO:List.lookup (af.ofString "places") [(af.ofString "signs",V.str cg)]=aw:=by
   unfold List.lookup
   rw[show(af.ofString "places" == af.ofString "signs")=ay by decide+kernel]
   rfl
  refine⟨I,.inl ⟨_,I,o,aG,_,I,aD,XO,_,I,o,aG,cg,t,I,aD,hm,DX,fun r hH=>?_⟩⟩
  have acq:(idxs cg t).length=t.length:=by unfold idxs;rw[cI];exact hE
  refine⟨r,I,⟨_,bA aP⟩,fun cB ef=>?_⟩
  refine th (K:=K) (a:=r) (xs:=(idxs cg t).map fun k=>V.int ((k:Nat):Int)) (fun k=>V.str (bR (au::gu ((idxs cg t).getD k 0) (bp (cg.length-1))))) (fun ae=>∃z,ae=[z,J (V.int ((cg.length:Int)-1))]) (eN (by rw[cI];omega)) ⟨_,I⟩ ef (bA aP) ?_ ?_
  ·rintro k x av bV H1 ⟨z,rfl⟩ c9 R cf
   rw[gm]at av
   obtain⟨lS,rZ,rfl⟩:=Uf.mp av
   have e:(idxs cg t).getD k 0=lS:=by rw[eM,rZ];rfl
   rw[e]at cf
   have Et:=rZ
   unfold idxs at Et
   rw[gm]at Et
   obtain⟨ch,mr,rfl⟩:=Uf.mp Et
   have gW:ch∈t.cps.toList:=iL mr
   have Vr:ch∈cg.cps.toList:=lD (ig.mp hm ch gW)
   have iF:cg.cps.toList.idxOf ch<cg.length:=by
    have:=List.idxOf_lt_length_iff.mpr Vr
    rwa [hE]at this
   have bh:=CC (List.mem_map_of_mem (f:=fun c=>au::gu (cg.cps.toList.idxOf c) (bp (cg.length-1))) gW)
   rw[ep,kK]at bh
   have bg:(cg.length:Int)-1=((cg.length-1:Nat):Int):=by omega
   refine⟨_,I,_,I,cg.cps.toList.idxOf ch,cg.length-1,by rw[<-bg];rfl,by omega,by omega,.inr ⟨_,_,rfl,rfl,pW ?_,?_⟩⟩
   .rw[tW,fI,fI,kK];simp only[ep,List.length_nil];omega
   .rw[tW,kL];exact cf _ ⟨_,I⟩
  ·have e:(List.range ((idxs cg t).map fun k=>V.int ((k:Nat):Int)).length).map (fun k=>V.str (bR (au::gu ((idxs cg t).getD k 0) (bp (cg.length-1)))))=((t.cps.toList.map fun c=>au::gu (cg.cps.toList.idxOf c) (bp (cg.length-1))).map bR).map V.str:=by
    rw[cI]
    apply List.ext_getElem
    .unfold idxs;simp
    ·intro k aq az
     have bE:k<t.cps.toList.length:=by simpa using az
     have eZ:(idxs cg t)[k]?=J (cg.cps.toList.idxOf t.cps.toList[k]):=by unfold idxs;rw[gm,cV bE];rfl
     rw[i3,i3,i3,i3,List.getElem_range,eM,eZ];rfl
   rw[e]
   have ZU:=(c3 (o:=dC.lst ((idxs cg t).map fun k=>V.int ((k:Nat):Int))) hH).trans (c3 (o:=dC.lst (((t.cps.toList.map fun c=>au::gu (cg.cps.toList.idxOf c) (bp (cg.length-1))).map bR).map V.str)) ef)
   refine⟨_,cB,_,I,I,bA aP,by rw[CB];omega,.inr ⟨_,_,rfl,rfl,pW ?_,H,.refl ZU,?_⟩⟩
   .rw[rf,y9,fI,fI];omega
   .rw[rf,y9,kL];exact q
 |_=>cases aQ
noncomputable def g4:D->Bool
 |.tup [.int p,.int q]=>decide (0<q/\dX p q=1/\nW (e0 p q)/\p.natAbs<2^390/\q.natAbs<2^390)
 |_=>ay
theorem y6{b2:D->Bool}:∀(fs:List bq)(ns:List af)(n:af)(x:D),ns.length=fs.length->hi b2 fs ns n x=au->n∈ns
 |[],ns,n,x,_,h=>by rw[hi]at h;cases h
 |f::fs,[],n,x,aH,h=>by cases aH
 | f::fs,m::ns,n,x,aH,h=>by
  rw[hi]at h
  by_cases z:m=n
  .subst z;exact gU ..
  ·have h:(if J m=J n then _ else hi b2 fs ns n x)=au:=h
   rw[if_neg (fun e=>z (gk e))]at h
   exact eo _ (y6 fs ns n x (by simpa using aH) h)
theorem vW{b2:D->Bool}{x:D}:∀(fs:List bq)(ns:List af)(n:af),n∈ns->ns.length=fs.length->hi b2 fs ns n x=br b2 (fs.getD (ns.idxOf n) (.bare 0)) x
 |[],[],n,h,_=>by cases h
 |f::fs,[],n,h,_=>by cases h
 |[],m::ns,n,_,h=>by cases h
 | f::fs,m::ns,n,h,aH=>by
  rw[hi]
  show(if J m=J n then _ else hi b2 fs ns n x)=_
  by_cases z:m=n
  ·subst z
   rw[if_pos rfl,List.idxOf_cons_self];rfl
  .rw[if_neg (fun e=>z (gk e)),vW fs ns n ((dy.mp h).resolve_left (e3 z)) (by simpa using aH),List.idxOf_cons,beq_false_of_ne z];rfl
theorem fl.ge{c:fX}{X:List ah}{H:ar}:∀(fs:List bq){os:List ah}{i:Nat}{f:bq},fl c X H fs os->fs[i]?=J f->∃o,os[i]?=J o/\dn c X H f o
 |[],os,i,f,h,e=>by cases e
 |g::fs,os,0,f,h,e=>by
  obtain⟨eh,r,rfl,q,cc⟩:=h
  cases e
  exact⟨_,I,q⟩
 |g::fs,os,i+1,f,h,e=>by
  obtain⟨eh,r,rfl,q,cc⟩:=h
  obtain⟨v,aq,az⟩:=fl.ge (os:=r) fs cc (show fs[i]?=J f from e)
  exact⟨v,aq,az⟩
theorem Ac(val:Nat->af):∀n i,i<n->val i∈f9 val n
 |0,i,h=>by omega
 | n+1,i,h=>by
  unfold f9
  by_cases z:i=n
  ·subst z
   split
   .assumption
   .exact md _ (hq.mpr I)
  ·have:=Ac val n i (by omega)
   split
   .exact this
   .exact List.mem_append_left _ this
theorem Cv(val:Nat->af):∀n,(f9 val n).length=n->∀i j,i<j->j<n->val i≠val j
 |0,_,i,j,_,h=>by omega
 | n+1,h,i,j,zU,c4=>by
  unfold f9 at h
  have hle:=v3 val n
  by_cases z:val n∈f9 val n
  .rw[if_pos z]at h;omega
  ·rw[if_neg z,eU,i1]at h
   by_cases abv:j=n
   ·subst abv
    exact fun e=>z (by rw[<-e];exact Ac val j i zU)
   .exact Cv val n (by omega) i j zU (by omega)
theorem iB:2<=bW:=by decide
theorem vN{n:af}(h:jI ns=au)(e:ns[i]?=J n):ns.idxOf n=i:=by
 unfold jI at h
 simp only[jA,mc]at h
 have hd:=h.1.2.2
 have aE:i<ns.length:=by
  rcases jC i ns.length with z|z
  .exact z
  .rw[yz z]at e;cases e
 have bf:ns[i]=n:=by rw[cV aE]at e;exact gk e
 have hm:n∈ns:=by rw[<-bf];exact List.getElem_mem aE
 have hk:=yx hm
 have J8:ns[ns.idxOf n]=n:=List.getElem_idxOf hk
 have g:∀k(hk:k<ns.length),ns.getD k af.empty=ns[k]:=fun k hk=>by rw[eM,cV hk];rfl
 rcases Nat.lt_trichotomy (ns.idxOf n) i with z|z|z
 .exact absurd (by rw[g _ hk,g _ aE,J8,bf]) (Cv _ _ hd _ _ z aE)
 .exact z
 .exact absurd (by rw[g _ hk,g _ aE,J8,bf]) (Cv _ _ hd _ _ z hk)
theorem xc{K:bH}{l:List V}{x:V}(h:H p=J (.lst l)\/H p=J (.tup l))(e:l[j]?=J x)(q:Q x H):(sy K (.ref p) (.int ((j:Nat):Int)) H Q\/sA K (.ref p) (.int ((j:Nat):Int)) H Q)\/sz (.ref p) (.int ((j:Nat):Int)) H Q :=
 h.elim (fun T1 =>.inl (.inl ⟨_,_,_,_,rfl,rfl,bA T1,c5 e,q⟩)) (fun ft =>.inl (.inr ⟨_,_,_,_,rfl,rfl,ck ft,c5 e,q⟩))
theorem H7{dg:D->List Bool}{x:D}{M:Nat}:∀(fs:List bq)(ns:List af)(k:Nat)(n:af),n∈ns->ns.length=fs.length->oI dg fs ns k M n x=gu (k+ns.idxOf n) (bp M)++ej dg (fs.getD (ns.idxOf n) (.bare 0)) x
 |[],[],k,n,h,_=>by cases h
 |f::fs,[],k,n,h,_=>by cases h
 |[],m::ns,k,n,_,h=>by cases h
 | f::fs,m::ns,k,n,h,aH=>by
  rw[oI]
  show(if J m=J n then _ else oI dg fs ns (k+1) M n x)=_
  by_cases z:m=n
  ·subst z
   rw[if_pos rfl,List.idxOf_cons_self];rfl
  .rw[if_neg (fun e=>z (gk e)),H7 fs ns (k+1) n ((dy.mp h).resolve_left (e3 z)) (by simpa using aH),List.idxOf_cons,beq_false_of_ne z,show k+1+ns.idxOf n=k+(ns.idxOf n+1) by omega];rfl
theorem Od(nb:et mg)(T:o3 K (c.t 1))(F:dV K "written" "Choice.written" yE f fd)(mQ:bx P w K mg base 2 "fixed_row" ["n","most"] xG)(kg:jg P w K mg base (2*n+4) "written" ["self","value"] (g5 c) (jb has b2 dg c n)):di P w K mg base eb (2*n+4+1) f fd ["self","value"] (jb has b2 dg c (n+1) (.t 1)):=by
 refine F.hJ GR (fun bD A _ s H vs Q E aF h=>?_)
 obtain⟨o,eO,v,d,rfl,hs,eJ,aU,eg,hd,oq,cG,q⟩:=h
 obtain⟨ns,fs,rfl⟩:=y1 hs
 obtain⟨_,aG,da,cm,os,aD,_,_,g1,g2,fN⟩:=eJ
 obtain⟨gO,lR,i9⟩:=aU.two
 have ku:fA fs<=n:=by rw[aO]at eg;omega
 rw[br,if_neg (by decide)]at oq
 unfold uc at oq
 split at oq
 ·rename_i m x
  have hm:=y6 fs ns _ _ lR oq
  rw[vW fs ns _ hm lR]at oq
  obtain⟨t,_,rfl,e,⟨_,_,rfl,⟨rfl,_⟩,AU,_,rfl,av,rfl⟩,_⟩:=hd
  have oe:ej dg (.two 1 ns fs) (.tup [.str m,x])=gu (ns.idxOf m) (bp (fs.length-1))++ej dg (fs.getD (ns.idxOf m) (.bare 0)) x:=by
   rw[ej,if_neg (by decide)]
   show oI dg fs ns 0 _ m x=_
   rw[H7 fs ns 0 m hm lR,Nat.zero_add]
  rw[oe]at cG q
  have hk:=yx hm
  have Ew:ns[ns.idxOf m]?=J m:=by rw[cV hk,List.getElem_idxOf hk]
  have Eu:ns.idxOf m<fs.length:=by omega
  have aQ:=cV Eu
  rw[eM,aQ]at oq cG q
  obtain⟨sr,nt,wC⟩:=fl.ge fs fN aQ
  obtain⟨r4,Es⟩:=i9.get aQ
  obtain⟨g6,g8,gn,li⟩:=dn.written _ wC
  have a0:∀(x:V)(r:List V),dv (x::r) 0=J x:=fun x r=>c5 (j:=0) rfl
  have a1:∀(x y:V)(r:List V),dv (x::y::r) 1=J y:=fun x y r=>c5 (j:=1) rfl
  have EB:=(m6 gO).1
  refine⟨_,(aS (b0 2 GR.bC (ki PySem.F.plainAttrs_list PySem.F.slot_list_index PySem.F.type_list_index HJ (hU (ag 0) I) (ak (b8 cb (ag 1) aA) aB)))
  (aY (bB (aL eE (cu mQ aF (ak (ag 2) (ak (aL gB (bY ec rfl nb.d2 d4 (ak (hU (ag 0) rfl) aB)) aA) aB)) (hk:=by omega)) (kM kg aF (b8 cb (hU (ag 0) rfl) (ag 2)) (ak (b8 cb (ag 1) aA) aB) (hk:=by omega)))))),?_⟩
  try dsimp only[d5,d6,d7,d8]
  refine⟨_,I,o,c.t 1,aG,_,_,I,aD,T.cl,T.uL,j8 ..,.inl ⟨I,_,bA g1⟩,_,I,.inl (.inr ⟨_,_,_,_,I,I,ck e,a0 _ _,da,ns,m,ns.idxOf m,I,I,g1,Ew,(fun j c4 hw=>by have:=vN gO hw;omega),by omega,?_⟩)⟩
  have gz:(((ns.map V.str).length:Nat):Int)-1=((fs.length-1:Nat):Int):=by rw[cI];omega
  have ao:bp (fs.length-1)<=16000000:=by
   have:=dp (eU ▸ Nat.le_add_right _ _) cG
   rw[kK]at this
   omega
  refine⟨_,I,_,I,o,c.t 1,aG,_,_,I,aD,T.cl,T.uL,j8 ..,_,_,I,.inl ⟨_,bA g1,I⟩,_,_,I,I,ns.idxOf m,fs.length-1,by rw[<-gz];rfl,by omega,ao,?_⟩
  refine⟨_,I,o,c.t 1,aG,_,_,I,aD,T.cl,T.sh,sf _ _ _ _ wu,_,I,xc (.inl g2) (show(os.map V.ref)[ns.idxOf m]?=J (V.ref sr) by rw[gm,nt];rfl) ⟨sr,slot _,g6,g8,rfl,gn,li,_,rfl,.inl (.inr ⟨_,_,_,_,rfl,rfl,ck e,a1 _ _ _,sr,_,AU,x,rfl,rfl,wC,r4,by omega,av,oq,?_,?_⟩)⟩⟩
  ·rw[eU]at cG
   exact dp (Nat.le_add_left _ _) cG
  ·refine .inr ⟨_,_,I,I,?_,H,.refl (c2 _),?_⟩
   ·rw[fI,fI,<-eU]
    exact pW (dp cG (by decide))
   ·rw[<-kL]at q
    exact q
 .cases oq
theorem Tg:∀(n:Nat){p q:Int},q.toNat<=n->0<=q->(0<q\/0<=p)->dX p q∣p/\dX p q∣q/\0<=dX p q:=by
 intro n
 induction n with
 |zero =>
  intro p q bt aq az
  obtain rfl:q=0:=by omega
  rw[tZ]
  exact⟨Int.dvd_refl _,Int.dvd_zero _,az.elim (fun z=>by omega) id⟩
 | succ n cp =>
  intro p q bt aq az
  by_cases aT:q=0
  ·subst aT
   rw[tZ]
   exact⟨Int.dvd_refl _,Int.dvd_zero _,az.elim (fun z=>by omega) id⟩
  ·have aT:0<q:=by omega
   rw[wa aT]
   have ip:=fp p (Int.ne_of_gt aT)
   have b5:=fR p aT
   obtain⟨eW,hr,rH⟩:=cp (p:=q) (q:=p%q) (by omega) ip (.inr aq)
   refine⟨?_,eW,rH⟩
   have e:=Int.mul_ediv_add_emod p q
   have:dX q (p%q)∣q*(p/q)+p%q:=Int.dvd_add (Int.dvd_mul_of_dvd_left eW) hr
   rwa [e]at this
theorem Jh{p q:Int}(aT:0<q)(h:Int.gcd p q=1):dX p q=1:=by
 obtain⟨eW,hr,rH⟩:=Tg q.toNat (cQ _) (Int.le_of_lt aT) (.inl aT) (p:=p)
 have:=Int.dvd_coe_gcd eW hr
 rw[h]at this
 exact Int.eq_one_of_dvd_one rH this
theorem RL:∀(n:Nat){p q:Int},q.toNat<=n->0<=q->q<p->dX p q=1->Tail (e0 p q)/\qx (e0 p q)=(p,q):=by
 have base:∀{p:Int},dX p 0=1->Tail (e0 p 0)/\qx (e0 p 0)=(p,0):=fun{p}h=>by
  rw[tZ]at h
  subst h
  rw[nY]
  exact⟨⟨(fun x av=>nomatch av),(fun z=>absurd I z)⟩,I⟩
 intro n
 induction n with
 |zero =>
  intro p q bt aq _ hc
  obtain rfl:q=0:=by omega
  exact base hc
 | succ n cp =>
  intro p q bt aq Wg hc
  by_cases aT:q=0
  .subst aT;exact base hc
  have aT:0<q:=by omega
  rw[wa aT]at hc
  have ip:=fp p (Int.ne_of_gt aT)
  have b5:=fR p aT
  have e:=Int.mul_ediv_add_emod p q
  have t3:1<=p/q:=Int.le_ediv_of_mul_le aT (by omega)
  obtain⟨t,f⟩:=cp (p:=q) (q:=p%q) (by omega) ip b5 hc
  rw[lF aT]
  refine⟨⟨fun x av=>?_,fun z=>?_⟩,?_⟩
  ·rcases dy.mp av with y|y
   .rw[y];exact t3
   .exact t.1 x y
  ·by_cases aF:e0 q (p%q)=[]
   ·have Wh:p%q=0:=by
     by_cases y:p%q=0
     .exact y
     .rw[lF (by omega)]at aF;cases aF
    rw[Wh,tZ]at hc
    subst hc
    have:(p/1::e0 1 (p%1)).getLast z=p/1:=by simp only[aF,List.getLast_singleton]
    rw[this,Int.ediv_one];omega
   .rw[List.getLast_cons aF];exact t.2 aF
  ·rw[qx,f]
   show(p/q*q+p%q,q)=(p,q)
   rw[Int.mul_comm,e]
theorem RM{p q:Int}(aT:0<q)(hc:dX p q=1):Good (e0 p q)/\qx (e0 p q)=(p,q):=by
 rw[wa aT]at hc
 have ip:=fp p (Int.ne_of_gt aT)
 have b5:=fR p aT
 obtain⟨t,f⟩:=RL _ (cQ _) ip b5 hc
 rw[lF aT]
 refine⟨t,?_⟩
 rw[qx,f]
 show(p/q*q+p%q,q)=(p,q)
 rw[Int.mul_comm,Int.mul_ediv_add_emod]
theorem CU:∀(k:Nat){p q:Int},0<=q->q<2^k->(e0 p q).length<=2*k+1:=by
 intro k
 induction k with
 |zero =>
  intro p q bt aq
  have:q=0:=by omega
  subst this
  rw[nY];exact UF _
 | succ k cp =>
  intro p q bt aq
  by_cases aT:q=0
  .subst aT;rw[nY];exact UF _
  ·have aT:0<q:=by omega
   rw[lF aT,ep]
   have ip:=fp p (Int.ne_of_gt aT)
   have b5:=fR p aT
   generalize p%q=r at ip b5
   by_cases aF:r=0
   .subst aF;rw[nY];simp
   ·have aF:0<r:=by omega
    rw[lF aF,ep]
    have t0:=fp q (Int.ne_of_gt aF)
    have t1:=fR q aF
    have gi:=Int.mul_ediv_add_emod q r
    have t3:1<=q/r:=Int.le_ediv_of_mul_le aF (by omega)
    have mH:r*1<=r*(q/r):=Int.mul_le_mul_of_nonneg_left t3 (by omega)
    have e:(2:Int)^(k+1)=2^k*2:=Int.pow_succ ..
    have:=cp (p:=r) (q:=q%r) t0 (by omega)
    omega
theorem Iq{B:Int}:∀(n:Nat){p q:Int},q.toNat<=n->0<=q->-B<=p->p<=B->q<=B->∀x∈e0 p q,-B<=x/\x<=B:=by
 intro n
 induction n with
 |zero =>
  intro p q bt aq _ _ _ x av
  have:q=0:=by omega
  subst this
  rw[nY]at av;cases av
 | succ n cp =>
  intro p q bt aq az bE cz x av
  by_cases aT:q=0
  .subst aT;rw[nY]at av;cases av
  ·have aT:0<q:=by omega
   rw[lF aT]at av
   rcases dy.mp av with z|z
   ·subst z
    constructor
    ·refine Int.le_ediv_of_mul_le aT ?_
     have : -B*q<=-B*1:=Int.mul_le_mul_of_nonpos_left (by omega) (by omega)
     omega
    ·refine Int.ediv_le_of_le_mul aT ?_
     have:B*1<=B*q:=Int.mul_le_mul_of_nonneg_left (by omega) (by omega)
     omega
   ·have ip:=fp p (Int.ne_of_gt aT)
    have b5:=fR p aT
    exact cp (by omega) ip (by omega) cz (by omega) x z
def x1(x y:Int):Prop:=x.natAbs<2^390/\y.natAbs<2^390
theorem x1.ok{p q:Int}(h:x1 p q)(aT:0<q):(e0 p q).length<=10000/\∀x∈e0 p q,x.natAbs<2^1000:=by
 obtain⟨aq,az⟩:=h
 have e:((2^390:Nat):Int)=(2:Int)^390:=by rw[Int.natCast_pow];rfl
 have pG:q<2^390:=by omega
 refine⟨dp (CU 390 (Int.le_of_lt aT) pG) (by decide),fun x av=>?_⟩
 have:=Iq (B:=2^390) q.toNat (cQ _) (Int.le_of_lt aT) (by omega) (by omega) (by omega) x av
 exact Nat.lt_of_le_of_lt (m:=2^390) (by omega) (Nat.pow_lt_pow_right (by decide) (by decide))
theorem Cp{d:D}(h:g4 d=au):∃p q:Int,d=.tup [.int p,.int q]/\0<q/\dX p q=1/\x1 p q/\(e0 p q).length<=800/\nW (e0 p q):=by
 unfold g4 at h
 split at h
 ·rename_i p q
  obtain⟨aq,az,bE,cz,dY⟩:=lD h
  have e:((2^390:Nat):Int)=(2:Int)^390:=by rw[Int.natCast_pow];rfl
  have pG:q<2^390:=by omega
  exact⟨p,q,I,aq,az,⟨cz,dY⟩,dp (CU 390 (Int.le_of_lt aq) pG) (by decide),bE⟩
 .cases h
noncomputable def jy:D->List Bool
 |.tup [.int p,.int q]=>ue (e0 p q)
 |_=>[]
theorem NY(F:dV K "written" "Fraction.written" yJ f fd)(p8:bx P w K mg base 1 "steps_of" ["fraction"] AH)(vA:bx P w K mg base 4 "row_of_steps" ["steps"] FJ):di P w K mg base eb 5 f fd ["self","value"] (jb has g4 jy c n (.b 3)):=by
 refine F.hJ NW (fun bD A _ s H vs Q E aF h=>?_)
 obtain⟨o,eO,v,d,rfl,hs,eJ,aU,eg,hd,aQ,aH,q⟩:=h
 have:=qj hs
 subst this
 rw[gg]at aQ
 have aQ:g4 d=au:=by cases d<;>exact aQ
 obtain⟨p,fw,rfl,aq,az,bE,cz,dY⟩:=Cp aQ
 rw[ej]at q
 obtain⟨a,vs,rfl,c6,⟨_,_,rfl,rfl,_,_,rfl,rfl,rfl⟩,iQ⟩:=hd
 refine⟨_,(aY (bB (cu vA aF (ak (cu p8 aF (ak (ag 1) aB)) aB)))),?_⟩
 try dsimp only[d5,d6,d7,d8]
 refine⟨_,I,a,p,fw,I,c6,Int.le_of_lt aq,dp (bE.ok aq).1 (by decide),(bE.ok aq).2,fun r hH=>?_⟩
 exact⟨r,_,I,aP,by rw[lF aq];exact List.cons_ne_nil _ _,by omega,dY,H,.refl (c3 hH),q⟩
noncomputable def dw:D->Bool
 |.tup [.int p,.int q]=>decide (0<q/\dX p q=1/\nW (e0 p q))
 |_=>ay
theorem Tb{d:D}(h:g4 d=au):dw d=au:=by
 obtain⟨p,q,rfl,aq,az,bE,cz,dY⟩:=Cp h
 exact eY ⟨aq,az,dY⟩
theorem Oc(nb:et mg)(F:dV K "fits" "Fraction.fits" yI f fd)(l8:bx P w K mg base 1 "is_number" ["value"] xI)(vw:bx P w K mg base 3 "has_fraction_row" ["fraction"] FA):di P w K mg base eb 4 f fd ["self","value"] (iS has dw c n (.b 3)):=by
 refine F.hJ Oi (fun bD A _ s H vs Q E aF h=>?_)
 obtain⟨o,eO,v,d,rfl,hs,eJ,aU,eg,hd,fU,q⟩:=h
 have:=qj hs
 subst this
 rw[gg]at q
 have q:Q (.aC (dw d)) H:=by cases d<;>exact q
 refine⟨_,(aS (cy (e2.pt (ih (hS (fS (bY fH I nb.eD eA (ak (ag 1) (ak (fz (v :=.ty "tuple") I nb.nI m5 I) aB))))) (iM (bZ nB (bY ec I nb.d2 d4 (ak (ag 1) aB)) aA)))) (aY (bB gJ)) cx)
  (aY (bB (gV (cu l8 aF (ak (b8 cb (ag 1) aA) aB)) (gV (cu l8 aF (ak (b8 cb (ag 1) aA) aB)) (hT (cu vw aF (ak (ag 1) aB)))))))),_,rfl,.inl ⟨_,_,_,_,rfl,hd.ty,bO K _ (by decide),_,rfl,?_⟩⟩
 have no:dw d=ay->gf H H (Q (.aC ay)):=fun e=>⟨H,.refl (c2 _),e ▸ q⟩
 have a0:∀(x:V)(r:List V),dv (x::r) 0=J x:=fun x r=>c5 (j:=0) rfl
 have a1:∀(x y:V)(r:List V),dv (x::y::r) 1=J y:=fun x y r=>c5 (j:=1) rfl
 cases d with
 | tup ds =>
  obtain⟨a,vs,rfl,c6,cJ,iQ⟩:=hd
  have cG:=cU.len ds cJ
  refine bT ⟨_,I,_,_,I,.inr ⟨_,ck c6,I⟩,I,_,I,?_⟩
  rcases ds with _|⟨kp,_|⟨eW,_|⟨hr,ds⟩⟩⟩
  ·obtain rfl:vs=[]:=cJ
   exact bN (no I)
  ·obtain⟨v0,_,rfl,_,rfl⟩:=cJ
   exact bN (no (by cases kp<;>rfl))
  ·obtain⟨v0,_,rfl,bt,v1,_,rfl,aq,rfl⟩:=cJ
   refine la I ?_
   refine⟨_,I,.inl (.inr ⟨_,_,_,_,I,I,ck c6,a0 _ _,v0,kp,I,bt,isNum kp,I,?_⟩)⟩
   cases eI:isNum kp with
   |false=>exact bT (no (by cases kp<;>first|rfl|cases eI))
   | true =>
    refine bN ⟨_,I,.inl (.inr ⟨_,_,_,_,I,I,ck c6,a1 _ _ _,v1,eW,I,aq,isNum eW,I,?_⟩)⟩
    cases ba:isNum eW with
    |false=>exact bT (no (by cases kp<;>first|(cases eI;done)|(cases eW<;>first|rfl|cases ba)))
    | true =>
     cases kp with
     | int p =>
      cases eW with
      |int fw =>
       obtain rfl:v0=.int p:=bt
       obtain rfl:v1=.int fw:=aq
       have ao:x1 p fw:=⟨fU.1,fU.2.1⟩
       exact bN ⟨_,I,a,p,fw,I,c6,fun aT=>⟨dp (ao.ok aT).1 (by decide),(ao.ok aT).2⟩,H,.refl (c2 _),q⟩
      |_=>cases ba
     |_=>cases eI
  ·obtain⟨v0,_,rfl,_,v1,_,rfl,_,v2,r,rfl,_,_⟩:=cJ
   exact bN (no (by cases kp<;>first|rfl|(cases eW<;>rfl)))
 |_=>exact bN (no I)
theorem OH(nb:et mg)(T:o3 K (c.t 1))(F:dV K "fits" "Choice.fits" yh f fd)(iX:jg P w K mg base (2*n+4) "fits" ["self","value"] (g5 c) (iS has b2 c n)):di P w K mg base eb (2*n+4+1) f fd ["self","value"] (iS has b2 c (n+1) (.t 1)):=by
 refine F.hJ OQ (fun bD A _ s H vs Q E aF h=>?_)
 obtain⟨o,eO,v,d,rfl,hs,eJ,aU,eg,hd,fU,q⟩:=h
 obtain⟨ns,fs,rfl⟩:=y1 hs
 obtain⟨_,aG,da,cm,os,aD,_,_,g1,g2,fN⟩:=eJ
 obtain⟨gO,lR,i9⟩:=aU.two
 have ku:fA fs<=n:=by rw[aO]at eg;omega
 have EB:=(m6 gO).1
 rw[br,if_neg (by decide)]at q
 refine⟨_,(aS (cy (e2.pt (ih (hS (fS (bY fH I nb.eD eA (ak (ag 1) (ak (fz (v :=.ty "tuple") I nb.nI m5 I) aB))))) (ih (bZ nB (bY ec I nb.d2 d4 (ak (ag 1) aB)) aA) (iM (zb (QQ (Fw aF)) (b8 cb (ag 1) aA) (hU (ag 0) I) (by with_unfolding_all rfl)))))) (aY (bB gJ)) cx)
  (aY (bB (kM iX aF (b8 cb (hU (ag 0) rfl) (ki PySem.F.plainAttrs_list PySem.F.slot_list_index PySem.F.type_list_index HJ (hU (ag 0) rfl) (ak (b8 cb (ag 1) aA) aB))) (ak (b8 cb (ag 1) aA) aB) (hk:=by omega))))),_,rfl,.inl ⟨_,_,_,_,rfl,hd.ty,bO K d (by decide),_,rfl,?_⟩⟩
 have no:uc (hi b2 fs ns) d=ay->gf H H (Q (.aC ay)):=fun e=>⟨H,.refl (c2 _),e ▸ q⟩
 have a0:∀(x:V)(r:List V),dv (x::r) 0=J x:=fun x r=>c5 (j:=0) rfl
 have a1:∀(x y:V)(r:List V),dv (x::y::r) 1=J y:=fun x y r=>c5 (j:=1) rfl
 cases d with
 | tup ds =>
  obtain⟨a,vs,rfl,c6,cJ,iQ⟩:=hd
  refine bT ⟨_,I,_,_,I,.inr ⟨_,ck c6,I⟩,I,_,I,?_⟩
  rcases ds with _|⟨kp,_|⟨x,_|⟨hr,ds⟩⟩⟩
  ·obtain rfl:vs=[]:=cJ
   exact bN (no I)
  ·obtain⟨v0,_,rfl,_,rfl⟩:=cJ
   exact bN (no (by cases kp<;>rfl))
  ·obtain⟨v0,_,rfl,bt,AU,_,rfl,av,rfl⟩:=cJ
   refine la I ?_
   refine⟨_,I,.inl (.inr ⟨_,_,_,_,I,I,ck c6,a0 _ _,_,I,o,c.t 1,aG,_,_,I,aD,T.cl,T.uL,j8 ..,da,ns,kp,I,bA g1,bt,_,I,?_⟩)⟩
   cases gn:inD ns kp with
   | false =>
    refine bN (no ?_)
    cases kp with
    |str m =>
     show hi b2 fs ns m x=ay
     rw[<-Bool.not_eq_true]
     intro aQ
     have hm:=y6 fs ns m x lR aQ
     have:inD ns (.str m)=au:=List.any_eq_true.mpr ⟨m,hm,by simp⟩
     rw[gn]at this;cases this
    |_=>rfl
   | true =>
    cases kp with
    | str m =>
     obtain⟨rfl,_⟩:=bt
     have hm:m∈ns:=by
      obtain⟨cv,hm,em⟩:=List.any_eq_true.mp (show(ns.any fun y=>y == m)=au by simpa [inD] using gn)
      have em:cv=m:=by simpa using em
      rw[<-em];exact hm
     have hk:=yx hm
     have Ew:ns[ns.idxOf m]?=J m:=by rw[cV hk,List.getElem_idxOf hk]
     have Eu:ns.idxOf m<fs.length:=by omega
     have aN:=cV Eu
     have q:Q (.aC (hi b2 fs ns m x)) H:=q
     rw[vW fs ns m hm lR,eM,aN]at q
     obtain⟨sr,nt,wC⟩:=fl.ge fs fN aN
     obtain⟨r4,Es⟩:=i9.get aN
     obtain⟨g6,g8,Uh,li⟩:=dn.fits _ wC
     refine bT ⟨_,I,o,c.t 1,aG,_,_,I,aD,T.cl,T.sh,sf _ _ _ _ wu,_,I,o,c.t 1,aG,_,_,I,aD,T.cl,T.uL,j8 ..,.inl ⟨I,_,bA g1⟩,_,I,.inl (.inr ⟨_,_,_,_,I,I,ck c6,a0 _ _,da,ns,m,ns.idxOf m,I,I,g1,Ew,(fun j c4 hw=>by have:=vN gO hw;omega),by omega,?_⟩)⟩
     exact xc (.inl g2) (show(os.map V.ref)[ns.idxOf m]?=J (V.ref sr) by rw[gm,nt];rfl) ⟨sr,slot _,g6,g8,rfl,Uh,li,_,rfl,.inl (.inr ⟨_,_,_,_,rfl,rfl,ck c6,a1 _ _ _,sr,_,AU,x,rfl,rfl,wC,r4,by omega,av,fU.2.1,H,.refl (c2 _),q⟩)⟩
    |_=>cases gn
  ·obtain⟨v0,_,rfl,_,v1,_,rfl,_,v2,r,rfl,_,_⟩:=cJ
   exact bN (no (by cases kp<;>rfl))
 |_=>exact bN (no I)
noncomputable def Ax{α:Type}(a0 a1 a2 a3 a4 a5 a6 a7 a8 a9 a10:α):gT->α
 |.b 0=>a0
 |.b 1=>a1
 |.b 2=>a2
 |.b _=>a3
 |.s=>a4
 |.l=>a5
 |.o 0=>a6
 |.o 1=>a7
 |.o _=>a8
 |.t 0=>a9
 |.t _=>a10
theorem v7{p:gT->Prop}(bt:p (.b 0))(aq:p (.b 1))(az:p (.b 2))(bE:p (.b 3))(cz:p .s)(dY:p .l)(kT:p (.o 0))(zE:p (.o 1))(DY:p (.o 2))(fM:p (.t 0))(ab0:p (.t 1)):∀i,p i
 |.b k=>by rcases ni k with rfl|rfl|rfl|rfl<;>assumption
 |.s=>cz
 |.l=>dY
 |.o k=>by rcases og k with rfl|rfl|rfl<;>assumption
 |.t k=>by rcases rM k with rfl|rfl<;>assumption
def tE(K:bH)(c:fX)(m:af)(q:gT->af)(st:gT->bG)(aI:List af):Prop:=∀i,MethAt K (g5 c i) m (q i) (st i) aI
theorem hV{K:bH}{C:ah}{st:bG}{sp:cT}(M:MethAt K C m q st aI)(h:∀f fd,dV K m q st f fd->di P w K mg base eb k f fd aI sp):tC P w K mg base k C m aI sp/\h8 K C:=by
 obtain⟨f,fd,G,ao,hm⟩:=M.ex
 exact⟨⟨f,fd,h f fd G,ao,hm⟩,M.cl⟩
structure BO(K:bH)(c:fX):Prop where
 Mt:vK K c.s
 Mp:tj K c.l
 u5:∀k,lA K (c.o k)
 AN:∀k,o3 K (c.t k)
noncomputable def hasAll:gT->Bool:=fun _=>au
noncomputable def C3:gT->af:=Ax "Nothing.fits" "Truth.fits" "Whole.fits" "Fraction.fits" "Span.fits" "Letters.fits" "Maybe.fits" "Many.fits" "Turned.fits" "Record.fits" "Choice.fits"
noncomputable def C5:gT->bG:=Ax yc yk yj yI yr ye yl ys yf yg yh
noncomputable def Cu:gT->af:=Ax "Nothing.written" "Truth.written" "Whole.written" "Fraction.written" "Span.written" "Letters.written" "Maybe.written" "Many.written" "Turned.written" "Record.written" "Choice.written"
noncomputable def Cz:gT->bG:=Ax yL yG yF yJ yb yM yH yd yB yC yE
theorem Rd(nb:et mg)(L:BO K c)(S:tE K c "fits" C3 C5 ["self","value"])(wz:eT mg "MOST_VALUES" (.int 60))(wy:eT mg "LONGEST_TEXT" (.int 200))(l8:bx P w K mg base 1 "is_number" ["value"] xI)(q2:bx P w K mg base 2 "has_whole_row" ["n"] FC)(mS:bx P w K mg base 1 "made_of" ["text","signs"] xK)(vw:bx P w K mg base 3 "has_fraction_row" ["fraction"] FA):∀n,jg P w K mg base (2*n+4) "fits" ["self","value"] (g5 c) (iS hasAll dw c n):=by
 intro n
 induction n with
 |zero=>exact fun i=>⟨HK (S i) (fun vs H Q E z=>by obtain⟨o,f,_,_,_,_,_,_,h,_⟩:=z;have:=pe f;omega),(S i).cl⟩
 |succ n cp=>exact v7 (hV (S _) fun _ _ G=>(OE G).mono (by omega)) (hV (S _) fun _ _ G=>(Pd G).mono (by omega)) (hV (S _) fun _ _ G=>(OV G l8 q2).mono (by omega)) (hV (S _) fun _ _ G=>(Oc nb G l8 vw).mono (by omega)) (hV (S _) fun _ _ G=>(PE L.Mt G l8).mono (by omega)) (hV (S _) fun _ _ G=>(OG nb wy L.Mp G mS).mono (by omega)) (hV (S _) fun _ _ G=>(Pe nb (L.u5 0) G cp).mono (by omega)) (hV (S _) fun _ _ G=>(PF nb wz (L.u5 1) G cp).mono (by omega)) (hV (S _) fun _ _ G=>(OD (L.u5 2) G cp).mono (by omega)) (hV (S _) fun _ _ G=>(OW nb (L.AN 0) G cp).mono (by omega)) (hV (S _) fun _ _ G=>(OH nb (L.AN 1) G cp).mono (by omega))
theorem Qc(nb:et mg)(L:BO K c)(S:tE K c "written" Cu Cz ["self","value"])(vH:tC P w K mg base 1 c.l "places" ["self","text"] (FI c.l))(p9:bx P w K mg base 3 "whole_row" ["n"] yN)(mQ:bx P w K mg base 2 "fixed_row" ["n","most"] xG)(mT:bx P w K mg base 1 "turned_row" ["row"] vF)(p8:bx P w K mg base 1 "steps_of" ["fraction"] AH)(vA:bx P w K mg base 4 "row_of_steps" ["steps"] FJ):∀n,jg P w K mg base (2*n+4) "written" ["self","value"] (g5 c) (jb hasAll g4 jy c n):=by
 intro n
 induction n with
 |zero=>exact fun i=>⟨HK (S i) (fun vs H Q E z=>by obtain⟨o,f,_,_,_,_,_,_,h,_⟩:=z;have:=pe f;omega),(S i).cl⟩
 |succ n cp=>exact v7 (hV (S _) fun _ _ G=>(N1 G).mono (by omega)) (hV (S _) fun _ _ G=>(Ol G).mono (by omega)) (hV (S _) fun _ _ G=>(N8 G p9).mono (by omega)) (hV (S _) fun _ _ G=>(NY G p8 vA).mono (by omega)) (hV (S _) fun _ _ G=>(Om L.Mt G mQ).mono (by omega)) (hV (S _) fun _ _ G=>(N2 nb L.Mp G (S .l).cl vH mQ).mono (by omega)) (hV (S _) fun _ _ G=>(Oo nb (L.u5 0) G cp).mono (by omega)) (hV (S _) fun _ _ G=>(OF nb (L.u5 1) G cp).mono (by omega)) (hV (S _) fun _ _ G=>(N9 (L.u5 2) G mT cp).mono (by omega)) (hV (S _) fun _ _ G=>(Oa nb (L.AN 0) G cp).mono (by omega)) (hV (S _) fun _ _ G=>(Od nb (L.AN 1) G mQ cp).mono (by omega))
theorem dn.row{c:fX}(f:bq)(h:dn c X H f o):∃aG fs,H o=J (.ins (g5 c (slot f)) aG fs)/\fs.lookup (af.ofString "row")=aw :=
 dn.ins (m:=af.ofString "row") (by decide+kernel) (by decide+kernel) (by decide+kernel) (by decide+kernel) (by decide+kernel) (by decide+kernel) f h
theorem Sp{K:bH}{C:ah}{st:bG}{sp:cT}(M:MethAt K C m q st aI)(h:∀f fd,dV K m q st f fd->di P w K mg base (kh P w) k f fd aI sp):GJ P w K mg base k C m aI sp/\h8 K C:=by
 obtain⟨f,fd,G,ao,hm⟩:=M.ex
 exact⟨⟨f,fd,h f fd G,ao,hm⟩,M.cl⟩
mutual
theorem t7:∀(f:bq)(d:D),br g4 f d=au->br dw f d=au
 | .bare k,d,h=>by
  rw[gg]at h ⊢
  rcases ni k with rfl|rfl|rfl|rfl
  .cases d<;>exact h
  .cases d<;>exact h
  .cases d<;>exact h
  ·have h:g4 d=au:=by cases d<;>exact h
   have:=Tb h
   cases d<;>exact this
 |.sp a b,d,h=>by rw[br]at h ⊢;exact h
 |.le s,d,h=>by rw[br]at h ⊢;exact h
 | .one k f,d,h=>by
  rw[br]at h ⊢
  unfold Ak at h ⊢
  rcases og k with rfl|rfl|rfl
  ·rw[if_pos rfl]at h ⊢
   unfold sg at h ⊢
   split at h
   .rfl
   .exact t7 f _ h
   .cases h
  ·rw[if_neg (by decide),if_pos rfl]at h ⊢
   unfold uK at h ⊢
   split at h
   ·rename_i ds
    have h:=kk.mp h
    exact kk.mpr ⟨h.1,ig.mpr fun x av=>t7 f x (ig.mp h.2 x av)⟩
   .cases h
  ·rw[if_neg (by decide),if_neg (by decide)]at h ⊢
   exact t7 f d h
 | .two k ns fs,d,h=>by
  rw[br]at h ⊢
  by_cases z:k=0
  ·rw[if_pos z]at h ⊢
   cases d with
   |tup ds=>exact Jd fs ds h
   |_=>cases h
  ·rw[if_neg z]at h ⊢
   unfold uc at h ⊢
   split at h
   .exact Je fs ns _ _ h
   .cases h
theorem Jd:∀(fs:List bq)(ds:List D),fL g4 fs ds=au->fL dw fs ds=au
 |[],ds,h=>by rw[fL]at h ⊢;exact h
 |f::fs,[],h=>by rw[fL]at h;cases h
 |f::fs,d::ds,h=>by
  rw[fL]at h ⊢
  have h:(br g4 f d&&fL g4 fs ds)=au:=h
  obtain⟨aq,az⟩:=kk.mp h
  exact kk.mpr ⟨t7 f d aq,Jd fs ds az⟩
theorem Je:∀(fs:List bq)(ns:List af)(n:af)(x:D),hi g4 fs ns n x=au->hi dw fs ns n x=au
 |[],ns,n,x,h=>by rw[hi]at h;cases h
 | f::fs,ns,n,x,h=>by
  rw[hi]at h ⊢
  by_cases z:ns.head?=J n
  ·rw[if_pos z]at h ⊢
   exact t7 f x h
  ·rw[if_neg z]at h ⊢
   exact Je fs ns.tail n x h
end
inductive L7(gX:ah)(c:fX)(n:Nat)(vs:List V)(H:ar)(Q:bP)(E:cC):Prop where
 |mk (o:ah) (f:bq) (v:V) (d:D) (bt:vs=[.ref o,v]) (aq:dn c [] H f o) (az:nC hasAll f) (bE:aO f<=n) (cz:dI H d v) (dY:iR d) (kT:((br g4 f d=au/\(ej jy f d).length<=15000000/\Q (.str (bR (ej jy f d))) H)\/(br dw f d=ay/\E (.ref gX) aw H))):L7 gX c n vs H Q E
def FK(gX:ah)(c:fX)(n:Nat):cT:=fun vs H Q E=>L7 gX c n vs H Q E
theorem PG{f:ah}(xT:PySem.W.excIn K gX rE "ValueError.__new__"=au)(ug:mg "NoFit"=J (.ref gX))(F:dV K "row" "Form.row" j0 f fd)(iX:jg P w K mg base (2*n+4) "fits" ["self","value"] (g5 c) (iS hasAll dw c n))(kg:jg P w K mg base (2*n+4) "written" ["self","value"] (g5 c) (jb hasAll g4 jy c n)):di P w K mg base (kh P w) (2*n+4+1) f fd ["self","value"] (FK gX c n):=by
 refine F.X0 PV (fun bD A _ s H vs Q E aF h=>?_)
 obtain⟨o,eO,v,d,rfl,eJ,aU,eg,hd,fU,q⟩:=h
 obtain⟨g6,g8,gn,li⟩:=dn.fits eO eJ
 obtain⟨TX,UA,j2,Xi⟩:=dn.written eO eJ
 refine⟨_,(aS (cy (hS (fS (kM iX aF (ag 0) (ak (ag 1) aB) (hk:=by omega)))) (aY (Rt QG xT ug aF.hd (ak b7 aB))) cx)
  (aY (bB (kM kg aF (ag 0) (ak (ag 1) aB) (hk:=by omega))))),?_⟩
 try dsimp only[d5,d6,d7,d8]
 refine⟨_,I,o,slot eO,g6,g8,I,gn,li,_,I,o,eO,v,d,I,I,eJ,aU,eg,hd,fU,br dw eO d,I,?_⟩
 rcases q with⟨aq,az,q⟩|⟨aq,q⟩
 ·rw[t7 eO d aq]
  exact bT ⟨_,I,o,slot eO,TX,UA,I,j2,Xi,_,I,o,eO,v,d,I,I,eJ,aU,eg,hd,aq,az,H,.refl (c2 _),q⟩
 ·rw[aq]
  exact bN ⟨pb,H,.refl (c2 _),q⟩
theorem RV(xT:PySem.W.excIn K gX rE "ValueError.__new__"=au)(ug:mg "NoFit"=J (.ref gX))(S:tE K c "row" (fun _=>"Form.row") (fun _=>j0) ["self","value"])(iX:jg P w K mg base (2*n+4) "fits" ["self","value"] (g5 c) (iS hasAll dw c n))(kg:jg P w K mg base (2*n+4) "written" ["self","value"] (g5 c) (jb hasAll g4 jy c n)):A8 P w K mg base (2*n+5) "row" ["self","value"] (g5 c) (fun _=>FK gX c n):=fun i=>Sp (S i) fun _ _ G=>PG xT ug G iX kg
theorem xO{p:eG->Prop}{D:Ends}(T:eG)(h:p T)(g:∀(G:Prop)(bU:St),bU=ae->(T D bU H->G)->G):∃T,p T/\T D ae H:=g _ ae rfl fun k=>⟨T,h,k⟩
theorem hb{R:eG}{D:Ends}{w:V}{r:List V}(av:ae[i]?=J (J (.ref T)))(e:H T=J (.tup (w::r)))(h:R D (ae.set j (J w)) H):oL (sL (jQ (fun x y H Q=>(sy iw x y H Q\/sA iw x y H Q)\/sz x y H Q) (kz i) (iH (.int 0))) (rP j)) R D ae H:=⟨_,av,.inl (.inr ⟨_,_,_,_,rfl,rfl,ck e,c5 (j:=0) rfl,h⟩)⟩
theorem du{w:af}{R:eG}{D:Ends}(av:ae[i]?=J (J (.str x)))(bf:¬V.str x=V.str w)(h:R D ae H):oL (u2 (pZ (jQ pS (kz i) (iH (.str w)))) S u3) R D ae H:=⟨_,av,rfl,_,rfl,eP bf h⟩
theorem iz{w:af}{R:eG}{D:Ends}(av:ae[i]?=J (J (.str w)))(h:∀N:St->ar->Prop,S {D with nx:=N} ae H):oL (u2 (pZ (jQ pS (kz i) (iH (.str w)))) S u3) R D ae H:=⟨_,av,rfl,_,rfl,h1 rfl (h _)⟩
theorem aal{w:af}{R:eG}{D:Ends}(av:ae[i]?=J (J (.str w)))(h:∀N:St->ar->Prop,(∀ae H,R D ae H->N ae H)->S {D with nx:=N} ae H):oL (u2 (pZ (jQ pS (kz i) (iH (.str w)))) S u3) R D ae H:=⟨_,av,rfl,_,rfl,h1 rfl (h _ fun _ _ z=>z)⟩
theorem Mv{w:af}{R:eG}{D:Ends}(av:ae[i]?=J (J (.str x)))(hw:x=w\/x=hA)(h:∀N:St->ar->Prop,S {D with nx:=N} ae H):oL (u2 (FR (pZ (jQ pS (kz i) (iH (.str w)))) (pZ (jQ pS (kz i) (iH (.str hA))))) S u3) R D ae H:=by
 by_cases z:x=w
 .subst z;exact⟨_,av,I,_,I,h1 I (h _)⟩
 ·obtain rfl:=hw.resolve_left z
  exact⟨_,av,I,_,I,eP (fun e=>z (V.str.inj e)) ⟨_,av,I,_,I,h1 I (h _)⟩⟩
theorem pV{w:af}{R:eG}{D:Ends}(av:ae[i]?=J (J (.str x)))(bf:¬V.str x=V.str w)(k8:¬V.str x=V.str hA)(h:R D ae H):oL (u2 (FR (pZ (jQ pS (kz i) (iH (.str w)))) (pZ (jQ pS (kz i) (iH (.str hA))))) S u3) R D ae H:=⟨_,av,rfl,_,rfl,eP bf ⟨_,av,rfl,_,rfl,eP k8 h⟩⟩
theorem hM{R:eG}{D:Ends}(h:∀N:St->ar->Prop,(∀ae H,R D ae H->N ae H)->S {D with nx:=N} ae H):oL S R D ae H:=h _ fun _ _ z=>z
theorem jl(f:α->V)(xs:List α)(c m:Int)(hm:m=xs.length)(h:0<xs.length):∃n,n∈xs/\dv (xs.map f) (c%m)=J (f n):=by
 subst hm
 have aq:=fp c (b:=(xs.length:Int)) (by omega)
 have az:=fR c (b:=(xs.length:Int)) (by omega)
 obtain⟨k,hk⟩:=Int.eq_ofNat_of_zero_le aq
 rw[hk]
 have mu:k<xs.length:=by omega
 exact⟨xs[k],List.getElem_mem mu,c5 (by rw[gm,cV mu];rfl)⟩
theorem hR(c:Int)(n:Nat)(h:0<n):∃k:Nat,k<n/\c%((n:Nat):Int)=((k:Nat):Int):=by
 have aq:=fp c (b:=(n:Int)) (by omega)
 have az:=fR c (b:=(n:Int)) (by omega)
 obtain⟨k,hk⟩:=Int.eq_ofNat_of_zero_le aq
 exact⟨k,by omega,hk⟩
noncomputable def nJ:Option V->Int
 |some (.int x)=>x
 |_=>0
noncomputable def Ao(ns:List Int)(i:Nat):Int:=nJ (dv (ns.map V.int) ((0+((i:Nat):Int))%((min 63 ns.length:Nat):Int)))+(0+((i:Nat):Int))/((ns.length:Nat):Int)*((0+((i:Nat):Int))*(0+((i:Nat):Int))*104729+7919)
noncomputable def Yc(i:Nat)(x:Int):Int:=(x*48271+(0+((i:Nat):Int))*69621+11)%2147483629
noncomputable def Ld(m:Int):Int:=m*m%2147483587
noncomputable def Ft(v:Int):Int:=v*2147483563+v*v%2147483563
noncomputable def uY(ns:List Int)(i:Nat):Int:=if nJ (dv (ns.map V.int) 0)/5%2=1 then Ft (Ld (Yc i (Ao ns i)))else Ao ns i
noncomputable def sx(ns:List Int):List Int:=(List.range (if ns.length=0 then 0 else 90)).map (uY ns)
theorem QM(ns:List Int):(sx ns).length<=90:=by
 unfold sx
 rw[cI,kl]
 split<;>omega
inductive L5(K:bH)(vs:List V)(H:ar)(Q:bP)(E:cC):Prop where
 |mk (a:ah) (ns:List Int) (bt:vs=[.ref a]) (aq:dr K H a (ns.map V.int)) (az:ns.length<=63) (bE:∀(p:ah),H p=aw->Q (.ref p) (upd H p (.lst ((sx ns).map V.int)))):L5 K vs H Q E
def L4(K:bH):cT:=fun vs H Q E=>L5 K vs H Q E
theorem P1(nb:et mg)(F:ed K mg "_law_pool" Ch ["_law_script"] f fd):bx P w K mg base 1 "_law_pool" ["_law_script"] (L4 K):=by
 refine F.fC ru (fun bD A _ s H vs Q E aF h=>?_)
 obtain⟨a,ns,rfl,fu,aH,q⟩:=h
 refine⟨_,(aS (b0 1 ru.bC (e4 aB))
  (aS (qo lr.never rfl (n1 rfl nb.nE (ak (aL lg aA (bY (Cy rfl) rfl nb.Ff C6 (ak aA (ak (bY ec rfl nb.d2 d4 (ak (ag 0) aB)) aB)))) aB)) (eH (i:=2) ru.bC rfl (by exact Or.inl I))
   (aS (b0 3 ru.bC (aL eE (b8 cb (ag 0) (aL cZ (ag 2) (bY (Cy rfl) rfl nb.Ff C6 (ak aA (ak (bY ec rfl nb.d2 d4 (ak (ag 0) aB)) aB))))) (aL lg (aL fG (ag 2) (bY ec rfl nb.d2 d4 (ak (ag 0) aB))) (aL eE (aL lg (aL lg (ag 2) (ag 2)) aA) aA))))
   (aS (cy (bZ cN (aL cZ (aL fG (b8 cb (ag 0) aA) aA) aA) aA) (aS (b0 3 ru.bC (aL cZ (aL eE (aL eE (aL lg (ag 3) aA) (aL lg (ag 2) aA)) aA) aA))
    (aS (b0 3 ru.bC (aL cZ (aL lg (ag 3) (ag 3)) aA))
    (aY (b0 3 ru.bC (aL eE (aL lg (ag 3) aA) (aL cZ (aL lg (ag 3) (ag 3)) aA)))))) cx)
   (aY (vZ (ki PySem.F.plainAttrs_list PySem.F.slot_list_append PySem.F.type_list_append tJ (ag 1) (ak (ag 3) aB)))))))
  (aY (bB (ag 1))))),?_⟩
 try dsimp only[d5,d6,d7,d8]
 refine⟨UF _,fun p bh=>?_⟩
 have s0:=c3 (o:=dC.lst []) bh
 refine⟨_,I,_,_,I,.inl ⟨_,s0.seq fu,I⟩,_,_,I,.inl ⟨_,_,I,I,.inl ⟨by decide,by decide⟩,?_⟩⟩
 rw[cI]
 refine⟨_,I,?_,?_,?_⟩
 .split<;>omega
 .split<;>omega
 have hY:(90*(if((ns.length:Nat):Int)<1 then((ns.length:Nat):Int)else 1)).toNat=if ns.length=0 then 0 else 90:=by split<;>split<;>omega
 rw[hY]
 refine vR (fun i ae ax=>∃(ms:List Int)(ea el:Option V),ae=[J (.ref a),J (.ref p),ea,el]/\ms=(List.range i).map (uY ns)/\ax=upd H p (.lst (ms.map V.int))) ?_ ?_ ?_
 .exact⟨[],aw,aw,I,I,I⟩
 ·rintro i ae ax aE ⟨ms,ea,el,rfl,r1,rfl⟩
  have hm:ms.length=i:=by rw[r1,cI,kl]
  have zW:ns.length≠0:=fun z=>by rw[if_pos z]at aE;omega
  rw[if_neg zW]at aE
  have hs:=(c3 (o:=dC.lst (ms.map V.int)) bh).seq fu
  obtain⟨k,hk,iD⟩:=hR (0+((i:Nat):Int)) (min 63 ns.length) (by omega)
  have mu:k<ns.length:=by omega
  have iE:dv (ns.map V.int) ((k:Nat):Int)=J (.int ns[k]):=c5 (by rw[gm,cV mu];rfl)
  have JP:dv (ns.map V.int) 0=J (.int ns[0]):=c5 (j:=0) (by rw[gm,cV (by omega)];rfl)
  have em:(if(((ns.map V.int).length:Nat):Int)<63 then(((ns.map V.int).length:Nat):Int)else 63)=((min 63 ns.length:Nat):Int):=by rw[cI];split<;>omega
  have eW:=Int.ediv_nonneg (a:=0+((i:Nat):Int)) (b:=(((ns.map V.int).length:Nat):Int)) (by omega) (by omega)
  have hr:=Int.ediv_le_self (a:=0+((i:Nat):Int)) (((ns.map V.int).length:Nat):Int) (by omega)
  have lm:(((ns.map V.int).length:Nat):Int)=((ns.length:Nat):Int):=by rw[cI]
  refine⟨_,I,_,I,_,I,_,_,I,.inl ⟨_,hs,I⟩,_,_,I,_,_,I,I,(by rw[em];omega),.inl (.inl ⟨_,_,_,_,I,I,hs,(by rw[em,iD];exact iE),?_⟩)⟩
  refine⟨_,I,_,I,_,_,I,.inl ⟨_,hs,I⟩,_,_,I,I,⟨by omega,by omega⟩,?_⟩
  refine⟨_,I,_,I,.inl ⟨_,_,I,I,.inl ⟨by omega,by omega⟩,.inl ⟨_,_,rfl,rfl,.inr ⟨by decide,by decide⟩,.inl ⟨_,_,rfl,rfl,.inl ⟨_,_,rfl,rfl,.inl ⟨by omega,by omega⟩,.inl ⟨_,_,rfl,rfl,?_⟩⟩⟩⟩⟩⟩
  have ex:Ao ns i=ns[k]+(0+((i:Nat):Int))/(((ns.map V.int).length:Nat):Int)*((0+((i:Nat):Int))*(0+((i:Nat):Int))*104729+7919):=by
   unfold Ao
   rw[iD,iE,lm];rfl
  have eI:nJ (dv (ns.map V.int) 0)=ns[0]:=by rw[JP];rfl
  have aZ:∀(n:Int)(ea:Option V),n=uY ns i->∃(KP:List Int)(ea el:Option V),[J (V.ref a),J (V.ref p),J (V.int (0+((i:Nat):Int))),J (V.int n)]=[J (.ref a),J (.ref p),ea,el]/\KP=(List.range (i+1)).map (uY ns)/\upd (upd H p (.lst (ms.map V.int))) p (.lst (ms.map V.int++[V.int n]))=upd H p (.lst (KP.map V.int)):=fun n ea hY =>
   ⟨ms++[n],_,_,rfl,by rw[r1,hY,List.range_succ,ie];rfl,by rw[kn,ie];rfl⟩
  have cG:(ms.map V.int).length<bW:=by rw[cI];exact ez (show ms.length<100000 by omega) (by decide)
  refine⟨_,I,.inl (.inl ⟨_,_,_,_,I,I,hs,JP,_,_,I,I,⟨by decide,by decide⟩,_,_,rfl,rfl,(by show(0:Int)<2;decide),rfl,_,rfl,dk (fun dm=>?_) (fun dm=>?_)⟩)⟩
  ·refine⟨_,I,.inl ⟨_,_,I,I,.inr ⟨by decide,by decide⟩,_,rfl,.inl ⟨_,_,rfl,rfl,.inr ⟨by decide,by decide⟩,.inl ⟨_,_,rfl,rfl,.inl ⟨_,_,rfl,rfl,_,_,rfl,rfl,(by show(0:Int)<2147483629;decide),?_⟩⟩⟩⟩⟩
   dsimp only
   generalize dT:((ns[k]+(0+((i:Nat):Int))/_*_)*48271+(0+((i:Nat):Int))*69621+11)=X
   have jN:=fp X (show(2147483629:Int)≠0 by decide)
   have jr:=fR X (show(0:Int)<2147483629 by decide)
   generalize VY:X%2147483629=m at jN jr ⊢
   refine⟨_,I,_,I,.inl ⟨_,_,I,I,.inl ⟨by omega,by omega⟩,_,_,rfl,rfl,(by show(0:Int)<2147483587;decide),?_⟩⟩
   dsimp only
   have Aa:=fp (m*m) (show(2147483587:Int)≠0 by decide)
   have oA:=fR (m*m) (show(0:Int)<2147483587 by decide)
   generalize nw:m*m%2147483587=v at Aa oA ⊢
   refine⟨_,I,.inl ⟨_,_,I,I,.inl ⟨by omega,by omega⟩,_,rfl,_,rfl,.inl ⟨_,_,rfl,rfl,.inl ⟨by omega,by omega⟩,_,_,rfl,rfl,(by show(0:Int)<2147483563;decide),.inl ⟨_,_,rfl,rfl,?_⟩⟩⟩⟩
   refine⟨_,I,.inl ⟨I,_,bA aP⟩,_,I,p,_,_,I,I,aP,cG,?_⟩
   refine aZ _ aw ?_
   unfold uY
   rw[if_pos (by rw[eI];exact V.int.inj dm),ex]
   show _=Ft (Ld (((_:Int))%2147483629))
   rw[dT,VY]
   show _=Ft (m*m%2147483587)
   rw[nw];rfl
  ·refine⟨_,I,.inl ⟨I,_,bA aP⟩,_,I,p,_,_,I,I,aP,cG,?_⟩
   refine aZ _ aw ?_
   unfold uY
   rw[if_neg (by rw[eI];exact fun z=>dm (congrArg V.int z)),ex]
 ·rintro ae ax ⟨ms,ea,el,rfl,hm,rfl⟩
  subst hm
  exact⟨_,I,_,.new bh (c3 bh) aP trivial,q p bh⟩
theorem ZS{n:Nat}(h:0<n):seqIndex? 0 n=J 0:=by
 obtain⟨j,aq,az,_⟩:=zg (xs:=List.range n) (i:=0) (v:=0) (c5 (j:=0) (by rw[List.getElem?_range h]))
 rw[kl]at aq
 rw[lE]at az
 obtain⟨_,z⟩:=az
 rw[List.getElem_range]at z
 rw[aq,z]
inductive L1(vs:List V)(H:ar)(Q:bP)(E:cC):Prop where
 |mk (p:ah) (ns:List Int) (bt:vs=[.ref p]) (aq:H p=J (.lst (ns.map V.int))) (az:ns.length<=90) (bE:Q (.int (ns.headD 0)) (upd H p (.lst (ns.tail.map V.int)))):L1  vs H Q E
def mF:cT:=fun vs H Q E=>L1  vs H Q E
theorem Pz(nb:et mg)(F:ed K mg "_law_next" Ci ["_law_pool_here"] f fd):bx P w K mg base 1 "_law_next" ["_law_pool_here"] mF:=by
 refine F.fC PT (fun bD A _ s H vs Q E aF h=>?_)
 obtain⟨p,ns,rfl,bh,aH,q⟩:=h
 refine⟨_,(aS (cy (bZ cN (bY ec I nb.d2 d4 (ak (ag 0) aB)) aA) (aY (bB aA)) cx)
  (aY (bB (ki PySem.F.plainAttrs_list PySem.F.slot_list_pop PySem.F.type_list_pop Rz (ag 0) (ak aA aB))))),?_⟩
 try dsimp only[d5,d6,d7,d8]
 refine⟨_,I,_,_,I,.inl ⟨_,bA bh,I⟩,I,_,I,?_⟩
 rw[cI]
 cases ns with
 |nil =>
  refine h1 I ?_
  have bt:Q (.int 0) (upd H p (.lst (([]:List Int).map V.int))):=q
  rw[QC bh]at bt
  exact⟨H,.refl (c2 _),bt⟩
 |cons c r =>
  refine eP (fun z=>nomatch z) ?_
  refine⟨_,I,.inl ⟨I,_,bA bh⟩,p,_,0,0,.int c,I,I,bh,by decide,by decide,ZS (by rw[cI];exact Nat.succ_pos _),rfl,?_⟩
  have VP:r.length<=90:=dp (Nat.le_succ _) aH
  exact⟨_,(cY.pop ⟨_,bh,aH⟩ VP).sub,q⟩
noncomputable def ka(c:Int):Nat->af×af×Int
 |0=>(nS,af.ofString "",c/240)
 |i+1=>((Txt.slice (ka c i).1 aw (J ((ka c i).2.2%(((ka c i).1.length:Nat):Int)))++Txt.slice (ka c i).1 (J ((ka c i).2.2%(((ka c i).1.length:Nat):Int)+1)) aw),(ka c i).2.1++⟨#[(dv (ka c i).1.cps.toList ((ka c i).2.2%(((ka c i).1.length:Nat):Int))).getD 0]⟩,(ka c i).2.2/(((ka c i).1.length:Nat):Int))
noncomputable def sE(c:Int):af:=(ka c (1+c%nJ (dv ([2,3,7,60].map V.int) (c/60%4))).toNat).2.1
inductive Mb(vs:List V)(H:ar)(Q:bP)(E:cC):Prop where
 |mk (c:Int) (bt:vs=[.int c]) (aq:(nj (sE c)=au->(sE c).length<=60->Q (.str (sE c)) H)):Mb  vs H Q E
def Ma:cT:=fun vs H Q E=>Mb  vs H Q E
theorem Py(nb:et mg)(F:ed K mg "_law_signs" B5 ["_law_cell"] f fd):bx P w K mg base 1 "_law_signs" ["_law_cell"] Ma:=by
 refine F.fC n0 (fun bD A _ s H vs Q E aF h=>?_)
 obtain⟨c,rfl,q⟩:=h
 refine⟨_,(aS (b0 1 n0.bC b7)
  (aS (b0 2 n0.bC (aL eE aA (aL cZ (ag 0) (b8 cb (e4 (ak aA (ak aA (ak aA (ak aA aB))))) (aL cZ (aL fG (ag 0) aA) aA)))))
  (aS (b0 3 n0.bC (aL fG (ag 0) aA))
  (aS (b0 4 n0.bC b7)
  (aS (qo lr.never rfl (n1 rfl nb.nE (ak (ag 2) aB)) (eH (i:=5) n0.bC rfl (by exact Or.inl I))
   (aS (b0 6 n0.bC (aL cZ (ag 3) (bY ec rfl nb.d2 d4 (ak (ag 1) aB))))
   (aS (b0 3 n0.bC (aL fG (ag 3) (bY ec rfl nb.d2 d4 (ak (ag 1) aB))))
   (aS (b0 4 n0.bC (aL eE (ag 4) (b8 cb (ag 1) (ag 6))))
   (aY (b0 1 n0.bC (aL eE (ri sH (ag 1) rA (rz (ag 6))) (ri sH (ag 1) (rz (aL eE (ag 6) aA)) rA))))))))
  (aY (bB (ag 4)))))))),?_⟩
 try dsimp only[d5,d6,d7,d8]
 refine⟨_,I,(by show 4<=bW;decide),fun g aN=>?_⟩
 obtain⟨x,av,d0⟩:=jl V.int [2,3,7,60] (c/60) 4 rfl (by show 0<4;decide)
 have ov:0<x/\x<=60:=by
  have:∀y∈([2,3,7,60]:List Int),0<y/\y<=60:=by decide
  exact this x av
 refine⟨_,I,_,_,I,I,⟨by decide,by decide⟩,_,_,rfl,rfl,(by show(0:Int)<4;decide),.inl (.inl ⟨_,_,_,_,rfl,rfl,bA aP,d0,_,_,rfl,rfl,ov.1,.inl ⟨_,_,rfl,rfl,?_⟩⟩)⟩
 have v0:=fp c (show x≠0 by omega)
 have v1:=fR c ov.1
 have wq:sE c=(ka c (1+c%x).toNat).2.1:=by unfold sE;rw[d0];rfl
 generalize c%x=m at v0 v1 wq ⊢
 obtain⟨n,rfl⟩:=Int.eq_ofNat_of_zero_le v0
 refine⟨_,I,_,_,I,I,⟨by decide,by decide⟩,?_⟩
 refine⟨_,I,_,I,by omega,by omega,?_⟩
 have hY:(1+((n:Nat):Int)).toNat=n+1:=by omega
 rw[hY]at wq ⊢
 refine vR (fun i ae ax=>dJ H ax/\∃(rest found:af)(num:Int)(ea el kD:Option V),ae=[J (.int c),J (.str rest),kD,J (.int num),J (.str found),ea,el]/\rest.length=62-i/\found.length=i/\(found.cps.toList++rest.cps.toList).Perm nS.cps.toList/\ka c i=(rest,found,num)) ?_ ?_ ?_
 ·refine⟨c3 aN,nS,af.ofString "",c/240,aw,aw,_,I,SM,by decide+kernel,?_⟩
  rw[show(af.ofString "").cps.toList=[] by decide+kernel]
  exact⟨List.Perm.refl _,I⟩
 ·rintro i ae ax aE ⟨hs,rest,found,num,ea,el,kD,rfl,aH,aQ,bh,wV⟩
  have xg:rest.length<=bW:=eN (by omega)
  obtain⟨k,hk,iD⟩:=hR num rest.length (by omega)
  obtain⟨cg,iE,Ug⟩:=QH hk
  have f3:=Hb rest k (by omega)
  have eB:=G8 rest (k+1) (by omega)
  refine⟨_,I,_,I,_,_,I,⟨xg,I⟩,_,_,I,I,(by omega),?_⟩
  dsimp only
  rw[iD]
  refine⟨_,I,_,I,_,_,I,⟨xg,I⟩,_,_,I,I,⟨by omega,by omega⟩,?_⟩
  refine⟨_,I,_,I,_,I,.inr ⟨_,_,_,I,I,xg,iE,.inr ⟨_,_,I,I,eN (by show _+1<=_;omega),?_⟩⟩⟩
  have ba:((k:Nat):Int)+1=((k+1:Nat):Int):=by omega
  refine⟨_,I,_,I,_,I,.inr ⟨_,I,xg,_,I,_,I,.inl ⟨_,_,I,I,_,I,.inr ⟨_,I,xg,.inr ⟨_,_,I,I,?_,?_⟩⟩⟩⟩⟩
  .rw[f3,ba,eB];exact eN (by omega)
  ·rw[ba]
   refine⟨hs,_,_,_,_,_,_,I,?_,?_,?_,?_⟩
   .rw[kN,f3,eB];omega
   .rw[kN,aQ];rfl
   ·rw[v5,v5]
    exact(QP Ug).trans bh
   ·rw[ka,wV]
    dsimp only
    rw[iD,iE,ba];rfl
 ·rintro ae ax ⟨hs,rest,found,num,ea,el,kD,rfl,aH,aQ,bh,wV⟩
  rw[wV]at wq
  dsimp only at wq
  rw[wq]at q
  exact⟨_,I,H,.refl hs,q (Qz bh (by omega) (by omega)) (by omega)⟩
noncomputable def uM(qJ:Int):Nat->af×Int
 |0=>(af.ofString "",qJ)
 |i+1=>((uM qJ i).1++⟨#[(dv ji.cps.toList ((uM qJ i).2/26%26)).getD 0]⟩,(uM qJ i).2/26)
noncomputable def KY(ll:af)(a fst x:Int)(i:Nat):af:=(Txt.slice ll aw (J a)++⟨#[ji.cps.toList.getD ((fst+(0+((i:Nat):Int))*x)%26).toNat 0]⟩)++Txt.slice ll (J a) aw
noncomputable def KZ(c:Int):Int:=nJ (dv ([1,3,5,7,9,11].map V.int) (c/12/(c%12+1)%6))
noncomputable def si(c:Int)(m:Nat):List af:=(List.range m).map (KY (uM (c/72/(c%12+1)) (c%12).toNat).1 (c/12%(c%12+1)) (c/72/(c%12+1)%26) (KZ c))
inductive LY(vs:List V)(H:ar)(Q:bP)(E:cC):Prop where
 |mk (c:Int) (m:Nat) (bt:vs=[.int c,.int ((m:Nat):Int)]) (aq:0<m) (az:m<=20) (bE:∀(D:ah),H D=aw->(si c m).length=m->jI (si c m)=au->Q (.ref D) (upd H D (.lst ((si c m).map V.str)))):LY  vs H Q E
def FG:cT:=fun vs H Q E=>LY  vs H Q E
theorem PA(nb:et mg)(F:ed K mg "_law_names" B6 ["_law_cell","_law_many"] f fd):bx P w K mg base 1 "_law_names" ["_law_cell","_law_many"] FG:=by
 refine F.fC m7 (fun bD A _ s H vs Q E aF h=>?_)
 obtain⟨c,m,rfl,Ey,hm,q⟩:=h
 refine⟨_,(aS (b0 2 m7.bC b7)
  (aS (b0 3 m7.bC (aL cZ (ag 0) aA))
  (aS (b0 4 m7.bC (aL cZ (aL fG (ag 0) aA) (aL eE (ag 3) aA)))
  (aS (b0 5 m7.bC (b8 cb (e4 (ak aA (ak aA (ak aA (ak aA (ak aA (ak aA aB))))))) (aL cZ (aL fG (aL fG (ag 0) aA) (aL eE (ag 3) aA)) aA)))
  (aS (b0 6 m7.bC (aL fG (aL fG (ag 0) aA) (aL eE (ag 3) aA)))
  (aS (b0 7 m7.bC (aL cZ (ag 6) aA))
  (aS (b0 8 m7.bC b7)
  (aS (qo lr.never rfl (n1 rfl nb.nE (ak (ag 3) aB)) (eH (i:=9) m7.bC rfl (by first|exact Or.inl I|exact Or.inr I))
   (aS (b0 6 m7.bC (aL fG (ag 6) aA))
   (aY (b0 8 m7.bC (aL eE (ag 8) (b8 cb (ag 2) (aL cZ (ag 6) aA)))))))
  (aY (bB (hQ ["_law_k"] [(8,"_law_stem"),(4,"_law_at"),(2,"_law_some"),(7,"_law_first"),(5,"_law_step")] rfl (by decide+kernel) ⟨rfl,.inl rfl,rfl,.inl rfl,rfl,.inl rfl,rfl,.inl rfl,rfl,.inl rfl,trivial⟩ (n1 rfl nb.nE (ak (ag 1) aB)) (fun _ _ _ _ _=>(eH (i:=0) (show(["_law_k","_law_stem","_law_at","_law_some","_law_first","_law_step"]:List af).Nodup by decide+kernel))) (fun _ _ _ _ _=>iA) (fun _ _ _ _ _=>(aL eE (aL eE (ri sH (ag 1) rA (rz (ag 2))) (b8 cb (ag 3) (aL cZ (aL eE (ag 4) (aL lg (ag 0) (ag 5))) aA))) (ri sH (ag 1) (rz (ag 2)) rA)))))))))))))),?_⟩
 try dsimp only[d5,d6,d7,d8]
 obtain⟨cS,iG,Us⟩:=hR c 12 (by decide)
 have JB:c%12=((cS:Nat):Int):=Us
 obtain⟨a,bz,T2⟩:=hR (c/12) (cS+1) (by omega)
 have c6:c/12%(((cS:Nat):Int)+1)=((a:Nat):Int):=T2
 refine⟨_,I,_,_,I,I,(by show(0:Int)<12;decide),?_⟩
 dsimp only
 rw[JB]
 refine⟨_,I,_,_,I,I,⟨by decide,by decide⟩,_,rfl,.inl ⟨_,_,rfl,rfl,_,_,rfl,rfl,(by omega),?_⟩⟩
 dsimp only
 rw[c6]
 refine⟨(by show 6<=bW;decide),fun g aN=>?_⟩
 obtain⟨x,av,d0⟩:=jl V.int [1,3,5,7,9,11] (c/12/(((cS:Nat):Int)+1)) 6 rfl (by show 0<6;decide)
 have ov:0<x/\x<=11:=by
  have:∀y∈([1,3,5,7,9,11]:List Int),0<y/\y<=11:=by decide
  exact this x av
 refine⟨_,I,_,_,I,I,⟨by decide,by decide⟩,_,rfl,.inl ⟨_,_,rfl,rfl,_,_,rfl,rfl,⟨by omega,by omega⟩,_,_,rfl,rfl,(by show(0:Int)<6;decide),.inl (.inl ⟨_,_,_,_,rfl,rfl,bA aP,d0,?_⟩)⟩⟩
 refine⟨_,I,_,_,I,I,⟨by decide,by decide⟩,_,rfl,.inl ⟨_,_,rfl,rfl,_,_,rfl,rfl,⟨by omega,by omega⟩,?_⟩⟩
 refine⟨_,I,_,_,I,I,(by show(0:Int)<26;decide),?_⟩
 refine⟨_,I,_,I,by omega,by omega,?_⟩
 have hY:(((cS:Nat):Int)).toNat=cS:=by omega
 rw[hY]
 have KC:ji.length<=bW:=by rw[CY];exact eN (by decide)
 refine vR (fun i ae ax=>dJ H ax/\∃(ll:af)(num fst:Int)(ea el:Option V),ae=[J (.int c),J (.int ((m:Nat):Int)),J (.str ji),el,J (.int ((a:Nat):Int)),J (.int x),J (.int num),J (.int fst),J (.str ll),ea]/\ll.length=i/\lC i ji.cps.toList ll/\uM (c/72/(((cS:Nat):Int)+1)) i=(ll,num)/\fst=c/72/(((cS:Nat):Int)+1)%26) ?_ ?_ ?_
 ·refine⟨c3 aN,af.ofString "",_,_,aw,_,I,by decide+kernel,⟨by decide+kernel,fun c h=>?_⟩,rfl,rfl⟩
  rw[show(af.ofString "").cps.toList=[] by decide+kernel]at h
  cases h
 ·rintro i ae ax aE ⟨hs,ll,num,fst,ea,el,rfl,aH,aO,w0,Eo⟩
  obtain⟨k,hk,wm⟩:=hR (num/26) 26 (by decide)
  have iD:num/26%26=((k:Nat):Int):=wm
  obtain⟨cg,Kk,iE⟩:=SK (x:=ji) (k:=k) (by rw[CY];exact hk)
  refine⟨_,I,_,_,I,I,⟨by decide,by decide⟩,?_⟩
  refine⟨_,I,_,I,_,I,_,_,I,I,(by show(0:Int)<26;decide),.inr ⟨_,_,_,I,I,KC,(by rw[iD];exact iE),.inr ⟨_,_,I,I,eN (by show _+1<=_;omega),?_⟩⟩⟩
  refine⟨hs,_,_,_,_,_,I,by rw[kN,aH];rfl,aO.app (lC.one Kk),?_,Eo⟩
  rw[uM,w0]
  dsimp only
  rw[iD,iE];rfl
 ·rintro ae ax ⟨hs,ll,num,fst,ea,el,rfl,aH,aO,w0,Eo⟩
  have ls:ll.length<=bW:=eN (by omega)
  refine⟨_,I,_,I,by omega,by omega,fun D dz=>?_⟩
  have em:(((m:Nat):Int)).toNat=m:=by omega
  rw[em]
  have acr:ji.cps.toList.length=26:=by rw[hE];exact CY
  have f3:=Hb ll a (by omega)
  have eB:=G8 ll a (by omega)
  let lS:Nat->Nat:=fun i=>((fst+(0+((i:Nat):Int))*x)%26).toNat
  have rZ:∀i,lS i<26/\(fst+(0+((i:Nat):Int))*x)%26=((lS i:Nat):Int):=fun i=>by
   have aq:=fp (fst+(0+((i:Nat):Int))*x) (show(26:Int)≠0 by decide)
   have az:=fR (fst+(0+((i:Nat):Int))*x) (show(0:Int)<26 by decide)
   constructor
   ·show Int.toNat _<26
    omega
   ·show _=((Int.toNat _:Nat):Int)
    omega
  let Af:Nat->af:=KY ll ((a:Nat):Int) fst x
  have Dr:si c m=(List.range m).map Af:=by
   unfold si KZ
   rw[JB,c6,d0,Int.toNat_natCast,w0,<-Eo];rfl
  rw[Dr]at q
  refine CJ m (fun i =>.int (0+((i:Nat):Int))) (fun i=>V.str (Af i)) (fun ae=>∃z,ae=[z,J (.str ll),J (.int ((a:Nat):Int)),J (.str ji),J (.int fst),J (.int x)]) (eN (by omega)) ⟨_,I⟩ ?_ ?_ ?_ ?_ ?_
  .intro i H1 aE;exact aE
  .intro H1;exact cQ _
  .rintro i H1 y bL aE ⟨rfl,rfl⟩;exact⟨I,I⟩
  ·rintro i bV H1 aE ⟨z,rfl⟩ R cf
   obtain⟨hk,iD⟩:=rZ i
   have iE:dv ji.cps.toList ((lS i:Nat):Int)=J (ji.cps.toList.getD (lS i) 0):=c5 (by rw[eM,cV (by omega)];rfl)
   have ba:(⟨#[ji.cps.toList.getD (lS i) 0]⟩:af).length=1:=rfl
   refine⟨_,I,_,I,_,I,.inr ⟨_,I,ls,?_⟩⟩
   refine⟨_,I,_,I,_,I,_,I,.inl ⟨_,_,I,I,.inr ⟨by omega,by omega⟩,.inl ⟨_,_,rfl,rfl,_,_,rfl,rfl,(by show(0:Int)<26;decide),.inr ⟨_,_,_,rfl,rfl,KC,(by rw[iD];exact iE),.inr ⟨_,_,rfl,rfl,eN (by omega),?_⟩⟩⟩⟩⟩
   refine⟨_,I,_,I,_,I,.inr ⟨_,I,ls,.inr ⟨_,_,I,I,eN (by rw[kN];omega),?_⟩⟩⟩
   exact cf _ ⟨_,I⟩
  ·have e:(List.range m).map (fun i=>V.str (Af i))=((List.range m).map Af).map V.str:=by rw[i2];rfl
   rw[e]
   have zI:=hs.free dz
   refine⟨_,.new zI (hs.trans (c3 dz)) aP trivial,q D zI (by rw[cI,kl]) ?_⟩
   refine PJ (by rw[cI,kl];omega) (by rw[cI,kl];omega) ?_ ?_
   ·unfold List.Nodup
    rw[List.pairwise_iff_getElem]
    intro i j aE c4 zU
    rw[cI,kl]at aE c4
    rw[i3,i3,List.getElem_range,List.getElem_range]
    intro el
    have kD:=So el
    obtain⟨k6,Ui⟩:=rZ i
    obtain⟨mu,Uj⟩:=rZ j
    rw[eM,eM,cV (by omega),cV (by omega)]at kD
    have F5:=(List.getElem_inj Rh).mp kD
    have:=Rj (f:=fst) av (show i<26 by omega) (show j<26 by omega) (by rw[Ui,Uj];exact congrArg (fun n:Nat=>(n:Int)) F5)
    omega
   ·intro n bf
    obtain⟨i,_,rfl⟩:=List.mem_map.mp bf
    obtain⟨hk,iD⟩:=rZ i
    refine QY ⟨?_,?_⟩ ?_
    ·show(_++_:af).length<=12
     rw[kN,kN,f3,eB]
     show a+1+_<=12
     omega
    ·refine(((aO.slice aw (J ((a:Nat):Int))).app (lC.one ?_)).app (aO.slice (J ((a:Nat):Int)) aw)).s
     rw[eM,cV (by omega)]
     exact List.getElem_mem _
    ·show 0<(_++_:af).length
     rw[kN,kN]
     show 0<_+1+_
     omega
noncomputable def F0:af:=af.ofString "nothing"
noncomputable def MJ:af:=af.ofString "truth"
noncomputable def MK:af:=af.ofString "whole"
noncomputable def qW:af:=af.ofString "span"
noncomputable def MI:af:=af.ofString "fraction"
noncomputable def u9:af:=af.ofString "letters"
noncomputable def AV:af:=af.ofString "maybe"
noncomputable def FZ:af:=af.ofString "many"
noncomputable def F1:af:=af.ofString "record"
noncomputable def MH:af:=af.ofString "choice"
noncomputable def F2:af:=af.ofString "turned"
noncomputable def sO(k:Fin 4):af:=[F0,MJ,MK,MI].getD k.val F0
noncomputable def p2(k:Fin 3):af:=[AV,FZ,F2].getD k.val AV
noncomputable def va(k:Fin 2):af:=[F1,MH].getD k.val F1
def Simp(H:ar)(f:bq)(v:V):Prop:=∃T,v=.ref T/\((∃k,f=.bare k/\H T=J (.tup [.str (sO k)]))\/(∃a b:Int,f=.sp a b/\H T=J (.tup [.str qW,.int a,.int b])/\a<=b/\b-a<2^190/\a.natAbs<10^58/\b.natAbs<10^58)\/(∃s:af,f=.le s/\H T=J (.tup [.str u9,.str s])/\nj s=au/\s.length<=60))
def lz(X:List ah)(H:ar):Prop:=∀x,x∈X->∃l,H x=J (.lst l)
theorem lz.grow(h:lz X H)(g:cY p H ai):lz X ai:=fun x av=>by
 by_cases z:x=p
 ·subst z
  obtain⟨ns,e,_⟩:=g.l
  exact⟨_,e⟩
 ·obtain⟨l,e⟩:=h x av
  exact⟨l,g.k _ _ z e⟩
noncomputable def Dc(way:Nat):bq :=.bare (if way=0 then 0 else if way=1 then 1 else if way=2 then 2 else 3)
noncomputable def AJ(c:Int):Int:=nJ (dv ([1,5,300,10^Int.toNat 57].map V.int) (c%4))
noncomputable def xJ(c:Int):Int:=c%10^Int.toNat 57-10^Int.toNat 56
noncomputable def sF(way:Nat)(ns:List Int):bq×List Int :=
 if way=3 then(.sp (xJ (ns.headD 0)) (xJ (ns.headD 0)+ns.tail.headD 0/4%AJ (ns.tail.headD 0)),ns.tail.tail)
 else if way=5 then(.le (sE (ns.headD 0)),ns.tail)else(Dc way,ns)
inductive Mc(vs:List V)(H:ar)(Q:bP)(E:cC):Prop where
 |mk (p:ah) (way:Nat) (ns:List Int) (bt:vs=[.ref p,.int ((way:Nat):Int)]) (aq:way<6) (az:H p=J (.lst (ns.map V.int))) (bE:ns.length<=90) (cz:∀v ai,cY p H ai->ai p=J (.lst ((sF way ns).2.map V.int))->Simp ai (sF way ns).1 v->Q v ai):Mc  vs H Q E
def AG:cT:=fun vs H Q E=>Mc  vs H Q E
theorem mf{ns:List Int}{n:Nat}(h:ns.length<=n):ns.tail.length<=n:=by rw[List.length_tail];omega
theorem O9(F:ed K mg "_law_simple" B1 ["_law_pool_here","_law_way"] f fd)(fP:bx P w K mg base 1 "_law_next" ["_law_pool_here"] mF)(Bh:bx P w K mg base 1 "_law_signs" ["_law_cell"] Ma):bx P w K mg base 2 "_law_simple" ["_law_pool_here","_law_way"] AG:=by
 refine F.fC BH (fun bD A _ s H vs Q E aF h=>?_)
 obtain⟨p,way,ns,rfl,hw,bh,aH,q⟩:=h
 have c7:mb p H:=⟨ns,bh,aH⟩
 refine⟨_,(aS (cy (bZ cN (ag 1) aA) (aS (b0 2 BH.bC (aL gB (aL cZ (cu fP aF (ak (ag 0) aB)) (aL pa aA aA)) (aL pa aA aA)))
   (aS (b0 3 BH.bC (cu fP aF (ak (ag 0) aB)))
   (aY (bB (iN (ak b7 (ak (ag 2) (ak (aL eE (ag 2) (aL cZ (aL fG (ag 3) aA) (b8 cb (e4 (ak aA (ak aA (ak aA (ak (aL pa aA aA) aB))))) (aL cZ (ag 3) aA)))) aB)))))))) cx)
  (aS (cy (bZ cN (ag 1) aA) (aY (bB (iN (ak b7 (ak (cu Bh aF (ak (cu fP aF (ak (ag 0) aB)) aB)) aB))))) cx)
  (aY (bB (iN (ak (b8 cb (e4 (ak b7 (ak b7 (ak b7 (ak b7 (ak b7 aB)))))) (ag 1)) aB)))))),?_⟩
 try dsimp only[d5,d6,d7,d8]
 refine⟨_,I,I,_,I,dk (fun eu=>?_) (fun eu=>?_)⟩
 ·have eZ:way=3:=by have:=V.int.inj eu;omega
  subst eZ
  have gz:=mf aH
  refine⟨_,I,p,ns,I,bh,aH,?_⟩
  have b1:=cY.pop c7 gz
  have xv:∀v ai,cY p H ai->ai p=J (.lst (ns.tail.tail.map V.int))->Simp ai (.sp (xJ (ns.headD 0)) (xJ (ns.headD 0)+ns.tail.headD 0/4%AJ (ns.tail.headD 0))) v->Q v ai:=q
  generalize ns.headD 0=qr at xv ⊢
  have mC:∀n:Int,n=57\/n=56->sY 10 n:=fun n bf=>by rcases bf with rfl|rfl<;>(refine⟨?_,?_,?_⟩<;>decide)
  have La:(0:Int)<10^Int.toNat 57:=by decide+kernel
  refine⟨_,_,I,I,mC _ (.inl I),_,_,I,I,La,_,_,I,I,mC _ (.inr I),_,_,I,I,?_⟩
  dsimp only
  have Xe:∃low:Int,low=qr%10^Int.toNat 57-10^Int.toNat 56/\-(10^57)<=low/\low<=10^57:=by
   refine⟨_,I,?_⟩
   have a1:=fp qr (show(10:Int)^Int.toNat 57≠0 by decide+kernel)
   have a2:=fR qr La
   rw[show Int.toNat 57=57 from rfl]at a1 a2 ⊢
   rw[show Int.toNat 56=56 from rfl]
   omega
  obtain⟨low,hX,acs,acu⟩:=Xe
  rw[<-hX]
  rw[show xJ qr=low from hX.symm]at xv
  clear hX
  refine⟨_,I,p,ns.tail,I,aP,gz,?_⟩
  have cL:=b1.trans (cY.pop b1.l (mf gz))
  have gM:=aP (H:=upd H p (.lst (ns.tail.map V.int))) (a:=p) (o :=.lst (ns.tail.tail.map V.int))
  generalize upd (upd H p (.lst (ns.tail.map V.int))) p (.lst (ns.tail.tail.map V.int))=ax at cL gM ⊢
  generalize ns.tail.headD 0=c at xv ⊢
  refine⟨_,I,_,I,_,I,_,_,I,I,⟨by decide,by decide⟩,_,_,rfl,rfl,mC _ (.inl rfl),(by show 4<=bW;decide),fun g aN=>?_⟩
  obtain⟨x,av,d0⟩:=jl V.int [1,5,300,10^Int.toNat 57] c 4 rfl (by show 0<4;decide)
  obtain⟨ov,aco,Kr⟩:0<x/\x<2^190/\x<=10^57:=by
   have:∀y∈([1,5,300,10^Int.toNat 57]:List Int),0<y/\y<2^190/\y<=10^57:=by decide+kernel
   exact this x av
  refine⟨_,I,_,_,I,I,(by show(0:Int)<4;decide),.inl (.inl ⟨_,_,_,_,I,I,bA aP,d0,_,_,I,I,ov,.inl ⟨_,_,I,I,(by show 3<=bW;decide),fun T cF=>?_⟩⟩)⟩
  have f3:=fp (c/4) (show x≠0 by omega)
  have eB:=fR (c/4) ov
  have fb:=(cL.ext (Ext.lst aN)).ext (Ext.tup (xs:=[V.str qW,.int low,.int (low+c/4%x)]) cF)
  have ex:AJ c=x:=by unfold AJ;rw[d0];rfl
  rw[ex]at xv
  exact⟨_,fb.sub,xv _ _ fb ((Ext.tup cF).s _ _ ((Ext.lst aN).s _ _ gM)) ⟨T,I,.inr (.inl ⟨low,_,I,aP,by omega,by omega,by omega,by omega⟩)⟩⟩
 ·refine⟨_,I,I,_,I,dk (fun jE=>?_) (fun jE=>?_)⟩
  ·have rK:way=5:=by have:=V.int.inj jE;omega
   subst rK
   refine⟨_,I,p,ns,I,bh,aH,?_⟩
   have b1:=cY.pop c7 (mf aH)
   refine⟨_,I,fun aN aH=>⟨iB,fun T cF=>?_⟩⟩
   have fW:=Ext.tup (xs:=[V.str u9,.str (sE (ns.headD 0))]) cF
   have fb:=b1.ext fW
   exact⟨_,fb.sub,q _ _ fb (fW.s _ _ aP) ⟨T,I,.inr (.inr ⟨_,I,aP,aN,aH⟩)⟩⟩
  ·have ET:way≠3/\way≠5:=⟨fun z=>eu (by rw[z];rfl),fun z=>jE (by rw[z];rfl)⟩
   have eI:sF way ns=(Dc way,ns):=by unfold sF;rw[if_neg ET.1,if_neg ET.2]
   rw[eI]at q
   obtain⟨k,hk,w8⟩:∃k,Dc way=.bare k/\dv ([F0,MJ,MK,qW,MI].map V.str) ((way:Nat):Int)=J (.str (sO k)):=by
    have:way=0\/way=1\/way=2\/way=4:=by omega
    rcases this with rfl|rfl|rfl|rfl
    .exact⟨0,I,c5 (j:=0) I⟩
    .exact⟨1,I,c5 (j:=1) I⟩
    .exact⟨2,I,c5 (j:=2) I⟩
    .exact⟨3,I,c5 (j:=4) I⟩
   refine⟨(by show 5<=bW;decide),fun g aN=>⟨_,I,.inl (.inl ⟨_,_,_,_,I,I,bA aP,w8,(by show 1<=bW;decide),fun T cF=>?_⟩)⟩⟩
   have fW:=(Ext.lst aN).trans (Ext.tup (xs:=[V.str (sO k)]) cF)
   have fb:=(cY.refl c7).ext fW
   exact⟨_,fb.sub,q _ _ fb (fW.s _ _ bh) ⟨T,I,.inl ⟨k,hk,aP⟩⟩⟩
mutual
noncomputable def cS:bq->Nat
 |.bare _=>1
 |.sp _ _=>1
 |.le _=>1
 |.one _ f=>cS f+1
 |.two _ _ fs=>gD fs+1
noncomputable def gD:List bq->Nat
 |[]=>0
 |f::fs=>cS f+gD fs
end
mutual
noncomputable def e5:bq->D
 |.bare k =>.tup [.str (sO k)]
 |.sp a b =>.tup [.str qW,.int a,.int b]
 |.le s =>.tup [.str u9,.str s]
 |.one k f =>.tup [.str (p2 k),e5 f]
 |.two k ns fs =>.tup [.str (va k),.lst (gL fs ns)]
noncomputable def gL:List bq->List af->List D
 |[],_=>[]
 |f::fs,ns =>.tup [.str (ns.headD af.empty),e5 f]::gL fs ns.tail
end
mutual
noncomputable def ei:bq->Prop
 |.bare _=>True
 |.sp a b=>a<=b/\b-a<2^190/\a.natAbs<10^58/\b.natAbs<10^58
 |.le s=>nj s=au/\s.length<=60
 |.one _ f=>ei f
 |.two _ ns fs=>jI ns=au/\ns.length=fs.length/\h3 fs
noncomputable def h3:List bq->Prop
 |[]=>True
 |f::fs=>ei f/\h3 fs
end
theorem tU:∀(fs:List bq)(ns:List af),(gL fs ns).length=fs.length
 |[],ns=>by rw[gL];rfl
 |f::fs,ns=>by rw[gL,ep,tU fs ns.tail,ep]
theorem HT(n:af)(f:bq):∀(fs:List bq)(ns:List af),ns.length=fs.length->gL (fs++[f]) (ns++[n])=gL fs ns++[.tup [.str n,e5 f]]
 |[],ns,h=>by
  obtain rfl:=List.eq_nil_of_length_eq_zero (by simpa using h)
  show gL [f] [n]=gL [] []++_
  rw[gL,gL,gL];rfl
 |g::fs,[],h=>by cases h
 |g::fs,m::ns,h=>by
  show gL (g::(fs++[f])) (m::(ns++[n]))=gL (g::fs) (m::ns)++_
  rw[gL,gL]
  show _::gL (fs++[f]) (ns++[n])=_::gL fs ns++_
  rw[HT n f fs ns (by simpa using h)];rfl
theorem HI{f:bq}(h:ei f):∀{fs:List bq},h3 fs->h3 (fs++[f])
 |[],_=>by show h3 [f];rw[h3,h3];exact⟨h,trivial⟩
 |g::fs,hs=>by
  rw[h3]at hs
  show h3 (g::(fs++[f]))
  rw[h3]
  exact⟨hs.1,HI h hs.2⟩
theorem Im{f:bq}{n:Nat}(h:aO f<=n):∀{fs:List bq},fA fs<=n->fA (fs++[f])<=n
 |[],_=>by show fA [f]<=n;rw[fA,fA];omega
 |g::fs,hs=>by
  rw[fA]at hs
  show fA (g::(fs++[f]))<=n
  rw[fA]
  have:=Im h (fs:=fs) (by omega)
  omega
theorem H5(f:bq):∀fs:List bq,gD (fs++[f])=gD fs+cS f
 |[]=>by show gD [f]=gD []+_;simp only[gD];omega
 |g::fs=>by
  show gD (g::(fs++[f]))=gD (g::fs)+_
  rw[gD,gD,H5 f fs];omega
theorem lz.no(dT:lz X H)(e:H T=J (.tup xs)):T∉X:=fun z=>by obtain⟨l,h⟩:=dT T z;rw[h]at e;cases e
theorem R1:∀k:Fin 4,(sO k).length<=16000000:=by decide+kernel
theorem R0:∀k:Fin 3,(p2 k).length<=16000000:=by decide+kernel
theorem RZ:∀k:Fin 2,(va k).length<=16000000:=by decide+kernel
theorem Simp.aG{f:bq}(dT:lz X H)(h:Simp H f v):cd X H (e5 f) v/\ei f/\aO f=1/\cS f=1:=by
 obtain⟨T,rfl,⟨k,rfl,e⟩|⟨a,b,rfl,e,h⟩|⟨s,rfl,e,aq,az⟩⟩:=h
 .exact⟨by rw[e5];exact⟨T,_,I,dT.no e,e,⟨_,_,I,⟨I,R1 k⟩,I⟩,by simp⟩,by rw[ei];trivial,by rw[aO],by rw[cS]⟩
 .exact⟨by rw[e5];exact⟨T,_,I,dT.no e,e,⟨_,_,I,⟨I,by decide+kernel⟩,_,_,rfl,rfl,_,_,rfl,rfl,rfl⟩,by simp⟩,by rw[ei];exact h,by rw[aO],by rw[cS]⟩
 .exact⟨by rw[e5];exact⟨T,_,I,dT.no e,e,⟨_,_,I,⟨I,by decide+kernel⟩,_,_,rfl,⟨rfl,by omega⟩,rfl⟩,by simp⟩,by rw[ei];exact⟨aq,az⟩,by rw[aO],by rw[cS]⟩
theorem qy(g:cY p H ai)(h:ai p=J (.lst (ms.map V.int))):ms.length<=90:=by
 obtain⟨ns,e,bf⟩:=g.l
 rw[h]at e
 have e:=dC.lst.inj (gk e)
 have:=congrArg List.length e
 rw[cI,cI]at this
 omega
theorem cd.grow(bh:p∈X)(g:cY p H ai){d:D}(h:cd X H d v):cd X ai d v :=
 cd.keep (fun b u nb e=>g.k b u (fun z=>nb (by rw[z];exact bh)) e) d h
structure yw(X:List ah)(H:ar)(f:bq)(v:V)(n m:Nat):Prop where
 d:cd X H (e5 f) v
 o:ei f
 h:aO f<=n
 s:cS f<=m
noncomputable def pM(g:Nat->List Int->bq×List Int)(deep er:Nat)(ms:List Int):Nat->List bq×List Int
 |0=>([],ms)
 |i+1=>((pM g deep er ms i).1++[(g (if i=er then deep-1 else 0) (pM g deep er ms i).2).1],(g (if i=er then deep-1 else 0) (pM g deep er ms i).2).2)
noncomputable def manyN(deep:Nat)(c:Int):Int:=if deep=1/\c/44%6=5 then 1+c/264%20 else 1+c/11%4
noncomputable def lK:Nat->Nat->List Int->bq×List Int
 |0,_,ms=>(.bare 0,ms)
 | d+1,deep,ms =>
  if deep=0 then sF (ms.headD 0%6).toNat ms.tail
  else if ms.headD 0%11<6 then sF (ms.headD 0%11).toNat ms.tail
  else if ms.headD 0%11=8\/ms.headD 0%11=9 then
   (.two (if ms.headD 0%11=8 then 0 else 1) (si (ms.tail.headD 0) (manyN deep (ms.headD 0)).toNat) (pM (lK d) deep (ms.headD 0/264%manyN deep (ms.headD 0)).toNat ms.tail.tail (manyN deep (ms.headD 0)).toNat).1,(pM (lK d) deep (ms.headD 0/264%manyN deep (ms.headD 0)).toNat ms.tail.tail (manyN deep (ms.headD 0)).toNat).2)
  else(.one (if ms.headD 0%11=6 then 0 else if ms.headD 0%11=7 then 1 else 2) (lK d (deep-1) ms.tail).1,(lK d (deep-1) ms.tail).2)
inductive LA(d:Nat)(vs:List V)(H:ar)(Q:bP)(E:cC):Prop where
 |mk (p:ah) (deep:Nat) (X:List ah) (ms:List Int) (bt:vs=[.ref p,.int ((deep:Nat):Int)]) (aq:deep<d) (az:H p=J (.lst (ms.map V.int))) (bE:ms.length<=90) (cz:p∈X) (dY:lz X H) (kT:∀v ai,cY p H ai->ai p=J (.lst ((lK d deep ms).2.map V.int))->yw X ai (lK d deep ms).1 v (deep+1) (20*deep+1)->Q v ai):LA d vs H Q E
def AA(d:Nat):cT:=fun vs H Q E=>LA d vs H Q E
structure x9(X:List ah)(l:ah)(d m:Nat)(H:ar)(ns:List af)(i:Nat)(fs:List bq)(vs:List V):Prop where
 ls:H l=J (.lst vs)
 ds:b3 (l::X) H (gL fs (ns.take i)) vs
 ln:fs.length=i
 ok:h3 fs
 aO:fA fs<=d
 cS:gD fs<=m
theorem x9.step{l:ah}{m e:Nat}{n:af}{f:bq}{fs:List bq}{vs:List V}(aa:x9 X l d m ax ns i fs vs)(dT:lz (l::X) ax)(bh:p∈X)(wY:l≠p)(g:cY p ax ai)(bS:yw (l::X) ai f v e k)(he:e<=d)(cF:ai T=aw)(bf:ns[i]?=J n)(r2:n.length<=100):
  x9 X l d (m+k) (upd (upd ai T (.tup [.str n,v])) l (.lst (vs++[V.ref T]))) ns (i+1) (fs++[f]) (vs++[V.ref T])/\lz (l::X) (upd (upd ai T (.tup [.str n,v])) l (.lst (vs++[V.ref T])))/\
  (∀b u,b∉l::X->ai b=J u->upd (upd ai T (.tup [.str n,v])) l (.lst (vs++[V.ref T])) b=J u):=by
 have uo:=dT.grow g
 have k2:∀b u,b∉l::X->ai b=J u->upd (upd ai T (.tup [.str n,v])) l (.lst (vs++[V.ref T])) b=J u:=fun b u nb e=>by
  rw[cn (fun z=>nb (by rw[z];exact gU ..)),cn (gv e cF)];exact e
 have KU:T∉l::X:=fun z=>by
  obtain⟨y,bF⟩:=uo T z
  rw[cF]at bF;cases bF
 have XA:T≠l:=fun z=>KU (by rw[z];exact gU ..)
 have aE:i<ns.length:=by
  rcases jC i ns.length with z|z
  .exact z
  .rw[yz z]at bf;cases bf
 refine⟨⟨aP,?_,by rw[eU,aa.ln];rfl,HI bS.o aa.ok,Im (by have:=bS.h;omega) aa.aO,?_⟩,?_,k2⟩
 ·rw[m4,bf]
  show b3 _ _ (gL (fs++[f]) (ns.take i++[n])) _
  rw[HT n f fs _ (by rw[kj,aa.ln];omega)]
  have ft:upd (upd ai T (.tup [.str n,v])) l (.lst (vs++[V.ref T])) T=J (.tup [.str n,v]):=by rw[cn XA,aP]
  have hd:cd (l::X) (upd (upd ai T (.tup [.str n,v])) l (.lst (vs++[V.ref T]))) (.tup [.str n,e5 f]) (.ref T):=⟨T,_,rfl,KU,ft,⟨_,_,rfl,⟨rfl,by omega⟩,_,_,rfl,cd.keep k2 _ bS.d,rfl⟩,by simp⟩
  exact b3.snoc hd _ (b3.keep k2 _ (b3.keep (fun b u nb e=>g.k b u (fun z=>nb (by rw[z];exact eo _ bh)) e) _ aa.ds))
 .rw[H5];have:=bS.s;have:=aa.cS;omega
 ·intro x av
  by_cases z:x=l
  .subst z;exact⟨_,aP⟩
  ·obtain⟨y,bF⟩:=uo x av
   exact⟨y,by rw[cn z,cn (gv bF cF)];exact bF⟩
set_option maxHeartbeats 4000000 in
theorem Ot(nb:et mg)(F:ed K mg "_law_form" yQ ["_law_pool_here","_law_deep"] f fd)(fP:bx P w K mg base 1 "_law_next" ["_law_pool_here"] mF)(s7:bx P w K mg base 1 "_law_names" ["_law_cell","_law_many"] FG)(s8:bx P w K mg base 2 "_law_simple" ["_law_pool_here","_law_way"] AG)
  (s4:bx P w K mg base (d+3) "_law_form" ["_law_pool_here","_law_deep"] (AA d)):bx P w K mg base (d+3+1) "_law_form" ["_law_pool_here","_law_deep"] (AA (d+1)):=by
 refine F.fC o6 (fun bD A _ s H vs Q E aF h=>?_)
 obtain⟨p,deep,X,ms,rfl,hd,bh,k7,fv,dT,q⟩:=h
 have c7:mb p H:=⟨ms,bh,k7⟩
 have gz:=mf k7
 obtain⟨R,cf⟩:∃R,R=lK (d+1) deep ms:=⟨_,rfl⟩
 rw[<-cf]at q
 rw[lK]at cf
 refine⟨_,(aS (b0 2 o6.bC (cu fP aF (ak (ag 0) aB) (hk:=by omega)))
  (aS (b0 3 o6.bC (aL cZ (ag 2) aA))
  (aS (cy (bZ cN (ag 1) aA) (aY (b0 3 o6.bC (aL cZ (ag 2) aA))) cx)
  (aS (cy (bZ oE (ag 3) aA) (aY (bB (cu s8 aF (ak (ag 0) (ak (ag 3) aB)) (hk:=by omega)))) cx)
  (aS (cy (e2.pt (ih (bZ cN (ag 3) aA) (iM (bZ cN (ag 3) aA)))) (aS (b0 4 o6.bC (aL eE aA (aL cZ (aL fG (ag 2) aA) aA)))
   (zc (cy (e2.pt (mZ (bZ cN (ag 1) aA) (mX (bZ cN (aL cZ (aL fG (ag 2) aA) aA) aA)))) (aY (b0 4 o6.bC (aL eE aA (aL cZ (aL fG (ag 2) aA) aA)))) cx)
   (aS (b0 5 o6.bC (cu s7 aF (ak (cu fP aF (ak (ag 0) aB) (hk:=by omega)) (ak (ag 4) aB)) (hk:=by omega)))
   (aS (b0 6 o6.bC (e4 aB))
   (aS (qo lr.never rfl (n1 rfl nb.nE (ak (ag 4) aB)) (eH (i:=7) o6.bC rfl (by exact Or.inl I))
    (aY (vZ (ki PySem.F.plainAttrs_list PySem.F.slot_list_append PySem.F.type_list_append tJ (ag 6) (ak (iN (ak (b8 cb (ag 5) (ag 7)) (ak (cu s4 aF (ak (ag 0) (ak (aL lg (aL gB (ag 1) aA) (n2 yZ rfl nb.ow n4 (ak (fc cN (ag 7) (aL cZ (aL fG (ag 2) aA) (ag 4))) aB))) aB)) (hk:=by omega)) aB))) aB)))))
   (aY (bB (iN (ak (b8 cb (e4 (ak b7 (ak b7 aB))) (aL gB (ag 3) aA)) (ak (ag 6) aB)))))))))) cx)
  (aY (bB (iN (ak (b8 cb (e4 (ak b7 (ak b7 (ak b7 (ak b7 (ak b7 aB)))))) (aL gB (ag 3) aA)) (ak (cu s4 aF (ak (ag 0) (ak (aL gB (ag 1) aA) aB)) (hk:=by omega)) aB)))))))))),?_⟩
 try dsimp only[d5,d6,d7,d8]
 refine⟨_,I,p,ms,I,bh,k7,?_⟩
 have b1:=cY.pop c7 gz
 have eS:=aP (H:=H) (a:=p) (o :=.lst (ms.tail.map V.int))
 generalize upd H p (.lst (ms.tail.map V.int))=H1 at b1 eS ⊢
 generalize ms.headD 0=c at cf ⊢
 have Lm:∀way:Nat,way<6->R=sF way ms.tail->AG [.ref p,.int ((way:Nat):Int)] H1 (fun v ai=>gf H ai (Q v)) h9:=fun way hw he=>⟨p,way,ms.tail,rfl,hw,eS,gz,fun v ai g Wd hs=>by
  obtain⟨aq,az,bE,cz⟩:=Simp.aG (dT.grow (b1.trans g)) hs
  rw[he]at q
  exact⟨_,(b1.trans g).sub,q v ai (b1.trans g) Wd ⟨aq,az,by omega,by omega⟩⟩⟩
 obtain⟨hf,WA,DA⟩:=hR c 11 (by decide)
 have zz:c%11=((hf:Nat):Int):=DA
 refine⟨_,I,_,_,I,I,(by show(0:Int)<11;decide),?_⟩
 dsimp only
 rw[zz]
 refine⟨_,I,I,_,I,dk (fun qr=>?_) (fun qr=>?_)⟩
 ·obtain⟨MG,WB,Uv⟩:=hR c 6 (by decide)
  have JC:c%6=((MG:Nat):Int):=Uv
  refine⟨_,I,_,_,I,I,(by show(0:Int)<6;decide),?_⟩
  dsimp only
  rw[JC]
  have Ek:deep=0:=by have:=V.int.inj qr;omega
  exact⟨_,I,.inl ⟨_,_,I,I,_,I,h1 (by omega) ⟨_,I,_,I,Lm MG WB (by rw[cf,if_pos Ek,JC,Int.toNat_natCast])⟩⟩⟩
 have Ek:deep≠0:=fun z=>qr (by rw[z];rfl)
 rw[if_neg Ek,zz]at cf
 refine⟨_,I,.inl ⟨_,_,I,I,_,I,dk (fun rF=>?_) (fun rF=>?_)⟩⟩
 .exact⟨_,I,_,I,Lm hf (by omega) (by rw[cf,if_pos (by omega),Int.toNat_natCast])⟩
 rw[if_neg (by omega)]at cf
 refine⟨_,I,I,_,I,(fun(kr:(hf=8\/hf=9)->_)=>dk (fun Dh=>kr (.inl (by have:=V.int.inj Dh;omega))) (fun Dh=>⟨_,I,I,_,I,dk (fun Di=>kr (.inr (by have:=V.int.inj Di;omega))) (fun Di=>?_)⟩)) (fun WC=>?_)⟩
 ·obtain⟨oA,acg,Ul⟩:=hR (c/11) 4 (by decide)
  have Du:c/11%4=((oA:Nat):Int):=Ul
  have ba:(1:Int)+((oA:Nat):Int)=((oA+1:Nat):Int):=by omega
  refine⟨_,I,_,_,I,I,⟨by decide,by decide⟩,_,_,rfl,rfl,(by show(0:Int)<4;decide),.inl ⟨_,_,rfl,rfl,?_⟩⟩
  dsimp only
  rw[Du,ba]
  refine⟨fun bU ai=>H1=ai/\∃mN:Nat,0<mN/\mN<=20/\manyN deep c=((mN:Nat):Int)/\bU=[J (.ref p),J (.int ((deep:Nat):Int)),J (.int c),J (.int ((hf:Nat):Int)),J (.int ((mN:Nat):Int)),aw,aw,aw],?_,?_⟩
  ·refine⟨_,I,I,_,I,dk (fun k1=>?_) (fun k1=>⟨I,oA+1,by omega,by omega,by unfold manyN;rw[if_neg (fun z=>k1 (by rw[z.1];rfl)),Du,ba],rfl⟩)⟩
   refine⟨_,I,_,_,I,I,⟨by decide,by decide⟩,_,_,rfl,rfl,(by show(0:Int)<6;decide),rfl,_,rfl,dk (fun k2=>?_) (fun k2=>⟨rfl,oA+1,by omega,by omega,by unfold manyN;rw[if_neg (fun z=>k2 (congrArg V.int z.2)),Du,ba],rfl⟩)⟩
   obtain⟨z9,uh,Uk⟩:=hR (c/264) 20 (by decide)
   have Jz:c/264%20=((z9:Nat):Int):=Uk
   refine⟨_,I,_,_,I,I,⟨by decide,by decide⟩,_,_,rfl,rfl,(by show(0:Int)<20;decide),.inl ⟨_,_,rfl,rfl,rfl,z9+1,by omega,by omega,(by unfold manyN;rw[if_pos ⟨by have:=V.int.inj k1;omega,V.int.inj k2⟩,Jz];omega),?_⟩⟩
   dsimp only
   rw[Jz,show(1:Int)+((z9:Nat):Int)=((z9+1:Nat):Int) by omega]
   rfl
  rintro bV abx ⟨rfl,mN,Ey,VZ,Ez,rfl⟩
  rw[if_pos (by omega),Ez,Int.toNat_natCast]at cf
  refine⟨_,I,p,ms.tail,I,eS,gz,⟨_,I,_,mN,I,Ey,VZ,fun D dz lR gO=>?_⟩⟩
  have cL:=b1.trans (cY.pop b1.l (mf gz))
  generalize si (ms.tail.headD 0) mN=ns at cf lR gO ⊢
  generalize ms.tail.tail=es at cf cL dz ⊢
  have fb:=cL.ext (Ext.lst (xs:=ns.map V.str) dz)
  refine⟨UF _,fun l aH=>?_⟩
  have Bj:=Ext.lst (xs:=[]) aH
  have iY:=fb.ext Bj
  have k7:H l=aw:=fb.free aH
  have zI:H D=aw:=cL.free dz
  have wY:l≠p:=fb.ne aH
  have U6:D≠l:=fun z=>by rw[<-z,aP]at aH;cases aH
  have r0:l∉X:=fun z=>by obtain⟨y,bF⟩:=dT l z;rw[k7]at bF;cases bF
  have D1:D∉l::X:=fun z=>by
   rcases dy.mp z with z|z
   .exact U6 z
   .obtain⟨y,bF⟩:=dT D z;rw[zI]at bF;cases bF
  have lL:upd (upd (upd H1 p (.lst (es.map V.int))) D (.lst (ns.map V.str))) l (.lst []) D=J (.lst (ns.map V.str)):=Bj.s _ _ aP
  have D7:=aP (H:=upd (upd H1 p (.lst (es.map V.int))) D (.lst (ns.map V.str))) (a:=l) (o:=dC.lst [])
  have zD:upd (upd (upd H1 p (.lst (es.map V.int))) D (.lst (ns.map V.str))) l (.lst []) p=J (.lst (es.map V.int)):=Bj.s _ _ ((Ext.lst (xs:=ns.map V.str) dz).s _ _ aP)
  generalize upd (upd (upd H1 p (.lst (es.map V.int))) D (.lst (ns.map V.str))) l (.lst [])=hO at iY lL D7 zD ⊢
  obtain⟨er,VO,Jy⟩:=hR (c/264) mN Ey
  rw[Jy,Int.toNat_natCast]at cf
  refine⟨_,I,_,I,by omega,by omega,?_⟩
  have hY:(((mN:Nat):Int)).toNat=mN:=by omega
  rw[hY]
  refine vR (fun i ae ax=>cY p H ax/\lz (l::X) ax/\ax D=J (.lst (ns.map V.str))/\ax p=J (.lst ((pM (lK d) deep er es i).2.map V.int))/\∃vs z,ae=[J (.ref p),J (.int ((deep:Nat):Int)),J (.int c),J (.int ((hf:Nat):Int)),J (.int ((mN:Nat):Int)),J (.ref D),J (.ref l),z]/\x9 X l deep (i+if er<i then 20*(deep-1)else 0) ax ns i (pM (lK d) deep er es i).1 vs) ?_ ?_ ?_
  ·refine⟨iY,?_,lL,zD,[],aw,I,⟨D7,by show b3 _ _ (gL [] _) _;rw[gL];rfl,rfl,by show h3 [];rw[h3];trivial,by show fA []<=_;rw[fA];omega,by show gD []<=_;rw[gD];omega⟩⟩
   intro x av
   rcases dy.mp av with z|z
   .subst z;exact⟨_,D7⟩
   .exact(dT.grow iY) x z
  ·rintro i ae ax aE ⟨g2,kY,hl,gM,vs,z,rfl,aa⟩
   have g9:i<ns.length:=by omega
   have w1:ns[i]?=J ns[i]:=cV g9
   have iE:dv (ns.map V.str) (0+((i:Nat):Int))=J (.str ns[i]):=by rw[Int.zero_add];exact c5 (by rw[gm,w1];rfl)
   refine⟨_,I,.inl ⟨I,_,bA aa.ls⟩,_,I,_,I,.inl (.inl ⟨_,_,_,_,I,I,bA hl,iE,?_⟩)⟩
   refine⟨_,I,_,I,_,_,I,I,_,I,_,I,_,_,I,I,⟨by decide,by decide⟩,_,rfl,_,_,rfl,rfl,(by omega),rfl,.inl (.inr ⟨_,rfl,?_⟩)⟩
   have T3:decide (V.int (0+((i:Nat):Int))=V.int (c/264%((mN:Nat):Int)))=decide (i=er):=by
    rw[Jy];exact decide_eq_decide.mpr ⟨fun h=>by have:=V.int.inj h;omega,fun h=>by rw[h,Int.zero_add]⟩
   rw[T3]
   obtain⟨nd,Vy,Vz,ev,El⟩:∃nd:Nat,nd<d/\nd+1<=deep/\(((deep:Nat):Int)-1)*(if decide (i=er)=au then 1 else 0)=((nd:Nat):Int)/\(nd=if i=er then deep-1 else 0):=⟨if i=er then deep-1 else 0,by split<;>omega,by split<;>omega,by by_cases z:i=er<;>simp only[z,decide_true,decide_false,if_true,if_false]<;>simp<;>omega,rfl⟩
   refine .inl ⟨_,_,I,I,.inr (by split<;>exact⟨by decide,by decide⟩),p,nd,l::X,_,(by rw[<-ev];rfl),Vy,gM,qy g2 gM,eo _ fv,kY,fun part bL g3 px We=>⟨iB,fun T cF=>?_⟩⟩
   have Ka:bL l=J (.lst vs):=g3.k _ _ wY aa.ls
   have qc:=Ext.tup (xs:=[V.str ns[i],part]) cF
   have cG:vs.length=i:=by
    rw[cU.len _ (b3.at _ aa.ds),tU,aa.ln]
   refine⟨l,_,_,I,I,qc.s _ _ Ka,(by rw[cG];exact ez (show i<100000 by omega) (by decide)),?_⟩
   obtain⟨gF,NK,jo⟩:=aa.step kY fv wY g3 We Vz cF w1 (by have:=(m6 gO).2 _ (List.getElem_mem g9);omega)
   refine⟨((g2.trans g3).ext qc).set k7 (qc.s _ _ Ka) wY,NK,jo _ _ D1 (g3.k _ _ (fun z=>D1 (by rw[z];exact eo _ fv)) hl),(by rw[pM,<-El,cn (e3 wY)];exact qc.s _ _ px),vs++[V.ref T],_,I,?_⟩
   rw[pM,<-El]
   refine⟨gF.ls,gF.ds,gF.ln,gF.ok,gF.aO,?_⟩
   refine dp gF.cS ?_
   rw[El]
   by_cases z:i=er
   .rw[if_pos z,if_neg (by omega),if_pos (by omega)];omega
   ·rw[if_neg z]
    by_cases el:er<i
    .rw[if_pos el,if_pos (by omega)];omega
    .rw[if_neg el];omega
  ·rintro ae ax ⟨g2,kY,hl,gM,vs,z,rfl,aa⟩
   obtain⟨ww,w8,EU⟩:∃ww:Fin 2,dv ([F1,MH].map V.str) (((hf:Nat):Int)-8)=J (.str (va ww))/\(if((hf:Nat):Int)=8 then(0:Fin 2)else 1)=ww:=by
    rcases WC with rfl|rfl
    .exact⟨0,c5 (j:=0) I,I⟩
    .exact⟨1,c5 (j:=1) I,I⟩
   rw[EU]at cf
   subst cf
   refine⟨iB,fun g aN=>⟨_,I,_,_,I,I,.inl (.inl ⟨_,_,_,_,I,I,bA aP,w8,_,I,iB,fun T cF=>?_⟩)⟩⟩
   have x5:=(Ext.lst aN).trans (Ext.tup (xs:=[V.str (va ww),V.ref l]) cF)
   have rO:=g2.ext x5
   have XU:ns.take mN=ns:=UV (by omega)
   have cJ:=aa.ds
   rw[XU]at cJ
   have iQ:vs.length=mN:=by rw[cU.len _ (b3.at _ aa.ds),tU,aa.ln]
   have ho:T∉X:=(dT.grow rO).no aP
   refine⟨_,rO.sub,q _ _ rO (x5.s _ _ gM) ⟨?_,?_,?_,?_⟩⟩
   ·rw[e5]
    exact⟨T,_,I,ho,aP,⟨_,_,I,⟨I,RZ ww⟩,_,_,I,⟨l,vs,I,r0,x5.s _ _ aa.ls,b3.weak (fun y bF=>eo _ bF) _ (b3.same x5.s cJ),by omega⟩,rfl⟩,by simp⟩
   .rw[ei];exact⟨gO,by rw[aa.ln,lR],aa.ok⟩
   .rw[aO];have:=aa.aO;omega
   ·rw[cS]
    have:=aa.cS
    rw[if_pos VO]at this
    omega
 have hw:hf=6\/hf=7\/hf=10:=by
  have DY:hf≠8:=fun z=>Dh (by rw[z];rfl)
  have fM:hf≠9:=fun z=>Di (by rw[z];rfl)
  omega
 obtain⟨ww,w8,EU⟩:∃ww:Fin 3,dv ([AV,FZ,af.ofString "",af.ofString "",F2].map V.str) (((hf:Nat):Int)-6)=J (.str (p2 ww))/\(if((hf:Nat):Int)=6 then(0:Fin 3)else if((hf:Nat):Int)=7 then 1 else 2)=ww:=by
  rcases hw with rfl|rfl|rfl
  .exact⟨0,c5 (j:=0) I,I⟩
  .exact⟨1,c5 (j:=1) I,I⟩
  .exact⟨2,c5 (j:=4) I,I⟩
 rw[if_neg (by omega),EU]at cf
 subst cf
 refine⟨(by show 5<=bW;decide),fun g aN=>⟨_,I,_,_,I,I,.inl (.inl ⟨_,_,_,_,I,I,bA aP,w8,?_⟩)⟩⟩
 have Gq:=b1.ext (Ext.lst (xs:=[AV,FZ,af.ofString "",af.ofString "",F2].map V.str) aN)
 have ev:((deep:Nat):Int)-1=((deep-1:Nat):Int):=by omega
 refine⟨_,I,_,I,_,_,I,I,p,deep-1,X,ms.tail,(by rw[<-ev];rfl),by omega,(Ext.lst aN).s _ _ eS,gz,fv,dT.grow Gq,fun v ai g' nw bS=>⟨iB,fun T cF=>?_⟩⟩
 have qc:=Ext.tup (xs:=[V.str (p2 ww),v]) cF
 have rO:=(Gq.trans g').ext qc
 have ho:T∉X:=(dT.grow rO).no aP
 refine⟨_,rO.sub,q _ _ rO (qc.s _ _ nw) ⟨?_,?_,?_,?_⟩⟩
 .rw[e5];exact⟨T,_,I,ho,aP,⟨_,_,I,⟨I,R0 ww⟩,_,_,I,bS.d.same qc.s,I⟩,by simp⟩
 .rw[ei];exact bS.o
 .rw[aO];have:=bS.h;omega
 .rw[cS];have:=bS.s;omega
theorem Ha(nb:et mg)(F:ed K mg "_law_form" yQ ["_law_pool_here","_law_deep"] f fd)(fP:bx P w K mg base 1 "_law_next" ["_law_pool_here"] mF)(s7:bx P w K mg base 1 "_law_names" ["_law_cell","_law_many"] FG)(s8:bx P w K mg base 2 "_law_simple" ["_law_pool_here","_law_way"] AG):∀d:Nat,bx P w K mg base (d+3) "_law_form" ["_law_pool_here","_law_deep"] (AA d)
 |0=>bx.none F fun vs H Q E h=>by obtain⟨_,_,_,_,_,h,_⟩:=h;omega
 |d+1=>Ot nb F fP s7 s8 (Ha nb F fP s7 s8 d)
theorem rm{X:List ah}{H:ar}:∀(fs:List bq)(ns:List af){vs:List V}{i:Nat}{y:V},ns.length=fs.length->b3 X H (gL fs ns) vs->vs[i]?=J y->∃f n T v,fs[i]?=J f/\ns[i]?=J n/\y=.ref T/\T∉X/\H T=J (.tup [.str n,v])/\cd X H (e5 f) v
 |[],ns,vs,i,y,bt,h,e=>by
  rw[gL]at h
  obtain rfl:vs=[]:=h
  cases e
 |f::fs,[],vs,i,y,bt,h,e=>by cases bt
 |f::fs,n::ns,vs,0,y,bt,h,e=>by
  rw[gL]at h
  obtain⟨v,r,rfl,⟨T,ws,rfl,cF,ft,⟨_,_,rfl,⟨rfl,_⟩,df,_,rfl,bS,rfl⟩,_⟩,cc⟩:=h
  cases e
  exact⟨f,n,T,df,I,I,I,cF,ft,bS⟩
 |f::fs,n::ns,vs,i+1,y,bt,h,e=>by
  rw[gL]at h
  obtain⟨v,r,rfl,q,cc⟩:=h
  exact rm fs ns (by simpa using bt) cc e
theorem rl:∀{fs:List bq}{i:Nat}{f:bq},h3 fs->fs[i]?=J f->ei f/\aO f<=fA fs
 |g::fs,0,f,h,e=>by
  cases e
  rw[h3]at h
  rw[fA]
  exact⟨h.1,by omega⟩
 |g::fs,i+1,f,h,e=>by
  rw[h3]at h
  obtain⟨a,b⟩:=rl h.2 (show fs[i]?=J f from e)
  rw[fA]
  exact⟨a,by omega⟩
theorem SP(f:bq):1<=cS f:=by cases f<;>simp only[cS]<;>omega
def hP(X:List ah)(H:ar):Prop:=∀x,x∈X->∃o,H x=J o
theorem hP.no(h:hP X H)(e:H t=aw):t∉X:=fun z=>by
 obtain⟨o,q⟩:=h t z
 rw[e]at q;cases q
theorem hP.ext(h:hP X H)(m:dJ H ai):hP X ai:=fun x av=>by
 obtain⟨u,q⟩:=h x av
 exact⟨u,m _ _ q⟩
theorem hP.add{D:ah}{o:dC}(h:hP X H)(e:H D=J o):hP (D::X) H:=fun x av=>by
 rcases dy.mp av with rfl|z
 .exact⟨o,e⟩
 .exact h x z
theorem fl.snoc{c:fX}{X:List ah}{H:ar}{f:bq}{o:ah}(aQ:dn c X H f o):∀(fs:List bq){os:List ah},fl c X H fs os->fl c X H (fs++[f]) (os++[o])
 |[],os,h=>by
  obtain rfl:os=[]:=h
  exact⟨o,[],I,aQ,I⟩
 |g::fs,os,h=>by
  obtain⟨a,r,rfl,q,cc⟩:=h
  exact⟨a,r++[o],I,q,fl.snoc aQ fs cc⟩
inductive LW(c:fX)(d:Nat)(vs:List V)(H:ar)(Q:bP)(E:cC):Prop where
 |mk (jw:V) (f:bq) (X:List ah) (bt:vs=[jw]) (aq:hP X H) (az:cd X H (e5 f) jw) (bE:ei f) (cz:aO f<=d) (dY:∀o ai,Ext H ai->dn c X ai f o->Q (.ref o) ai):LW c d vs H Q E
def AE(c:fX)(d:Nat):cT:=fun vs H Q E=>LW c d vs H Q E
set_option maxHeartbeats 4000000 in
theorem Oq{f:ah}{fd:hB}{c:fX}(nb:et mg)(F:ed K mg "_law_made" yP ["_law_form_here"] f fd)
  (tm:kJ K (c.b 0)) (uH:mg "Nothing"=J (.ref (c.b 0))) (tn:kJ K (c.b 1)) (uI:mg "Truth"=J (.ref (c.b 1))) (tp:kJ K (c.b 2)) (uJ:mg "Whole"=J (.ref (c.b 2))) (tl:kJ K (c.b 3)) (uG:mg "Fraction"=J (.ref (c.b 3)))
  (tx:jX P w K mg base 1 "Span" c.s ["self","low","high"] (FN c.s)) (ts:jX P w K mg base 2 "Letters" c.l ["self","signs"] (FE c.l)) (tw:jX P w K mg base 4 "Record" (c.t 0) ["self","parts"] (u0 (c.t 0))) (tr:jX P w K mg base 4 "Choice" (c.t 1) ["self","cases"] (u0 (c.t 1)))
  (tv:jX P w K mg base 1 "Maybe" (c.o 0) ["self","inner"] (pX (c.o 0))) (tu:jX P w K mg base 1 "Many" (c.o 1) ["self","inner"] (pX (c.o 1))) (tA:jX P w K mg base 1 "Turned" (c.o 2) ["self","inner"] (pX (c.o 2)))
  (oU:bx P w K mg base (d+7) "_law_made" ["_law_form_here"] (AE c d)):bx P w K mg base (d+7+1) "_law_made" ["_law_form_here"] (AE c (d+1)):=by
 refine F.fC Hl (fun bD A _ s H vs Q E aF h=>?_)
 obtain⟨jw,g,X,rfl,dT,bS,aU,eg,q⟩:=h
 refine xO _ (aS (b0 1 Hl.bC (b8 cb (ag 0) aA))
  (aS (cy (bZ cN (ag 1) b7) (aY (bB (yY tm rfl uH))) cx)
  (aS (cy (bZ cN (ag 1) b7) (aY (bB (yY tn rfl uI))) cx)
  (aS (cy (bZ cN (ag 1) b7) (aY (bB (yY tp rfl uJ))) cx)
  (aS (cy (bZ cN (ag 1) b7) (aY (bB (yY tl rfl uG))) cx)
  (aS (cy (bZ cN (ag 1) b7) (aY (bB (rj tx aF (ak (b8 cb (ag 0) aA) (ak (b8 cb (ag 0) aA) aB)) (hk:=by omega)))) cx)
  (aS (cy (bZ cN (ag 1) b7) (aY (bB (rj ts aF (ak (b8 cb (ag 0) aA) aB) (hk:=by omega)))) cx)
  (aS (cy (bZ cN (ag 1) b7) (aY (bB (rj tw aF (ak (hQ ["_law_name","_law_inner"] [] rfl (by decide+kernel) trivial (ja (b8 cb (ag 0) aA)) (fun _ _ _ _ _=>(o9 rfl (jk (eH (i:=0) (show(["_law_name","_law_inner"]:List af).Nodup by decide+kernel)) (jk (eH (i:=1) (show(["_law_name","_law_inner"]:List af).Nodup by decide+kernel)) o1)))) (fun _ _ _ _ _=>iA) (fun _ _ _ _ _=>(iN (ak (ag 0) (ak (cu oU aF (ak (ag 1) aB) (hk:=by omega)) aB))))) aB) (hk:=by omega)))) cx)
  (aS (cy (bZ cN (ag 1) b7) (aY (bB (rj tr aF (ak (hQ ["_law_name","_law_inner"] [] rfl (by decide+kernel) trivial (ja (b8 cb (ag 0) aA)) (fun _ _ _ _ _=>(o9 rfl (jk (eH (i:=0) (show(["_law_name","_law_inner"]:List af).Nodup by decide+kernel)) (jk (eH (i:=1) (show(["_law_name","_law_inner"]:List af).Nodup by decide+kernel)) o1)))) (fun _ _ _ _ _=>iA) (fun _ _ _ _ _=>(iN (ak (ag 0) (ak (cu oU aF (ak (ag 1) aB) (hk:=by omega)) aB))))) aB) (hk:=by omega)))) cx)
  (aS (cy (bZ cN (ag 1) b7) (aY (bB (rj tv aF (ak (cu oU aF (ak (b8 cb (ag 0) aA) aB) (hk:=by omega)) aB) (hk:=by omega)))) cx)
  (aS (cy (bZ cN (ag 1) b7) (aY (bB (rj tu aF (ak (cu oU aF (ak (b8 cb (ag 0) aA) aB) (hk:=by omega)) aB) (hk:=by omega)))) cx)
  (aY (bB (rj tA aF (ak (cu oU aF (ak (b8 cb (ag 0) aA) aB) (hk:=by omega)) aB) (hk:=by omega))))))))))))))) fun G fk eK go=>?_
 try dsimp only[d5,d6,d7,d8]at go
 have a0:∀(x:V)(r:List V),dv (x::r) 0=J x:=fun x r=>c5 (j:=0) rfl
 have a1:∀(x y:V)(r:List V),dv (x::y::r) 1=J y:=fun x y r=>c5 (j:=1) rfl
 cases g with
 | bare k =>
  rw[e5]at bS
  obtain⟨T,_,rfl,ho,e,⟨_,_,rfl,⟨rfl,_⟩,rfl⟩,_⟩:=bS
  obtain⟨kF,qz⟩:∃kF,kF=c.b k:=⟨_,rfl⟩
  rcases ni k with rfl|rfl|rfl|rfl
  all_goals
   subst eK
   refine go (hb I e ?_)
   iterate 3 (try refine du I (by decide+kernel) ?_)
   refine iz I fun N=>?_
   rw[<-qz]
   intro x aG aq az nk
   have E:=Ext.made (C:=kF) (fs:=[]) aq az nk
   exact⟨_,E.sub,q _ _ E ⟨dT.no aq,aG,by rw[<-qz];exact aP⟩⟩
 |sp lo aE =>
  rw[e5]at bS
  rw[ei]at aU
  obtain⟨T,_,rfl,ho,e,⟨_,_,rfl,⟨rfl,_⟩,_,_,rfl,rfl,_,_,rfl,rfl,rfl⟩,_⟩:=bS
  subst eK
  refine go (hb I e ?_)
  iterate 4 refine du I (by decide+kernel) ?_
  have a2:dv [V.str qW,V.int lo,V.int aE] 2=J (.int aE):=c5 (j:=2) rfl
  refine iz I fun N=>⟨_,I,.inl (.inr ⟨_,_,_,_,I,I,ck e,a1 _ _ _,_,I,.inl (.inr ⟨_,_,_,_,I,I,ck e,a2,?_⟩)⟩)⟩
  intro x aG aq az nk
  refine⟨x,aG,lo,aE,I,aP,aU.1,I,?_⟩
  rw[kn]
  have E:=Ext.made (C:=c.s) (fs:=Mi lo aE) aq az nk
  exact⟨_,E.sub,q _ _ E ⟨dT.no aq,aG,aP⟩⟩
 |le cg =>
  rw[e5]at bS
  rw[ei]at aU
  obtain⟨T,_,rfl,ho,e,⟨_,_,rfl,⟨rfl,_⟩,_,_,rfl,⟨rfl,_⟩,rfl⟩,_⟩:=bS
  subst eK
  refine go (hb I e ?_)
  iterate 5 refine du I (by decide+kernel) ?_
  refine iz I fun N=>⟨_,I,.inl (.inr ⟨_,_,_,_,I,I,ck e,a1 _ _ _,?_⟩)⟩
  intro x aG aq az nk
  refine⟨x,aG,cg,I,aP,by omega,aU.1,rfl,?_⟩
  rw[kn]
  have E:=Ext.made (C:=c.l) (fs:=KD cg) aq az nk
  exact⟨_,E.sub,q _ _ E ⟨dT.no aq,aG,aP⟩⟩
 | one k g =>
  rw[e5]at bS
  rw[ei]at aU
  rw[aO]at eg
  obtain⟨T,_,rfl,ho,e,⟨_,_,rfl,⟨rfl,_⟩,df,_,rfl,hd,rfl⟩,_⟩:=bS
  have a1:=a1 (.str (p2 k)) df []
  obtain⟨kF,qz⟩:∃kF,kF=c.o k:=⟨_,rfl⟩
  rcases og k with rfl|rfl|rfl
  all_goals
   subst eK
   refine go (hb I e ?_)
   iterate 10 (try refine du I (by decide+kernel) ?_)
   try refine iz I fun N=>?_
   rw[<-qz]
   refine⟨_,I,.inl (.inr ⟨_,_,_,_,I,I,ck e,a1,df,g,X,I,dT,hd,aU,by omega,fun o ai nT U7=>?_⟩)⟩
   intro x aG aq az nk
   refine⟨x,aG,o,I,aP,I,?_⟩
   rw[kn]
   have E:=Ext.made (C:=kF) (fs:=[("inner",V.ref o)]) aq az nk
   have M:=nT.trans E
   exact⟨_,M.sub,q _ _ M ⟨(dT.ext nT.s).no aq,aG,o,by rw[<-qz];exact aP,dn.keep (fun b u _ e=>E.s b u e) g U7⟩⟩
 | two k ns fs =>
  rw[e5]at bS
  rw[ei]at aU
  rw[aO]at eg
  obtain⟨gO,cG,kv⟩:=aU
  obtain⟨T,_,rfl,ho,e,⟨_,_,rfl,⟨rfl,_⟩,_,_,rfl,⟨l,jq,rfl,r0,hX,cJ,J9⟩,rfl⟩,_⟩:=bS
  have iQ:jq.length=fs.length:=by rw[cU.len _ (b3.at _ cJ),tU]
  have a1:=a1 (.str (va k)) (.ref l) []
  obtain⟨kF,qz⟩:∃kF,kF=c.t k:=⟨_,rfl⟩
  rcases rM k with rfl|rfl
  all_goals
   subst eK
   refine go (hb I e ?_)
   iterate 7 (try refine du I (by decide+kernel) ?_)
   refine iz I fun N=>?_
   rw[<-qz]
   have VI:=m6 gO
   refine .inl ⟨_,I,.inl (.inr ⟨_,_,_,_,I,I,ck e,a1,l,I,⟨_,bA hX⟩,fun D dz=>?_⟩)⟩
   have D1:D∉X:=dT.no dz
   refine Hx (K:=K) (a:=l) (xs:=jq) (fun i aM ax=>Ext H ax/\∃aI:List (ah×af×ah),aM=aI.map (fun x=>V.ref x.1)/\gP aI=ns.take i/\(∀x,x∈aI->x.1∉D::X/\ax x.1=J (.tup [.str x.2.1,.ref x.2.2]))/\fl c (D::X) ax (fs.take i) (hZ aI)) (fun ae=>∃ea el,ae=[ea,el]) (by omega) ⟨_,_,I⟩ ?_ ?_ ?_ ?_
   ·rintro i aM ax ⟨M2,_⟩
    exact bA (M2.s _ _ hX)
   .exact⟨Ext.lst dz,[],I,I,(fun x av=>nomatch av),I⟩
   ·rintro i x av aM bV H1 ⟨ea,el,rfl⟩ ⟨nT,aI,rfl,r3,EK,zK⟩ ef my R cf
    obtain⟨g,nm,dK,df,aN,k8,rfl,pB,jG,hd⟩:=rm fs ns cG cJ av
    obtain⟨pP,ot⟩:=rl kv aN
    have qD:hP (D::X) H1:=(dT.ext nT.s).add ef
    have Ut:fs.take (i+1)=fs.take i++[g]:=by rw[m4,aN];rfl
    refine⟨_,_,I,ck (nT.s _ _ jG),I,_,_,I,_,_,I,I,?_⟩
    refine⟨_,I,_,I,df,g,D::X,I,qD,cd.same nT.s (cd.add dz _ hd),pP,by omega,fun o bL tq D2=>⟨iB,fun iK zP=>?_⟩⟩
    have fW:=Ext.tup (xs:=[V.str nm,.ref o]) zP
    have Eb:=qD.ext tq.s
    have JO:iK∉D::X:=Eb.no zP
    have h0:bL D=J (.lst (aI.map fun x=>V.ref x.1)):=tq.s _ _ ef
    have JI:=fW.s _ _ h0
    have Vf:iK≠D:=fun z=>JO (by rw[z];exact gU ..)
    have er:∀b u,b∉D::X->bL b=J u->upd (upd bL iK (.tup [.str nm,.ref o])) D (.lst ((aI.map fun x=>V.ref x.1)++[V.ref iK])) b=J u:=fun b u nb e=>by
     rw[cn (fun z=>nb (by rw[z];exact gU ..))];exact fW.s _ _ e
    refine cf _ _ _ ⟨_,_,I⟩ JI ⟨⟨fun b u e=>?_,fun cl=>Cr JI (fW.c (tq.c (nT.c cl)))⟩,aI++[(iK,nm,o)],by rw[ie];rfl,?_,fun y bF=>?_,?_⟩
    ·rw[cn (gv e dz)]
     exact fW.s _ _ (tq.s b u (nT.s b u e))
    ·unfold gP at r3 ⊢
     rw[ie,r3,m4,k8];rfl
    ·rcases List.mem_append.mp bF with z|z
     ·obtain⟨f3,eB⟩:=EK y z
      exact⟨f3,er _ _ f3 (tq.s _ _ eB)⟩
     ·rw[hq.mp z]
      exact⟨JO,by show upd _ D _ iK=_;rw[cn Vf,aP]⟩
    ·rw[Ut,show hZ (aI++[(iK,nm,o)])=hZ aI++[o] by unfold hZ;rw[ie];rfl]
     exact fl.snoc (dn.keep er _ D2) _ (fl.keep er _ (fl.keep (fun b u _ e=>tq.s b u e) _ zK))
   ·rintro aM ai my nq ⟨GH,aI,rfl,r3,EK,zK⟩
    rw[iQ,UV (by omega)]at r3
    rw[iQ,UV (cQ _)]at zK
    rw[cI]at my
    have c7:Parts ai D aI:=⟨nq,fun x av=>(EK x av).2,by omega,fun x av=>dp (VI.2 _ (by rw[<-r3];exact List.mem_map.mpr ⟨x,av,I⟩)) (by decide)⟩
    intro y aG bF i7 lQ
    have ia:=Ext.made (C:=kF) (fs:=[]) bF i7 lQ
    refine⟨y,aG,D,aI,I,aP,c7.same ia.s,by rw[r3];exact gO,fun dA dx aq az nk=>⟨I,?_⟩⟩
    have d9:dA≠y:=fun z=>by rw[z,aP]at aq;cases aq
    have es:dx≠y:=fun z=>by rw[z,aP]at az;cases az
    rw[y0 es,y0 d9,kn]
    have Bl:=Ext.made (C:=kF) (fs:=AQ dA dx) bF i7 lQ
    have g1:upd (upd ai aG (.own y)) y (.ins kF aG (AQ dA dx)) dA=aw:=by rw[cn d9]at aq ⊢;exact aq
    have ta:=Ext.lst (xs:=(gP aI).map V.str) g1
    have g2:upd (upd (upd ai aG (.own y)) y (.ins kF aG (AQ dA dx))) dA (.lst ((gP aI).map V.str)) dx=aw:=by rw[cn (e3 nk)];rw[cn es]at az ⊢;exact az
    have Bm:=Ext.lst (xs:=(hZ aI).map V.ref) g2
    have E:=(Bl.trans ta).trans Bm
    have M:=GH.trans E
    have uo:=dT.ext GH.s
    refine⟨_,M.sub,q _ _ M ⟨uo.no bF,aG,dA,dx,hZ aI,by rw[<-qz];exact(ta.trans Bm).s _ _ aP,uo.no (Bl.s.free g1),uo.no ((Bl.trans ta).s.free g2),by rw[<-r3];exact Bm.s _ _ aP,aP,fl.keep (fun b u _ e=>E.s b u e) _ (fl.weak (fun x av=>eo _ av) _ zK)⟩⟩
theorem G9{f:ah}{fd:hB}{c:fX}(nb:et mg)(F:ed K mg "_law_made" yP ["_law_form_here"] f fd)
  (tm:kJ K (c.b 0)) (uH:mg "Nothing"=J (.ref (c.b 0))) (tn:kJ K (c.b 1)) (uI:mg "Truth"=J (.ref (c.b 1))) (tp:kJ K (c.b 2)) (uJ:mg "Whole"=J (.ref (c.b 2))) (tl:kJ K (c.b 3)) (uG:mg "Fraction"=J (.ref (c.b 3)))
  (tx:jX P w K mg base 1 "Span" c.s ["self","low","high"] (FN c.s)) (ts:jX P w K mg base 2 "Letters" c.l ["self","signs"] (FE c.l)) (tw:jX P w K mg base 4 "Record" (c.t 0) ["self","parts"] (u0 (c.t 0))) (tr:jX P w K mg base 4 "Choice" (c.t 1) ["self","cases"] (u0 (c.t 1)))
  (tv:jX P w K mg base 1 "Maybe" (c.o 0) ["self","inner"] (pX (c.o 0))) (tu:jX P w K mg base 1 "Many" (c.o 1) ["self","inner"] (pX (c.o 1))) (tA:jX P w K mg base 1 "Turned" (c.o 2) ["self","inner"] (pX (c.o 2))):∀d,bx P w K mg base (d+7) "_law_made" ["_law_form_here"] (AE c d)
 |0=>bx.none F fun vs H Q E z=>by obtain⟨_,g,_,_,_,_,_,h,_⟩:=z;have:=pe g;omega
 |d+1=>Oq nb F tm uH tn uI tp uJ tl uG tx ts tw tr tv tu tA (G9 nb F tm uH tn uI tp uJ tl uG tx ts tw tr tv tu tA d)
noncomputable def lb(c:Int):Int:=if c%5=0 then c/5%(2^255-1)else if c%5=1 then(if 2^255-2<1*2^(1+c/5%255).toNat-2+c/5/255%3 then 2^255-2 else 1*2^(1+c/5%255).toNat-2+c/5/255%3)else c/5%nJ (dv [V.int 5,V.int 40,V.int 1000] (c%5-2))
inductive L0(vs:List V)(H:ar)(Q:bP)(E:cC):Prop where
 |mk (c:Int) (bt:vs=[.int c]) (aq:(0<=lb c->lb c+1<2^255->Q (.int (lb c)) H)):L0  vs H Q E
def LZ:cT:=fun vs H Q E=>L0  vs H Q E
theorem H4(c:Int)(bt:c%5≠0)(aq:c%5≠1):∃M:Int,dv [V.int 5,V.int 40,V.int 1000] (c%5-2)=J (.int M)/\0<M/\M<=1000:=by
 have h:c%5-2=((0:Nat):Int)\/c%5-2=((1:Nat):Int)\/c%5-2=((2:Nat):Int):=by omega
 rcases h with h|h|h<;>rw[h]
 .exact⟨_,c5 I,by decide,by decide⟩
 .exact⟨_,c5 I,by decide,by decide⟩
 .exact⟨_,c5 I,by decide,by decide⟩
theorem I7(r:Int)(h:0<=r):(2:Int)<=1*2^(1+r).toNat:=by
 have e:(1+r).toNat=r.toNat+1:=by omega
 rw[e,Int.one_mul,Int.pow_succ]
 have:(0:Int)<2^r.toNat:=Int.pow_pos (by decide)
 omega
theorem wj:(1:Int)*2^(255:Int).toNat=2^255:=by decide
theorem P2(nb:et mg)(F:ed K mg "_law_near" Cj ["_law_cell"] f fd):bx P w K mg base 1 "_law_near" ["_law_cell"] LZ:=by
 refine F.fC Hk (fun bD A _ s H vs Q E aF h=>?_)
 obtain⟨c,rfl,q⟩:=h
 refine⟨_,(aS (b0 1 Hk.bC (aL fG (ag 0) aA))
  (aS (cy (bZ cN (aL cZ (ag 0) aA) aA) (aY (bB (aL cZ (ag 1) (aL gB (aL t5 aA aA) aA)))) cx)
  (aS (cy (bZ cN (aL cZ (ag 0) aA) aA) (aY (bB (bY (Cy rfl) rfl nb.Ff C6 (ak (aL eE (aL gB (aL t5 aA (aL eE aA (aL cZ (ag 1) aA))) aA) (aL cZ (aL fG (ag 1) aA) aA)) (ak (aL gB (aL t5 aA aA) aA) aB))))) cx)
  (aY (bB (aL cZ (ag 1) (b8 cb (e4 (ak aA (ak aA (ak aA aB)))) (aL gB (aL cZ (ag 0) aA) aA)))))))),?_⟩
 try dsimp only[d5,d6,d7,d8]
 have aZ:∀(x:Int)(ai:ar),lb c=x->0<=x->x+1<2^255->dJ H ai->gf H ai (Q (.int x)):=fun x ai av bt aq hs=>by
  subst av
  exact⟨H,.refl hs,q bt aq⟩
 refine⟨_,I,_,_,I,I,⟨by decide,by decide⟩,?_⟩
 refine⟨_,I,_,_,I,I,(by show(0:Int)<5;decide),I,_,I,?_⟩
 refine dk (fun a=>?_) (fun a=>?_)
 ·have p:(0:Int)<2^255-1:=by decide
  refine⟨_,I,_,_,I,I,⟨by decide,by decide,by decide⟩,_,_,rfl,rfl,_,_,rfl,rfl,by(try dsimp only);rw[wj];exact p,?_⟩
  try dsimp only
  rw[wj]
  refine aZ _ _ (by unfold lb;rw[if_pos (V.int.inj a)]) (fp _ (by decide)) ?_ (c2 _)
  have:=fR (c/5) p
  omega
 ·refine⟨_,I,_,_,I,I,(by show(0:Int)<5;decide),I,_,I,?_⟩
  refine dk (fun b=>?_) (fun b=>?_)
  ·refine⟨_,I,_,_,I,I,(by show(0:Int)<255;decide),.inl ⟨_,_,I,I,?_⟩⟩
   have ip:=fp (c/5) (show(255:Int)≠0 by decide)
   have b5:=fR (c/5) (show(0:Int)<255 by decide)
   refine⟨_,_,I,I,⟨by omega,by omega,by decide⟩,_,_,rfl,rfl,?_⟩
   refine⟨_,I,_,_,I,I,⟨by decide,by decide⟩,_,_,rfl,rfl,(by show(0:Int)<3;decide),.inl ⟨_,_,rfl,rfl,?_⟩⟩
   refine⟨_,_,I,I,⟨by decide,by decide,by decide⟩,_,_,rfl,rfl,_,_,rfl,?_⟩
   have g:=I7 (c/5%255) ip
   have s0:=fp (c/5/255) (show(3:Int)≠0 by decide)
   dsimp only
   rw[wj]
   have big:(2:Int)<=2^255:=by decide
   refine aZ _ _ (by unfold lb;rw[if_neg (fun z=>a (congrArg V.int z)),if_pos (V.int.inj b)]) ?_ ?_ (c2 _)
   .split<;>omega
   .split<;>omega
  ·obtain⟨M,jJ,tk,nT⟩:=H4 c (fun z=>a (congrArg V.int z)) (fun z=>b (congrArg V.int z))
   refine⟨_,I,(by show 3<=bW;decide),fun r uy=>⟨_,I,_,_,I,I,(by show(0:Int)<5;decide),_,_,I,I,.inl (.inl ⟨_,_,_,_,I,I,bA aP,jJ,_,_,I,I,tk,?_⟩)⟩⟩
   have m0:=fp (c/5) (Int.ne_of_gt tk)
   have jN:=fR (c/5) tk
   have big:(2:Int)+1000<=2^255:=by decide
   exact aZ _ _ (by unfold lb;rw[if_neg (fun z=>a (congrArg V.int z)),if_neg (fun z=>b (congrArg V.int z)),jJ];rfl) m0 (by omega) (c3 uy)
noncomputable def kb(c:Int):Int:=if c%2=1 then -1-lb (c/2)else lb (c/2)
inductive L9(vs:List V)(H:ar)(Q:bP)(E:cC):Prop where
 |mk (c:Int) (bt:vs=[.int c]) (aq:(gI (kb c)->Q (.int (kb c)) H)):L9  vs H Q E
def FL:cT:=fun vs H Q E=>L9  vs H Q E
theorem Pa(F:ed K mg "_law_signed" B2 ["_law_cell"] f fd)(x3:bx P w K mg base 1 "_law_near" ["_law_cell"] LZ):bx P w K mg base 2 "_law_signed" ["_law_cell"] FL:=by
 refine F.fC Zip (fun bD A _ s H vs Q E aF h=>?_)
 obtain⟨c,rfl,q⟩:=h
 refine⟨_,(aS (cy (bZ cN (aL cZ (ag 0) aA) aA) (aY (bB (aL gB (pf o8 aA) (cu x3 aF (ak (aL fG (ag 0) aA) aB))))) cx)
  (aY (bB (cu x3 aF (ak (aL fG (ag 0) aA) aB))))),?_⟩
 try dsimp only[d5,d6,d7,d8]
 refine⟨_,I,_,_,I,I,(by show(0:Int)<2;decide),I,_,I,?_⟩
 refine dk (fun a=>?_) (fun a=>?_)
 ·have e:kb c = -1-lb (c/2):=by unfold kb;rw[if_pos (V.int.inj a)]
  rw[e]at q
  exact⟨_,I,_,I,_,_,I,I,⟨by decide,by decide⟩,_,rfl,fun bt bf=>⟨_,_,rfl,rfl,H,.refl (c2 _),q ⟨by omega,by omega⟩⟩⟩
 ·have e:kb c=lb (c/2):=by unfold kb;rw[if_neg (fun z=>a (congrArg V.int z))]
  rw[e]at q
  exact⟨_,I,_,_,I,I,⟨by decide,by decide⟩,_,rfl,fun bt bf=>⟨H,.refl (c2 _),q ⟨by omega,by omega⟩⟩⟩
noncomputable def ps(a b:Int):Int:=a/3%nJ (dv ([10,1000,10^Int.toNat 38].map V.int) (a%3))*nJ (dv ([1,-1].map V.int) (b%2))
noncomputable def oh(b:Int):Int:=1+b/6%nJ (dv ([6,1000,10^Int.toNat 38].map V.int) (b/2%3))
noncomputable def jH(a b:Int):Int×Int:=(ps a b/((Nat.gcd (oh b).natAbs (ps a b).natAbs:Nat):Int),oh b/((Nat.gcd (oh b).natAbs (ps a b).natAbs:Nat):Int))
structure Bn(p q:Int):Prop where
 Le:0<q
 g:Int.gcd p q=1
 da:p.natAbs<=10^38
 cA:q<=10^38
inductive LB(vs:List V)(H:ar)(Q:bP)(E:cC):Prop where
 |mk (a b:Int) (bt:vs=[.int a,.int b]) (aq:(Bn (jH a b).1 (jH a b).2->∀(t:ah)(ai:ar),Ext H ai->H t=aw->ai t=J (.tup [.int (jH a b).1,.int (jH a b).2])->Q (.ref t) ai)):LB  vs H Q E
def Fz:cT:=fun vs H Q E=>LB  vs H Q E
theorem rh:3<=bW:=by decide
theorem OC(nb:et mg)(F:ed K mg "_law_fraction" BF ["_law_one","_law_other"] f fd):bx P w K mg base 1 "_law_fraction" ["_law_one","_law_other"] Fz:=by
 refine F.fC qm (fun bD A _ s H vs Q E aF h=>?_)
 obtain⟨a,b,rfl,q⟩:=h
 refine⟨_,(aS (b0 2 qm.bC (aL lg (aL cZ (aL rk (ag 0) aA) (b8 cb (e4 (ak aA (ak aA (ak (aL pa aA aA) aB)))) (aL cZ (ag 0) aA))) (b8 cb (e4 (ak aA (ak (pf o8 aA) aB))) (aL cZ (ag 1) aA))))
  (aS (b0 3 qm.bC (aL eE aA (aL cZ (aL rk (ag 1) aA) (b8 cb (e4 (ak aA (ak aA (ak (aL pa aA aA) aB)))) (aL cZ (aL rk (ag 1) aA) aA)))))
  (aS (b0 4 qm.bC (bY RQ rfl nb.TK Ti (ak (ag 2) aB)))
  (aS (b0 5 qm.bC (ag 3))
  (aS (y3 lr.never (bZ il (ag 4) aA)
   (aS (b0 6 qm.bC (aL cZ (ag 5) (ag 4)))
   (aS (b0 5 qm.bC (ag 4))
   (aY (b0 4 qm.bC (ag 6))))))
  (aY (bB (iN (ak (aL rk (ag 2) (ag 5)) (ak (aL rk (ag 3) (ag 5)) aB)))))))))),?_⟩
 try dsimp only[d5,d6,d7,d8]
 have mC:sY 10 38:=by refine⟨?_,?_,?_⟩<;>decide
 obtain⟨M,jJ,wG⟩:=jl V.int [10,1000,10^Int.toNat 38] a 3 rfl (by show 0<3;decide)
 have zL:0<M/\M<=10^38:=by
  have:∀y∈([10,1000,10^Int.toNat 38]:List Int),0<y/\y<=10^38:=by decide+kernel
  exact this M jJ
 obtain⟨S,fu,ui⟩:=jl V.int [1,-1] b 2 rfl (by show 0<2;decide)
 have rS:S=1\/S = -1:=by simpa using fu
 obtain⟨N,b9,zM⟩:=jl V.int [6,1000,10^Int.toNat 38] (b/2) 3 rfl (by show 0<3;decide)
 have zN:0<N/\N<=10^38:=by
  have:∀y∈([6,1000,10^Int.toNat 38]:List Int),0<y/\y<=10^38:=by decide+kernel
  exact this N b9
 have gW:x2 (a/3%M) S:=by rcases rS with rfl|rfl<;>exact .inr ⟨by decide,by decide⟩
 have m0:=fp (a/3) (show M≠0 by omega)
 have jN:=fR (a/3) zL.1
 have qJ:=fp (b/6) (show N≠0 by omega)
 have d9:=fR (b/6) zN.1
 refine⟨_,I,_,_,I,I,⟨by decide,.inl (by decide)⟩,_,_,rfl,rfl,mC,rh,fun g1 wU=>⟨_,rfl,_,_,rfl,rfl,(by show(0:Int)<3;decide),.inl (.inl ⟨_,_,_,_,rfl,rfl,bA aP,wG,_,_,rfl,rfl,zL.1,_,rfl,iB,fun g2 ot=>⟨_,rfl,_,_,rfl,rfl,(by show(0:Int)<2;decide),.inl (.inl ⟨_,_,_,_,rfl,rfl,bA aP,ui,.inl ⟨_,_,rfl,rfl,gW,?_⟩⟩)⟩⟩)⟩⟩
 have rv:=(Ext.lst (xs:=[V.int 10,.int 1000,.int (10^Int.toNat 38)]) wU).trans (Ext.lst (xs:=[V.int 1,.int (-1)]) ot)
 have cF:(a/3%M*S).natAbs<=10^38:=by rcases rS with rfl|rfl<;>omega
 have ft:ps a b=a/3%M*S:=by unfold ps;rw[wG,ui];rfl
 have Dq:oh b=1+b/6%N:=by unfold oh;rw[zM];rfl
 unfold jH at q
 rw[ft,Dq]at q
 dsimp only
 generalize a/3%M*S=T at cF q ⊢
 refine⟨_,I,_,_,I,I,⟨by decide,.inl (by decide)⟩,_,_,rfl,rfl,mC,rh,fun g3 wV=>⟨_,rfl,_,_,rfl,rfl,⟨by decide,.inl (by decide)⟩,_,_,rfl,rfl,(by show(0:Int)<3;decide),.inl (.inl ⟨_,_,_,_,rfl,rfl,bA aP,zM,_,_,rfl,rfl,zN.1,.inl ⟨_,_,rfl,rfl,?_⟩⟩)⟩⟩
 have BU:=rv.trans (Ext.lst (xs:=[V.int 6,.int 1000,.int (10^Int.toNat 38)]) wV)
 have fU:0<1+b/6%N/\1+b/6%N<=10^38:=by omega
 dsimp only
 generalize 1+b/6%N=B at fU q ⊢
 generalize upd (upd (upd H g1 _) g2 _) g3 _=bL at BU ⊢
 refine⟨_,I,_,I,_,I,?_⟩
 obtain⟨B,rfl⟩:∃n:Nat,B=n:=⟨B.toNat,by omega⟩
 refine⟨fun m ae ax=>bL=ax/\∃(y:Nat)(l4:Option V),ae=[J (.int a),J (.int b),J (.int T),J (.int (B:Int)),J (.int (m:Nat)),J (.int (y:Nat)),l4]/\Nat.gcd y m=Nat.gcd B T.natAbs/\0<y,⟨T.natAbs,I,B,aw,?_,I,by omega⟩,?_⟩
 .rw[show(if T<0 then -T else T)=((T.natAbs:Nat):Int) by split<;>omega];rfl
 rintro m ae ax ⟨rfl,y,l4,rfl,aN,bF⟩
 refine⟨_,I,_,_,I,I,_,I,?_⟩
 refine dk (fun c=>?_) (fun c=>?_)
 ·have hm:0<m:=by omega
  refine⟨fun bU ai=>∃cv,cv<m/\(bL=ai/\∃(y:Nat)(l4:Option V),bU=[J (.int a),J (.int b),J (.int T),J (.int (B:Int)),J (.int (cv:Nat)),J (.int (y:Nat)),l4]/\Nat.gcd y cv=Nat.gcd B T.natAbs/\0<y),fun _ _ h=>h,?_⟩
  refine⟨_,I,_,I,_,_,I,I,(by omega),_,I,_,I,y%m,Nat.mod_lt _ hm,I,m,J (.int ((y%m:Nat):Int)),?_,?_,hm⟩
  ·dsimp only
   rw[<-Int.natCast_emod];rfl
  .rw[Nat.gcd_comm,<-Nat.gcd_rec,Nat.gcd_comm];exact aN
 ·have hm:m=0:=by omega
  subst hm
  rw[Nat.gcd_zero_right]at aN
  have acp:y<=B:=by rw[aN];exact Nat.gcd_le_left _ (by omega)
  have abP:(y:Int)∣T:=by rw[aN];exact Int.ofNat_dvd_left.mpr (Nat.gcd_dvd_right _ _)
  have Dm:(y:Int)∣(B:Int):=by rw[aN];exact Int.natCast_dvd_natCast.mpr (Nat.gcd_dvd_left _ _)
  have om:dh.Int.intBits (y:Int)<=9000:=by
   rw[t2]
   have ab1:(10:Nat)^38<2^200:=by decide+kernel
   exact dp (jm (show y<2^200 by omega)) (by decide)
  refine⟨_,I,_,I,_,_,I,I,⟨by omega,.inl om⟩,_,rfl,_,rfl,_,_,rfl,rfl,⟨by omega,.inl om⟩,iB,fun t aO=>?_⟩
  have tO:=BU.trans (Ext.tup (xs:=[V.int (T/(y:Int)),.int ((B:Int)/(y:Int))]) aO)
  rw[Int.natAbs_natCast,<-aN]at q
  refine⟨_,tO.sub,q ⟨?_,?_,?_,?_⟩ t _ tO (BU.s.free aO) aP⟩
  .exact Int.ediv_pos_of_pos_of_dvd (by omega) (by omega) Dm
  ·have:Int.gcd T (B:Int)=y:=by rw[aN,Nat.gcd_comm];rfl
   rw[<-this]
   exact Int.gcd_ediv_gcd_ediv_gcd (by rw[this];exact bF)
  ·have:=Int.natAbs_ediv_le_natAbs T (y:Int)
   omega
  ·have:=Int.ediv_le_self (a:=(B:Int)) (y:Int) (by omega)
   omega
theorem uC{b:Bool}(aq:b=au->A)(az:b=ay->B):if b=au then A else B:=by
 cases b
 .exact bT (az I)
 .exact bN (aq I)
theorem Iv{D:ah}(n:Nat)(xs:Nat->V)(Inv:Nat->List V->ar->Prop)(S:St->Prop)(bw:n<=100000)(bt:S fk)
  (wW:∀i H,i<n->dS.go i H) (EP:∀H,dS.stop n H) (bF:∀i H x ai,i<n->dS.p3 i H x ai->ai=H/\x=xs i) (aq:Inv 0 [] (upd H D (.lst [])))
  (aO:∀i,i<n->∀aM bV H1,S bV->Inv i aM H1->H1 D=J (.lst aM)->aM.length=i->∀R:St->V->ar->Prop,(∀bI y bL,S bI->bL D=J (.lst aM)->Inv (i+1) (aM++[y]) (upd bL D (.lst (aM++[y])))->R bI y bL)->g (xs i) bV H1 fun bI ax=>cH bI ax fun y bL=>R bI y bL)
  (aT:∀(aM:List V)(ai:ar),aM.length=n->ai D=J (.lst aM)->Inv n aM ai->Q (.ref D) ai) :
  mP dS g qU cH Q fk H D:=by
 refine⟨fun i m bV ax=>i<=n/\m=n-i/\S bV/\∃aM:List V,aM.length=i/\ax D=J (.lst aM)/\Inv i aM ax,⟨n,UF _,I,bt,[],I,aP,aq⟩,?_⟩
 rintro i m bV ax ⟨aE,rfl,az,aM,my,lL,c7⟩
 rcases jC i n with z|z
 ·refine .inr ⟨wW i _ z,fun x bL y=>?_⟩
  obtain⟨rfl,rfl⟩:=bF i _ x bL z y
  refine aO i z aM bV _ az c7 lL my (fun bI y e1=>∃zs cv,e1 D=J (.lst zs)/\zs.length<bW/\cv<n-i/\(i+1<=n/\cv=n-(i+1)/\S bI/\∃ws:List V,ws.length=i+1/\upd e1 D (.lst (zs++[y])) D=J (.lst ws)/\Inv (i+1) ws (upd e1 D (.lst (zs++[y]))))) fun bI y e1 fx D0 D5=>?_
  exact⟨aM,n-(i+1),D0,ez (show aM.length<100000 by omega) (by decide),by omega,by omega,rfl,fx,aM++[y],by rw[eU,my];rfl,aP,D5⟩
 ·have e:i=n:=by omega
  subst e
  exact .inl ⟨EP _,aT aM ax my lL c7⟩
theorem hP.grow(h:hP X H)(g:cY p H ai):hP X ai:=fun x av=>by
 by_cases z:x=p
 ·subst z
  obtain⟨ns,e,_⟩:=g.l
  exact⟨_,e⟩
 ·obtain⟨l,e⟩:=h x av
  exact⟨l,g.k _ _ z e⟩
theorem IE:∀{fs:List bq}{i:Nat}{g:bq},fs[i]?=J g->cS g<=gD fs
 |[],i,g,h=>by cases h
 |f::fs,0,g,h=>by cases h;rw[gD];omega
 |f::fs,i+1,g,h=>by have:=IE (fs:=fs) (i:=i) h;rw[gD];omega
theorem RU(t:af)(c:Nat):(t++(⟨#[c]⟩:af)).cps.toList=t.cps.toList++[c]:=by rw[v5]
noncomputable def oz(cg:af)(c:Int):Nat->af×Int
 |0=>(af.ofString "",c)
 |i+1=>((oz cg c i).1++⟨#[(dv cg.cps.toList ((oz cg c i).2/287%((cg.length:Nat):Int))).getD 0]⟩,(oz cg c i).2/((cg.length:Nat):Int))
noncomputable def pL(cg:af)(c:Int)(l:Nat):Int:=if c%41=40/\cg.length<4/\70<l then 200 else c%7
noncomputable def uB:bq->Bool
 |.bare k=>decide (k=0\/k=1)
 |_=>ay
noncomputable def lT(g:bq)(c:Int)(l:Nat):Int:=if uB g=au then c/4%61 else c%(if 50<l then 4 else 2)
noncomputable def ju(v:List Int->D×List Int)(ms:List Int):Nat->List D×List Int
 |0=>([],ms)
 |i+1=>((ju v ms i).1++[(v (ju v ms i).2).1],(v (ju v ms i).2).2)
noncomputable def ha(v:bq->List Int->D×List Int)(ms:List Int)(fs:List bq):List D×List Int:=fs.foldl (fun r f=>(r.1++[(v f r.2).1],(v f r.2).2)) ([],ms)
theorem QI(v:bq->List Int->D×List Int)(ms:List Int)(fs:List bq)(f:bq):ha v ms (fs++[f])=((ha v ms fs).1++[(v f (ha v ms fs).2).1],(v f (ha v ms fs).2).2):=by
 unfold ha
 rw[List.foldl_append];rfl
noncomputable def dU:Nat->bq->List Int->D×List Int
 |0,_,ms=>(.aK,ms)
 |_+1,.bare k,ms=>if k=0 then(.aK,ms)else if k=1 then(.aC (decide (V.int (ms.headD 0%2)=V.int 1)),ms.tail)else if k=2 then(.int (if 60<ms.tail.length then kb (ms.headD 0)else kb (ms.headD 0%1000)),ms.tail)else(.tup [.int (jH (ms.headD 0) (ms.tail.headD 0)).1,.int (jH (ms.headD 0) (ms.tail.headD 0)).2],ms.tail.tail)
 |_+1,.sp lo aE,ms=>(.int (lo+ms.headD 0%(aE-lo+1)),ms.tail)
 |_+1,.le cg,ms=>(.str (oz cg (ms.headD 0) (pL cg (ms.headD 0) ms.tail.length).toNat).1,ms.tail)
 |d+1,.one k g,ms=>if k=0 then(if ms.headD 0%2=0 then(.tup [],ms.tail)else(.tup [(dU d g ms.tail).1],(dU d g ms.tail).2))else if k=1 then(.lst (ju (dU d g) ms.tail (lT g (ms.headD 0) ms.tail.length).toNat).1,(ju (dU d g) ms.tail (lT g (ms.headD 0) ms.tail.length).toNat).2)else dU d g ms.tail
 |d+1,.two k ns fs,ms=>if k=0 then(.tup (ha (dU d) ms.tail fs).1,(ha (dU d) ms.tail fs).2)else(.tup [.str (ns.getD (ms.headD 0%((fs.length:Nat):Int)).toNat af.empty),(dU d (fs.getD (ms.headD 0%((fs.length:Nat):Int)).toNat (.bare 0)) ms.tail).1],(dU d (fs.getD (ms.headD 0%((fs.length:Nat):Int)).toNat (.bare 0)) ms.tail).2)
inductive Mg(d:Nat)(vs:List V)(H:ar)(Q:bP)(E:cC):Prop where
 |mk (p:ah) (jw:V) (f:bq) (X:List ah) (ms:List Int) (bt:vs=[.ref p,jw]) (aq:p∈X) (az:H p=J (.lst (ms.map V.int))) (bE:ms.length<=90) (cz:hP X H) (dY:cd X H (e5 f) jw) (kT:ei f) (zE:aO f<=d) (DY:∀v ai,cY p H ai->ai p=J (.lst ((dU d f ms).2.map V.int))->cd X ai (dU d f ms).1 v->Q v ai):Mg d vs H Q E
def AI(d:Nat):cT:=fun vs H Q E=>Mg d vs H Q E
theorem oD{R:eG}{D:Ends}(av:ae[i]?=J (J (.ref p)))(bh:H p=J (.lst (ms.map V.int)))(aH:ms.length<=90)(h:∀H1,cY p H H1->H1 p=J (.lst (ms.tail.map V.int))->R D (ae.set j (J (.int (ms.headD 0)))) H1):oL (sL (FP mF [] h9 (nH (kz i) u4)) (rP j)) R D ae H:=⟨_,av,p,ms,rfl,bh,aH,h _ (cY.pop ⟨_,bh,aH⟩ (mf aH)) aP⟩
theorem R3(g:bq):∃w r,e5 g=.tup (.str w::r)/\sb (.str w) [.str (af.ofString "truth"),.str (af.ofString "nothing")]=uB g:=by
 cases g with
 |bare k =>
  refine⟨_,_,by rw[e5],?_⟩
  rcases ni k with rfl|rfl|rfl|rfl<;>decide+kernel
 |sp a b=>exact⟨_,_,by rw[e5],show sb (.str qW) [.str (af.ofString "truth"),.str (af.ofString "nothing")]=ay by decide+kernel⟩
 |le s=>exact⟨_,_,by rw[e5],show sb (.str u9) [.str (af.ofString "truth"),.str (af.ofString "nothing")]=ay by decide+kernel⟩
 |one k f=>exact⟨_,_,by rw[e5],(show ∀k,sb (.str (p2 k)) [.str (af.ofString "truth"),.str (af.ofString "nothing")]=ay by decide+kernel) k⟩
 |two k ns fs=>exact⟨_,_,by rw[e5],(show ∀k,sb (.str (va k)) [.str (af.ofString "truth"),.str (af.ofString "nothing")]=ay by decide+kernel) k⟩
set_option maxHeartbeats 4000000 in
theorem Oe(nb:et mg)(F:ed K mg "_law_value" yq ["_law_pool_here","_law_form_here"] f fd)(fP:bx P w K mg base 1 "_law_next" ["_law_pool_here"] mF)(q4:bx P w K mg base 2 "_law_signed" ["_law_cell"] FL)(s5:bx P w K mg base 1 "_law_fraction" ["_law_one","_law_other"] Fz)
  (mR:bx P w K mg base (d+3) "_law_value" ["_law_pool_here","_law_form_here"] (AI d)):bx P w K mg base (d+3+1) "_law_value" ["_law_pool_here","_law_form_here"] (AI (d+1)):=by
 refine F.fC mh (fun bD A _ s H vs Q E aF h=>?_)
 obtain⟨p,jw,g,X,ms,rfl,fv,bh,aH,dT,bS,aU,eg,q⟩:=h
 have c7:mb p H:=⟨ms,bh,aH⟩
 have gz:=mf aH
 refine xO _ (aS (b0 2 mh.bC (b8 cb (ag 1) aA))
  (aS (cy (bZ cN (ag 2) b7) (aY (bB km)) cx)
  (aS (b0 3 mh.bC (cu fP aF (ak (ag 0) aB) (hk:=by omega)))
  (aS (cy (bZ cN (ag 2) b7) (aY (bB (fc cN (aL cZ (ag 3) aA) aA))) cx)
  (aS (cy (e2.pt (mZ (bZ cN (ag 2) b7) (mX (bZ il (bY ec rfl nb.d2 d4 (ak (ag 0) aB)) aA)))) (aY (bB (cu q4 aF (ak (ag 3) aB) (hk:=by omega)))) cx)
  (aS (cy (bZ cN (ag 2) b7) (aY (bB (cu q4 aF (ak (aL cZ (ag 3) aA) aB) (hk:=by omega)))) cx)
  (aS (cy (bZ cN (ag 2) b7) (aY (bB (aL eE (b8 cb (ag 1) aA) (aL cZ (ag 3) (aL eE (aL gB (b8 cb (ag 1) aA) (b8 cb (ag 1) aA)) aA))))) cx)
  (aS (cy (bZ cN (ag 2) b7) (aY (bB (cu s5 aF (ak (ag 3) (ak (cu fP aF (ak (ag 0) aB) (hk:=by omega)) aB)) (hk:=by omega)))) cx)
  (aS (cy (bZ cN (ag 2) b7) (zc (b0 4 mh.bC (b8 cb (e4 (ak (aL cZ (ag 3) aA) (ak aA aB))) (n2 yZ rfl nb.ow n4 (ak (gV (fc cN (aL cZ (ag 3) aA) aA) (gV (fc oE (bY ec rfl nb.d2 d4 (ak (b8 cb (ag 1) aA) aB)) aA) (hT (fc il (bY ec rfl nb.d2 d4 (ak (ag 0) aB)) aA)))) aB))))
   (aS (b0 5 mh.bC b7)
   (aS (qo lr.never rfl (n1 rfl nb.nE (ak (ag 4) aB)) (eH (i:=6) mh.bC rfl (by first|exact Or.inl I|exact Or.inr I))
    (aS (b0 5 mh.bC (aL eE (ag 5) (b8 cb (b8 cb (ag 1) aA) (aL cZ (aL fG (ag 3) aA) (bY ec rfl nb.d2 d4 (ak (b8 cb (ag 1) aA) aB))))))
    (aY (b0 3 mh.bC (aL fG (ag 3) (bY ec rfl nb.d2 d4 (ak (b8 cb (ag 1) aA) aB)))))))
   (aY (bB (ag 5)))))) cx)
  (aS (cy (e2.pt (mZ (bZ cN (ag 2) b7) (mX (bZ cN (aL cZ (ag 3) aA) aA)))) (aY (bB (iN aB))) cx)
  (aS (cy (bZ cN (ag 2) b7) (aY (bB (iN (ak (cu mR aF (ak (ag 0) (ak (b8 cb (ag 1) aA) aB)) (hk:=by omega)) aB)))) cx)
  (aS (cy (bZ cN (ag 2) b7) (zc (b0 4 mh.bC (aL cZ (ag 3) (b8 cb (e4 (ak aA (ak aA aB))) (n2 yZ rfl nb.ow n4 (ak (fc il (bY ec rfl nb.d2 d4 (ak (ag 0) aB)) aA) aB)))))
   (zc (cy (zb QT (b8 cb (b8 cb (ag 1) aA) aA) (e4 (ak b7 (ak b7 aB))) (by with_unfolding_all rfl)) (aY (b0 4 mh.bC (aL cZ (aL fG (ag 3) aA) aA))) cx)
   (aY (bB (hQ ["_law_k"] [(0,"_law_pool_here"),(1,"_law_form_here")] rfl (by decide+kernel) ⟨rfl,.inl rfl,rfl,.inl rfl,trivial⟩ (n1 rfl nb.nE (ak (ag 4) aB)) (fun _ _ _ _ _=>(eH (i:=0) (show(["_law_k","_law_pool_here","_law_form_here"]:List af).Nodup by decide+kernel))) (fun _ _ _ _ _=>iA) (fun _ _ _ _ _=>(cu mR aF (ak (ag 1) (ak (b8 cb (ag 2) aA) aB)) (hk:=by omega)))))))) cx)
  (aS (cy (bZ cN (ag 2) b7) (aY (bB (n2 BZ rfl nb.nI m5 (ak (hQ ["_law_name","_law_inner"] [(0,"_law_pool_here")] rfl (by decide+kernel) ⟨rfl,.inl rfl,trivial⟩ (ja (b8 cb (ag 1) aA)) (fun _ _ _ _ _=>(o9 rfl (jk (eH (i:=0) (show(["_law_name","_law_inner","_law_pool_here"]:List af).Nodup by decide+kernel)) (jk (eH (i:=1) (show(["_law_name","_law_inner","_law_pool_here"]:List af).Nodup by decide+kernel)) o1)))) (fun _ _ _ _ _=>iA) (fun _ _ _ _ _=>(cu mR aF (ak (ag 2) (ak (ag 1) aB)) (hk:=by omega)))) aB)))) cx)
  (aS (cy (bZ cN (ag 2) b7) (aS (zi (b8 cb (b8 cb (ag 1) aA) (aL cZ (ag 3) (bY ec rfl nb.d2 d4 (ak (b8 cb (ag 1) aA) aB)))) (o9 rfl (jk (eH (i:=7) mh.bC rfl (by first|exact Or.inl I|exact Or.inr I)) (jk (eH (i:=8) mh.bC rfl (by first|exact Or.inl I|exact Or.inr I)) o1))))
   (aY (bB (iN (ak (ag 7) (ak (cu mR aF (ak (ag 0) (ak (ag 8) aB)) (hk:=by omega)) aB)))))) cx)
  (aY (bB (cu mR aF (ak (ag 0) (ak (b8 cb (ag 1) aA) aB)) (hk:=by omega)))))))))))))))))) fun G fk eK go=>?_
 try dsimp only[d5,d6,d7,d8]at go
 have a0:∀(x:V)(r:List V),dv (x::r) 0=J x:=fun x r=>c5 (j:=0) rfl
 have a1:∀(x y:V)(r:List V),dv (x::y::r) 1=J y:=fun x y r=>c5 (j:=1) rfl
 have kX:∀{T:ah},T∉X->T≠p:=fun h z=>h (by rw[z];exact fv)
 cases g with
 | bare k =>
  rw[e5]at bS
  obtain⟨T,_,rfl,ho,e,⟨_,_,rfl,⟨rfl,_⟩,rfl⟩,_⟩:=bS
  rw[dU]at q
  rcases ni k with rfl|rfl|rfl|rfl
  ·rw[if_pos rfl]at q
   subst eK
   refine go (hb I e ?_)
   exact iz I fun N=>⟨_,(cY.refl c7).sub,q _ _ (cY.refl c7) bh I⟩
  ·rw[if_neg (by decide),if_pos rfl]at q
   subst eK
   refine go (hb I e ?_)
   refine du I (by decide+kernel) ?_
   refine oD I bh aH fun H1 b1 eS=>?_
   generalize ms.headD 0=cl at q ⊢
   exact iz I fun N=>⟨_,I,_,_,I,I,(by show(0:Int)<2;decide),I,_,b1.sub,q _ _ b1 eS I⟩
  ·rw[if_neg (by decide),if_neg (by decide),if_pos rfl]at q
   subst eK
   refine go (hb I e ?_)
   refine du I (by decide+kernel) ?_
   refine oD I bh aH fun H1 b1 eS=>?_
   generalize ms.headD 0=cl at q ⊢
   refine du I (by decide+kernel) ?_
   refine⟨_,I,I,_,I,h1 I ⟨_,I,_,_,I,.inl ⟨_,bA eS,I⟩,_,_,I,I,_,I,dk (fun dm=>⟨_,I,cl,I,fun _=>?_⟩) (fun dm=>?_)⟩⟩
   ·rw[if_pos (by rw[cI]at dm;omega)]at q
    exact⟨_,b1.sub,q _ _ b1 eS I⟩
   ·rw[if_neg (by rw[cI]at dm;omega)]at q
    exact iz I fun N=>⟨_,I,_,_,I,I,(by show(0:Int)<1000;decide),_,I,fun _=>⟨_,b1.sub,q _ _ b1 eS I⟩⟩
  ·rw[if_neg (by decide),if_neg (by decide),if_neg (by decide)]at q
   subst eK
   refine go (hb I e ?_)
   refine du I (by decide+kernel) ?_
   refine oD I bh aH fun H1 b1 eS=>?_
   generalize ms.headD 0=cl at q ⊢
   iterate 4 (first|refine du I (by decide+kernel) ?_|refine sG I (by decide+kernel) ?_)
   refine iz I fun N=>⟨_,I,_,I,p,_,I,eS,gz,⟨cl,_,I,fun _ t ai lG hy Wr=>?_⟩⟩
   have cL:=(b1.trans (cY.pop b1.l (mf gz))).ext lG
   have ER:t∉X:=(dT.grow (b1.trans (cY.pop b1.l (mf gz)))).no hy
   exact⟨_,cL.sub,q _ _ cL (lG.s _ _ aP) ⟨t,_,I,ER,Wr,⟨_,_,I,I,_,_,I,I,I⟩,by simp⟩⟩
 |sp lo aE =>
  rw[e5]at bS
  rw[ei]at aU
  rw[dU]at q
  obtain⟨T,_,rfl,ho,e,⟨_,_,rfl,⟨rfl,_⟩,_,_,rfl,rfl,_,_,rfl,rfl,rfl⟩,_⟩:=bS
  subst eK
  refine go (hb I e ?_)
  refine du I (by decide+kernel) ?_
  refine oD I bh aH fun H1 b1 eS=>?_
  generalize ms.headD 0=cl at q ⊢
  iterate 3 (first|refine du I (by decide+kernel) ?_|refine sG I (by decide+kernel) ?_)
  have ba:=b1.k _ _ (kX ho) e
  have a2:dv [V.str qW,V.int lo,V.int aE] 2=J (.int aE):=c5 (j:=2) rfl
  refine iz I fun N=>⟨_,I,.inl (.inr ⟨_,_,_,_,I,I,ck ba,a1 _ _ _,_,I,_,I,.inl (.inr ⟨_,_,_,_,I,I,ck ba,a2,_,I,.inl (.inr ⟨_,_,_,_,I,I,ck ba,a1 _ _ _,_,_,I,I,.inl ⟨_,_,I,I,_,_,I,I,(by omega),.inl ⟨_,_,I,I,?_⟩⟩⟩)⟩)⟩)⟩
  exact⟨_,b1.sub,q _ _ b1 eS I⟩
 | le cg =>
  have Kn:=bS
  rw[e5]at bS
  have J4:=aU
  rw[ei]at J4
  rw[dU]at q
  obtain⟨T,_,rfl,ho,e,⟨_,_,rfl,⟨rfl,_⟩,_,_,rfl,⟨rfl,EO⟩,rfl⟩,_⟩:=bS
  have EM:0<cg.length:=by
   have:=J4.1
   unfold nj at this
   simp only[jA,mc]at this
   omega
  subst eK
  refine go (hb I e ?_)
  refine du I (by decide+kernel) ?_
  refine oD I bh aH fun H1 b1 eS=>?_
  generalize ms.headD 0=cl at q ⊢
  iterate 5 (first|refine du I (by decide+kernel) ?_|refine sG I (by decide+kernel) ?_)
  have ba:=b1.k _ _ (kX ho) e
  have z8:cg.length<=bW:=eN (by omega)
  refine iz I fun N=>⟨fun bU ai=>Ext H1 ai/\∃n:Nat,n<=200/\pL cg cl ms.tail.length=((n:Nat):Int)/\bU=[J (.ref p),J (.ref T),J (.str u9),J (.int cl),J (.int ((n:Nat):Int)),aw,aw,aw,aw],?_,?_⟩
  ·obtain⟨qK,acj,zw⟩:=hR cl 7 (by decide)
   have zw:cl%7=((qK:Nat):Int):=zw
   refine⟨_,I,_,_,I,I,(by show(0:Int)<7;decide),iB,fun g1 wU=>?_⟩
   have vP:=Ext.lst (xs:=[V.int (cl%7),.int 200]) wU
   have aZ:∀b:Bool,(b=au↔cl%41=40/\cg.length<4/\70<ms.tail.length)->∃v:Nat,(v<=200/\pL cg cl ms.tail.length=((v:Nat):Int))/\dv [V.int (cl%7),.int 200] (if b=au then 1 else 0)=J (.int ((v:Nat):Int)):=fun b ao=>by
    cases b
    .exact⟨qK,⟨by omega,by unfold pL;rw[if_neg (fun z=>nomatch ao.mpr z),zw]⟩,by rw[zw];exact c5 (j:=0) I⟩
    .exact⟨200,⟨by omega,by unfold pL;rw[if_pos (ao.mp rfl)];rfl⟩,c5 (j:=1) rfl⟩
   refine⟨_,I,_,_,I,I,(by show(0:Int)<41;decide),I,_,I,dk (fun ee=>?_) (fun ee=>?_)⟩
   ·refine⟨_,I,.inl (.inr ⟨_,_,_,_,I,I,ck (vP.s _ _ ba),a1 _ _ _,_,_,I,⟨z8,I⟩,.inl ⟨_,_,I,I,_,I,dk (fun eu=>?_) (fun eu=>?_)⟩⟩)⟩
    ·refine⟨_,I,_,_,I,.inl ⟨_,bA (vP.s _ _ eS),I⟩,_,_,I,I,?_⟩
     obtain⟨v,k9,mw⟩:=aZ (decide (70<(((ms.tail.map V.int).length:Nat):Int))) ⟨fun z=>⟨V.int.inj ee,by omega,by have:=lD z;rw[cI]at this;omega⟩,fun z=>eY (by rw[cI];omega)⟩
     exact .inl (.inr ⟨_,I,.inl (.inl ⟨_,_,_,_,I,I,bA aP,mw,vP,v,k9.1,k9.2,I⟩)⟩)
    ·obtain⟨v,k9,mw⟩:=aZ ay ⟨(fun z=>nomatch z),fun z=>absurd z.2.1 (by omega)⟩
     exact .inl (.inr ⟨_,I,.inl (.inl ⟨_,_,_,_,I,I,bA aP,mw,vP,v,k9.1,k9.2,I⟩)⟩)
   ·obtain⟨v,k9,mw⟩:=aZ ay ⟨(fun z=>nomatch z),fun z=>absurd (congrArg V.int z.1) ee⟩
    exact .inl (.inr ⟨_,I,.inl (.inl ⟨_,_,_,_,I,I,bA aP,mw,vP,v,k9.1,k9.2,I⟩)⟩)
  rintro xU ew ⟨rx,n,bf,zW,rfl⟩
  rw[zW,Int.toNat_natCast]at q
  have ba:=rx.s _ _ ba
  have eS:=rx.s _ _ eS
  have b1:=b1.ext rx
  refine⟨_,I,_,I,by omega,by omega,?_⟩
  rw[show(((n:Nat):Int)).toNat=n by omega]
  refine vR (fun i ae ax=>ew=ax/\∃(t:af)(c:Int)(oN:Option V),ae=[J (.ref p),J (.ref T),J (.str u9),J (.int c),J (.int ((n:Nat):Int)),J (.str t),oN,aw,aw]/\t.length=i/\oz cg cl i=(t,c)) ⟨I,af.ofString "",cl,aw,I,by decide+kernel,rfl⟩ ?_ ?_
  ·rintro i ae ax aE ⟨rfl,t,c,oN,rfl,uA,EA⟩
   obtain⟨k,hk,iD⟩:=hR (c/287) cg.length EM
   have hk':k<cg.cps.toList.length:=by rw[hE];exact hk
   have iE:dv cg.cps.toList (c/287%((cg.length:Nat):Int))=J cg.cps.toList[k]:=by rw[iD];exact c5 (cV hk')
   refine⟨_,I,_,I,.inl (.inr ⟨_,_,_,_,I,I,ck ba,a1 _ _ _,_,I,_,_,I,I,⟨by decide,by decide⟩,_,rfl,.inl (.inr ⟨_,_,_,_,rfl,rfl,ck ba,a1 _ _ _,_,_,rfl,⟨z8,rfl⟩,_,_,rfl,rfl,(by omega),.inr ⟨_,_,_,rfl,rfl,z8,iE,.inr ⟨_,_,rfl,rfl,?_,?_⟩⟩⟩)⟩)⟩
   ·show t.length+1<=bW
    exact eN (by omega)
   refine⟨_,I,_,I,.inl (.inr ⟨_,_,_,_,I,I,ck ba,a1 _ _ _,_,_,I,⟨z8,I⟩,_,_,I,I,⟨by omega,by omega⟩,rfl,_,_,_,rfl,?_,?_⟩)⟩
   .rw[kN,uA];rfl
   ·rw[oz,EA]
    dsimp only
    rw[iE];rfl
  ·rintro ae ax ⟨rfl,t,c,oN,rfl,uA,EA⟩
   rw[EA]at q
   exact⟨_,I,_,b1.sub,q _ _ b1 eS ⟨I,by show t.length<=_;omega⟩⟩
 | one k g =>
  rw[e5]at bS
  rw[ei]at aU
  rw[aO]at eg
  rw[dU]at q
  obtain⟨T,_,rfl,ho,e,⟨_,_,rfl,⟨rfl,_⟩,df,_,rfl,hd,rfl⟩,_⟩:=bS
  rcases og k with rfl|rfl|rfl
  ·rw[if_pos rfl]at q
   subst eK
   refine go (hb I e ?_)
   refine du I (by decide+kernel) ?_
   refine oD I bh aH fun H1 b1 eS=>?_
   generalize ms.headD 0=cl at q ⊢
   iterate 6 (first|refine du I (by decide+kernel) ?_|refine sG I (by decide+kernel) ?_)
   have ba:=b1.k _ _ (kX ho) e
   refine⟨_,I,I,_,I,h1 I ⟨_,I,_,_,I,I,(by show(0:Int)<2;decide),I,_,I,dk (fun dm=>?_) (fun dm=>?_)⟩⟩
   ·rw[if_pos (V.int.inj dm)]at q
    refine⟨UF _,fun t hy=>?_⟩
    have gd:=Ext.tup (xs:=[]) hy
    have cL:=b1.ext gd
    exact⟨_,cL.sub,q _ _ cL (gd.s _ _ eS) ⟨t,[],I,(dT.grow b1).no hy,aP,I,by simp⟩⟩
   rw[if_neg (fun z=>dm (congrArg V.int z))]at q
   refine iz I fun N=>⟨_,I,_,I,.inl (.inr ⟨_,_,_,_,I,I,ck ba,a1 _ _ _,p,df,g,X,_,I,fv,eS,gz,dT.grow b1,cd.grow fv b1 hd,aU,by omega,fun v ai G gM jL=>⟨pb,fun t hy=>?_⟩⟩)⟩
   have gd:=Ext.tup (xs:=[v]) hy
   have cL:=(b1.trans G).ext gd
   exact⟨_,cL.sub,q _ _ cL (gd.s _ _ gM) ⟨t,_,I,(dT.grow (b1.trans G)).no hy,aP,⟨_,_,I,jL.same gd.s,I⟩,by simp⟩⟩
  ·rw[if_neg (by decide),if_pos rfl]at q
   subst eK
   refine go (hb I e ?_)
   refine du I (by decide+kernel) ?_
   refine oD I bh aH fun H1 b1 eS=>?_
   generalize ms.headD 0=cl at q ⊢
   iterate 8 (first|refine du I (by decide+kernel) ?_|refine sG I (by decide+kernel) ?_)
   have ba:=b1.k _ _ (kX ho) e
   obtain⟨hA,dE,oe,nh⟩:=R3 g
   have j7:=cd.grow fv b1 hd
   rw[oe]at j7
   obtain⟨dK,ws,rfl,pB,cR,⟨_,acE,rfl,⟨rfl,ET⟩,uy⟩,ny⟩:=j7
   refine iz I fun N=>⟨fun bU ai=>Ext H1 ai/\∃n:Nat,n<=3/\cl%(if 50<ms.tail.length then 4 else 2)=((n:Nat):Int)/\bU=[J (.ref p),J (.ref T),J (.str (p2 1)),J (.int cl),J (.int ((n:Nat):Int)),aw,aw,aw,aw],?_,?_⟩
   ·refine⟨_,I,iB,fun g2 ot=>?_⟩
    have rv:=Ext.lst (xs:=[V.int 2,.int 4]) ot
    obtain⟨v,⟨Kn,k9⟩,mw,Wx⟩:∃v:Nat,(0<v/\v<=4)/\dv [V.int 2,.int 4] (if decide (50<(((ms.tail.map V.int).length:Nat):Int))=au then 1 else 0)=J (.int ((v:Nat):Int))/\(if 50<ms.tail.length then(4:Int)else 2)=((v:Nat):Int):=by
     rw[cI]
     by_cases z:50<ms.tail.length
     .exact⟨4,by omega,by rw[if_pos (eY (by omega))];exact c5 (j:=1) I,by rw[if_pos z];rfl⟩
     .exact⟨2,by omega,by rw[if_neg (fun y=>z (by have:=lD y;omega))];exact c5 (j:=0) I,by rw[if_neg z];rfl⟩
    rw[Wx]
    obtain⟨n,bf,hY⟩:=hR cl v Kn
    refine⟨_,I,_,_,I,.inl ⟨_,bA (rv.s _ _ eS),I⟩,_,_,I,I,.inl (.inr ⟨_,I,.inl (.inl ⟨_,_,_,_,I,I,bA aP,mw,_,_,I,I,(by omega),rv,n,by omega,hY,?_⟩)⟩)⟩
    dsimp only
    rw[hY];rfl
   rintro acG hO ⟨tO,qJ,zW,z4,rfl⟩
   refine⟨fun bU ai=>Ext H1 ai/\∃n:Nat,n<=60/\lT g cl ms.tail.length=((n:Nat):Int)/\bU=[J (.ref p),J (.ref T),J (.str (p2 1)),J (.int cl),J (.int ((n:Nat):Int)),aw,aw,aw,aw],?_,?_⟩
   ·refine⟨_,I,.inl (.inr ⟨_,_,_,_,I,I,ck (tO.s _ _ ba),a1 _ _ _,.inl (.inr ⟨_,_,_,_,I,I,ck (tO.s _ _ cR),a0 _ _,iB,fun g1 wU=>?_⟩)⟩)⟩
    have G4:=tO.trans (Ext.lst (xs:=[V.str (af.ofString "truth"),.str (af.ofString "nothing")]) wU)
    refine⟨_,_,I,.inl (bA aP),I,I,_,I,uC (fun Dj=>?_) (fun Dj=>⟨G4,qJ,by omega,by unfold lT;rw[if_neg (by rw[<-nh];exact fun z=>nomatch Dj.symm.trans z),z4],rfl⟩)⟩
    obtain⟨n,bf,hY⟩:=hR (cl/4) 61 (by decide)
    have hY:cl/4%61=((n:Nat):Int):=hY
    refine⟨_,I,_,_,I,I,⟨by decide,by decide⟩,_,_,rfl,rfl,(by show(0:Int)<61;decide),G4,n,by omega,(by unfold lT;rw[if_pos (by rw[<-nh];exact Dj),hY]),?_⟩
    dsimp only
    rw[hY];rfl
   rintro xU ew ⟨rx,n,bf,w0,rfl⟩
   rw[w0,Int.toNat_natCast]at q
   have ba:=rx.s _ _ ba
   have eS:=rx.s _ _ eS
   have b1:=b1.ext rx
   refine⟨_,I,_,I,by omega,by omega,fun cB ef=>?_⟩
   rw[show(((n:Nat):Int)).toNat=n by omega]
   have qD:=dT.grow b1
   have rQ:cB∉X:=qD.no ef
   have kU:cB≠p:=fun z=>rQ (by rw[z];exact fv)
   have h9:=Ext.lst (xs:=[]) ef
   have wJ:∀{ax:ar},cY p ew ax->ax T=J (.tup [.str (p2 1),.ref dK]):=fun G=>G.k _ _ (kX ho) ba
   refine Iv n (fun i =>.int (0+((i:Nat):Int))) (fun i aM ax=>cY p ew ax/\ax p=J (.lst ((ju (dU d g) ms.tail i).2.map V.int))/\b3 (cB::X) ax (ju (dU d g) ms.tail i).1 aM) (fun ae=>∃z,ae=[z,J (.ref p),J (.ref T)]) (by omega) ⟨_,I⟩ (fun i H aE=>aE) (fun H=>cQ _) (fun i H x ai aE h=>⟨h.1,h.2⟩) ⟨(cY.refl b1.l).ext h9,h9.s _ _ eS,I⟩ ?_ ?_
   ·rintro i aE aM bV ax ⟨z,rfl⟩ ⟨cL,gM,cJ⟩ qA my R cf
    have kY:hP (cB::X) ax:=(qD.grow cL).add qA
    refine⟨_,I,_,I,.inl (.inr ⟨_,_,_,_,I,I,ck (wJ cL),a1 _ _ _,p,.ref dK,g,cB::X,_,I,eo _ fv,gM,qy cL gM,kY,cd.grow (eo _ fv) cL (cd.add ef _ (cd.grow fv b1 hd)),aU,by omega,fun v bL fb px jL=>?_⟩)⟩
    have h0:bL cB=J (.lst aM):=fb.k _ _ kU qA
    have er:∀b u,b∉cB::X->bL b=J u->upd bL cB (.lst (aM++[v])) b=J u:=fun b u nb e=>by rw[cn (fun z=>nb (by rw[z];exact gU ..))];exact e
    have k3:∀b u,b∉cB::X->ax b=J u->bL b=J u:=fun b u nb e=>fb.k b u (fun z=>nb (by rw[z];exact eo _ fv)) e
    exact cf _ _ _ ⟨_,I⟩ h0 ⟨(cL.trans fb).set ef h0 kU,by rw[cn (e3 kU)];exact px,b3.snoc (cd.keep er _ jL) _ (b3.keep er _ (b3.keep k3 _ cJ))⟩
   ·rintro aM ai my nq ⟨cL,gM,cJ⟩
    have fb:=b1.trans cL
    exact⟨_,fb.sub,q _ _ fb gM ⟨cB,aM,I,rQ,nq,b3.weak (fun x av=>eo _ av) _ cJ,by omega⟩⟩
  ·rw[if_neg (by decide),if_neg (by decide)]at q
   subst eK
   refine go (hb I e ?_)
   refine du I (by decide+kernel) ?_
   refine oD I bh aH fun H1 b1 eS=>?_
   generalize ms.headD 0=cl at q ⊢
   iterate 11 (first|refine du I (by decide+kernel) ?_|refine sG I (by decide+kernel) ?_)
   have ba:=b1.k _ _ (kX ho) e
   exact⟨_,I,_,I,.inl (.inr ⟨_,_,_,_,I,I,ck ba,a1 _ _ _,p,df,g,X,_,I,fv,eS,gz,dT.grow b1,cd.grow fv b1 hd,aU,by omega,fun v ai G gM jL=>⟨_,(b1.trans G).sub,q _ _ (b1.trans G) gM jL⟩⟩)⟩
 | two k ns fs =>
  rw[e5]at bS
  rw[ei]at aU
  rw[aO]at eg
  rw[dU]at q
  obtain⟨gO,cG,kv⟩:=aU
  obtain⟨T,_,rfl,ho,e,⟨_,_,rfl,⟨rfl,_⟩,_,_,rfl,⟨l,jq,rfl,r0,hX,cJ,J9⟩,rfl⟩,_⟩:=bS
  have iQ:jq.length=fs.length:=by rw[cU.len _ (b3.at _ cJ),tU]
  have wQ:0<fs.length/\fs.length<=20:=by
   have h:=gO
   unfold jI at h
   simp only[jA,mc]at h
   omega
  rcases rM k with rfl|rfl
  ·rw[if_pos rfl]at q
   subst eK
   refine go (hb I e ?_)
   refine du I (by decide+kernel) ?_
   refine oD I bh aH fun H1 b1 eS=>?_
   generalize ms.headD 0=cl at q ⊢
   iterate 9 (first|refine du I (by decide+kernel) ?_|refine sG I (by decide+kernel) ?_)
   have ba:=b1.k _ _ (kX ho) e
   have wo:=b1.k _ _ (kX r0) hX
   have qD:=dT.grow b1
   refine iz I fun N=>?_
   refine .inl ⟨_,I,.inl (.inr ⟨_,_,_,_,I,I,ck ba,a1 _ _ _,l,I,⟨_,bA wo⟩,fun cB ef=>?_⟩)⟩
   have rQ:cB∉X:=qD.no ef
   have kU:cB≠p:=fun z=>rQ (by rw[z];exact fv)
   have h9:=Ext.lst (xs:=[]) ef
   refine Hx (K:=K) (a:=l) (xs:=jq) (fun i aM ax=>cY p H1 ax/\ax p=J (.lst ((ha (dU d) ms.tail (fs.take i)).2.map V.int))/\b3 (cB::X) ax (ha (dU d) ms.tail (fs.take i)).1 aM) (fun ae=>∃ea el,ae=[ea,el,J (.ref p)]) (by omega) ⟨_,_,I⟩ ?_ ⟨(cY.refl b1.l).ext h9,h9.s _ _ eS,I⟩ ?_ ?_
   ·rintro i aM ax ⟨cL,_⟩
    exact bA (cL.k _ _ (kX r0) wo)
   ·rintro i x av aM bV ax ⟨ea,el,rfl⟩ ⟨cL,gM,iP⟩ qA my R cf
    obtain⟨g,nm,dK,df,aN,k8,rfl,pB,jG,hd⟩:=rm fs ns cG cJ av
    obtain⟨pP,ot⟩:=rl kv aN
    have kY:hP (cB::X) ax:=(qD.grow cL).add qA
    refine⟨_,_,I,ck (cL.k _ _ (kX pB) (b1.k _ _ (kX pB) jG)),I,_,_,I,_,_,I,I,?_⟩
    refine⟨_,I,_,I,p,df,g,cB::X,_,I,eo _ fv,gM,qy cL gM,kY,cd.grow (eo _ fv) cL (cd.add ef _ (cd.grow fv b1 hd)),pP,by omega,fun v bL fb px jL=>?_⟩
    have h0:bL cB=J (.lst aM):=fb.k _ _ kU qA
    have er:∀b u,b∉cB::X->bL b=J u->upd bL cB (.lst (aM++[v])) b=J u:=fun b u nb e=>by rw[cn (fun z=>nb (by rw[z];exact gU ..))];exact e
    have k3:∀b u,b∉cB::X->ax b=J u->bL b=J u:=fun b u nb e=>fb.k b u (fun z=>nb (by rw[z];exact eo _ fv)) e
    have aV:ha (dU d) ms.tail (fs.take (i+1))=((ha (dU d) ms.tail (fs.take i)).1++[(dU d g (ha (dU d) ms.tail (fs.take i)).2).1],(dU d g (ha (dU d) ms.tail (fs.take i)).2).2):=by
     rw[m4,aN]
     exact QI ..
    exact cf _ _ _ ⟨_,_,I⟩ h0 ⟨(cL.trans fb).set ef h0 kU,by rw[aV,cn (e3 kU)];exact px,by rw[aV];exact b3.snoc (cd.keep er _ jL) _ (b3.keep er _ (b3.keep k3 _ iP))⟩
   ·rintro aM ai my nq ⟨cL,gM,iP⟩
    rw[iQ,UV (cQ _)]at gM iP
    refine⟨_,_,I,.inl ⟨bA nq,fun t hy=>?_⟩⟩
    have fW:=Ext.tup (xs:=aM) hy
    have fb:=(b1.trans cL).ext fW
    exact⟨_,fb.sub,q _ _ fb (fW.s _ _ gM) ⟨t,aM,I,(dT.grow (b1.trans cL)).no hy,aP,(b3.weak (fun x av=>eo _ av) _ iP).same fW.s,by omega⟩⟩
  ·rw[if_neg (by decide)]at q
   subst eK
   refine go (hb I e ?_)
   refine du I (by decide+kernel) ?_
   refine oD I bh aH fun H1 b1 eS=>?_
   generalize ms.headD 0=cl at q ⊢
   iterate 10 (first|refine du I (by decide+kernel) ?_|refine sG I (by decide+kernel) ?_)
   have ba:=b1.k _ _ (kX ho) e
   have wo:=b1.k _ _ (kX r0) hX
   refine iz I fun N=>?_
   obtain⟨j,c4,j2⟩:=hR cl jq.length (by omega)
   obtain⟨y,bF⟩:∃y,jq[j]?=J y:=⟨_,cV c4⟩
   obtain⟨g,nm,dK,df,aN,k8,rfl,pB,jG,hd⟩:=rm fs ns cG cJ bF
   obtain⟨pP,ot⟩:=rl kv aN
   rw[<-iQ,j2,Int.toNat_natCast,eM,eM,aN,k8]at q
   refine⟨_,I,.inl (.inr ⟨_,_,_,_,I,I,ck ba,a1 _ _ _,_,I,_,I,.inl (.inr ⟨_,_,_,_,I,I,ck ba,a1 _ _ _,_,_,I,.inl ⟨_,bA wo,I⟩,_,_,I,I,(by omega),.inl (.inl ⟨_,_,_,_,I,I,bA wo,(by rw[j2];exact c5 bF),?_⟩)⟩)⟩)⟩
   refine⟨_,_,I,ck (b1.k _ _ (kX pB) jG),I,_,_,I,_,_,I,I,?_⟩
   refine⟨_,I,_,I,_,I,p,df,g,X,_,I,fv,eS,gz,dT.grow b1,cd.grow fv b1 hd,pP,by omega,fun v ai G gM jL=>⟨iB,fun t hy=>?_⟩⟩
   have gd:=Ext.tup (xs:=[V.str nm,v]) hy
   have cL:=(b1.trans G).ext gd
   have lR:nm.length<=12:=(m6 gO).2 nm (iL k8)
   exact⟨_,cL.sub,q _ _ cL (gd.s _ _ gM) ⟨t,_,I,(dT.grow (b1.trans G)).no hy,aP,⟨_,_,I,⟨I,by show nm.length<=_;omega⟩,_,_,rfl,jL.same gd.s,rfl⟩,by simp⟩⟩
theorem G7(nb:et mg)(F:ed K mg "_law_value" yq ["_law_pool_here","_law_form_here"] f fd)(fP:bx P w K mg base 1 "_law_next" ["_law_pool_here"] mF)(q4:bx P w K mg base 2 "_law_signed" ["_law_cell"] FL)(s5:bx P w K mg base 1 "_law_fraction" ["_law_one","_law_other"] Fz):∀d:Nat,bx P w K mg base (d+3) "_law_value" ["_law_pool_here","_law_form_here"] (AI d)
 |0=>bx.none F fun vs H Q E z=>by obtain⟨_,_,g,_,_,_,_,_,_,_,_,_,h,_⟩:=z;have:=pe g;omega
 |d+1=>Oe nb F fP q4 s5 (G7 nb F fP q4 s5 d)
theorem Q8(x:Int)(h:1<=x):gS (x-1)↔x<2^255:=by unfold gS;omega
theorem E3{c:Prop}[Decidable c](aq:c->B)(az:¬c->A):if(!decide c)=au then A else B:=by
 by_cases z:c
 .rw[eY z];exact bT (aq z)
 .rw[fo z];exact bN (az z)
theorem Io(h:∀p q:Int,ds≠[.int p,.int q]):dw (.tup ds)=ay:=by
 unfold dw
 split
 ·rename_i e
  exact absurd (D.tup.inj e) (h _ _)
 .rfl
noncomputable def BJ:Bool->List Int->Prop
 |true,s=>nW s
 |false,s=>∀x∈s,gS (x-1)
def AK(b:Bool)(x:Int):Prop:=match b with|true=>gI x|false=>gS (x-1)
theorem Rf(b:Bool)(x:Int)(s:List Int):BJ b (x::s)↔AK b x/\BJ ay s:=by
 cases b
 .exact⟨fun h=>⟨h x (gU ..),fun y bF=>h y (eo _ bF)⟩,fun h y bF=>(dy.mp bF).elim (fun z=>by rw[z];exact h.1) (h.2 y)⟩
 .exact⟨fun h=>⟨h.1 x (by simp),h.2⟩,fun h=>⟨fun y bF=>by rw[show y=x by simpa using bF];exact h.1,h.2⟩⟩
def qd(b:Bool)(x y:Int):Prop:=dX x y=1/\BJ b (e0 x y)
theorem SN{b:Bool}{x y:Int}(h:0<y):qd b x y↔AK b (x/y)/\qd ay y (x%y):=by
 unfold qd
 rw[wa h,lF h,Rf]
 exact⟨fun z=>⟨z.2.1,z.1,z.2.2⟩,fun z=>⟨z.2.1,z.1,z.2.2⟩⟩
theorem RW{b:Bool}{x:Int}:qd b x 0↔x=1:=by
 unfold qd
 rw[tZ,nY]
 cases b
 .exact⟨fun z=>z.1,fun z=>⟨z,fun y bF=>nomatch bF⟩⟩
 .exact⟨fun z=>z.1,fun z=>⟨z,(fun y bF=>nomatch bF),fun y bF=>nomatch bF⟩⟩
inductive LQ(vs:List V)(H:ar)(Q:bP)(E:cC):Prop where
 |mk (v:V) (d:D) (bt:vs=[v]) (aq:dI H d v) (az:iR d) (bE:Q (.aC (dw d)) H):LQ  vs H Q E
def FD:cT:=fun vs H Q E=>LQ  vs H Q E
theorem N0(nb:et mg)(F:ed K mg "_law_is_fraction" Bt ["_law_value_here"] f fd):bx P w K mg base 1 "_law_is_fraction" ["_law_value_here"] FD:=by
 refine F.fC nZ (fun bD A _ s H vs Q E aF h=>?_)
 obtain⟨v,d,rfl,hd,aU,q⟩:=h
 refine xO _ (aS (cy (e2.pt (ih (hS (fS (bY fH I nb.eD eA (ak (ag 0) (ak (fz (v :=.ty "tuple") I nb.nI m5 I) aB))))) (iM (bZ nB (bY ec I nb.d2 d4 (ak (ag 0) aB)) aA)))) (aY (bB gJ)) cx)
  (aS (qo lr.never rfl (X9 (ag 0)) (eH (i:=1) nZ.bC rfl (by exact Or.inl I))
   (aY (cy (e2.pt (ih (hS (fS (bY fH rfl nb.eD eA (ak (ag 1) (ak (fz (v :=.ty "int") rfl nb.ow n4 rfl) aB))))) (iM (fS (bY fH rfl nb.eD eA (ak (ag 1) (ak (fz (v :=.ty "bool") rfl nb.pg o2 rfl) aB))))))) (aY (bB gJ)) cx)))
  (aS (cy (bZ oE (b8 cb (ag 0) aA) aA) (aY (bB gJ)) cx)
  (aS (zi (ag 0) (o9 rfl (jk (eH (i:=2) nZ.bC rfl (by exact Or.inl I)) (jk (eH (i:=3) nZ.bC rfl (by exact Or.inl I)) o1))))
  (aS (b0 4 nZ.bC gJ)
  (aS (y3 lr.never (bZ il (ag 3) aA)
   (aS (b0 5 nZ.bC (aL rk (ag 2) (ag 3)))
   (aS (cy (bZ il (v8 PySem.F.plainAttrs_int PySem.F.slot_int_bit_length PySem.F.type_int_bit_length vQ (bY (Ra rfl) rfl nb.Xv Th (ak (aL eE (ag 5) (n2 yZ rfl nb.ow n4 (ak (ag 4) aB))) (ak (aL gB aA (ag 5)) aB)))) aA) (aY (bB gJ)) cx)
   (aS (b0 6 nZ.bC (aL cZ (ag 2) (ag 3)))
   (aS (b0 2 nZ.bC (ag 3))
   (aS (b0 3 nZ.bC (ag 6))
   (aY (b0 4 nZ.bC gJ))))))))
  (aY (bB (fc cN (ag 2) aA))))))))) fun G fk eK go=>?_
 try dsimp only[d5,d6,d7,d8]at go
 have cj:=hd.ty (K:=K)
 have aZ:dw d=ay->gf H H (Q (.aC ay)):=fun e=>⟨H,.refl (c2 _),by rw[e]at q;exact q⟩
 cases d with
 | tup ds =>
  obtain⟨a,vs,rfl,e,cJ,aH⟩:=hd
  subst eK
  refine go ?_
  refine⟨_,I,.inl ⟨_,_,_,_,I,cj,bO K _ (by decide),au,I,bT ?_⟩⟩
  have d9:=cU.len ds cJ
  refine⟨_,I,_,_,I,.inr ⟨_,ck e,I⟩,I,_,I,E3 (fun c=>?_) (fun c=>?_)⟩
  ·have f7:ds.length=2:=by have:=V.int.inj c;omega
   refine .inr ⟨_,I,a,I,⟨_,ck e⟩,SA (xs:=vs) (fun i ae ax=>(∃z,ae=[J (.ref a),z,aw,aw,aw,aw,aw])/\H=ax/\∀j x,j<i->ds[j]?=J x->∃n,x=.int n) ⟨⟨_,I⟩,I,fun j x c4=>by omega⟩ ?_ ?_ ?_⟩
   ·rintro i ae ax aE ⟨_,rfl,_⟩
    exact ck e
   ·rintro i x ae ax av ⟨⟨z,rfl⟩,rfl,fN⟩
    obtain⟨aG,i7,jL⟩:=cU.get ds cJ av
    have kC:=jL.ty (K:=K)
    have no:(∀n,aG≠.int n)->gf H H (Q (.aC ay)):=fun bf=>aZ (Io fun p q z=>by
     rw[z]at i7
     rcases i with _|_|i
     .cases i7;exact bf _ I
     .cases i7;exact bf _ I
     .cases i7)
    cases aG with
    |aK=>exact⟨_,I,.inl ⟨_,_,_,_,I,kC,bO K _ (by decide),ay,I,bN (no (fun n z=>nomatch z))⟩⟩
    |aC b=>exact⟨_,I,.inl ⟨_,_,_,_,I,kC,bO K _ (by decide),au,I,bT ⟨_,I,.inl ⟨_,_,_,_,I,kC,bO K _ (by decide),_,I,bN (no (fun n z=>nomatch z))⟩⟩⟩⟩
    | int n=>exact⟨_,I,.inl ⟨_,_,_,_,I,kC,bO K _ (by decide),au,I,bT ⟨_,I,.inl ⟨_,_,_,_,I,kC,bO K _ (by decide),_,I,bT ⟨⟨_,I⟩,I,fun j y c4 bF=>by
      rcases jC j i with z|z
      .exact fN j y z bF
      .rw[show j=i by omega,i7]at bF;cases bF;exact⟨n,I⟩⟩⟩⟩⟩⟩
    |str t=>exact⟨_,I,.inl ⟨_,_,_,_,I,kC,bO K _ (by decide),ay,I,bN (no (fun n z=>nomatch z))⟩⟩
    |tup t=>exact⟨_,I,.inl ⟨_,_,_,_,I,kC,bO K _ (by decide),ay,I,bN (no (fun n z=>nomatch z))⟩⟩
    |lst t=>exact⟨_,I,.inl ⟨_,_,_,_,I,kC,bO K _ (by decide),ay,I,bN (no (fun n z=>nomatch z))⟩⟩
   rintro ae ax ⟨⟨z,rfl⟩,rfl,fN⟩
   obtain⟨p,fw,rfl⟩:∃p fw:Int,ds=[.int p,.int fw]:=by
    rcases ds with _|⟨x,_|⟨y,_|⟨_,_⟩⟩⟩
    .cases f7
    .cases f7
    ·obtain⟨p,rfl⟩:=fN 0 x (by omega) rfl
     obtain⟨fw,rfl⟩:=fN 1 y (by omega) rfl
     exact⟨p,fw,I⟩
    .exact absurd f7 (by simp)
   obtain⟨_,_,rfl,rfl,_,_,rfl,rfl,rfl⟩:=cJ
   clear fN go
   have a1:dv [V.int p,V.int fw] 1=J (.int fw):=c5 (j:=1) rfl
   obtain⟨f3,eB,_⟩:=aU
   refine⟨_,I,.inl (.inr ⟨_,_,_,_,I,I,ck e,a1,.inl ⟨_,_,I,I,_,I,dk (fun dm=>?_) (fun dm=>?_)⟩⟩)⟩
   .exact aZ (fo fun z=>by omega)
   refine⟨_,I,_,_,I,ck e,I,_,_,I,_,_,I,I,?_⟩
   have aT:dw (.tup [.int p,.int fw])=au↔qd au p fw:=⟨fun z=>(lD z).2,fun z=>eY ⟨by omega,z⟩⟩
   refine⟨fun m ae ax=>H=ax/\∃(x y:Int)(b:Bool)(z oN l4:Option V),ae=[J (.ref a),z,J (.int x),J (.int y),J (.aC b),oN,l4]/\m=y.toNat/\0<=y/\x.natAbs<2^390/\y.natAbs<2^390/\(b=ay->y<x)/\(dw (.tup [.int p,.int fw])=au↔qd b x y),⟨fw.toNat,I,p,fw,au,_,_,_,I,I,by omega,f3,eB,(fun z=>nomatch z),aT⟩,?_⟩
   rintro m ae ax ⟨rfl,x,y,b,z,oN,l4,rfl,rfl,bF,acn,Ku,ao,aQ⟩
   refine⟨_,I,_,_,I,I,_,I,dk (fun ee=>?_) (fun ee=>?_)⟩
   ·rw[SN ee]at aQ
    refine⟨fun bU ai=>∃cv,cv<y.toNat/\(H=ai/\∃(x y:Int)(b:Bool)(z oN l4:Option V),bU=[J (.ref a),z,J (.int x),J (.int y),J (.aC b),oN,l4]/\cv=y.toNat/\0<=y/\x.natAbs<2^390/\y.natAbs<2^390/\(b=ay->y<x)/\(dw (.tup [.int p,.int fw])=au↔qd b x y)),fun _ _ h=>h,?_⟩
    have om:dh.Int.intBits y<=9000:=dp (SH Ku) (by decide)
    refine⟨_,I,_,I,_,_,I,I,⟨ee,.inl om⟩,?_⟩
    refine⟨_,I,_,I,.inl (.inr ⟨_,I,.inl ⟨_,_,I,I,_,I,_,_,I,I,_,_,I,?_⟩⟩)⟩
    have key:∀M:Int,M=(if 0-x/y > x/y+(if b=au then 1 else 0)then 0-x/y else x/y+(if b=au then 1 else 0))->((255:Int)<((dh.Int.intBits M:Nat):Int)↔¬AK b (x/y)):=fun M jJ=>by
     have t3:b=ay->1<=x/y:=fun z=>Int.le_ediv_of_mul_le ee (by have:=ao z;omega)
     have wG:0<M:=by cases b<;>simp at jJ t3<;>split at jJ<;>omega
     obtain⟨k,rfl⟩:∃k:Nat,M=(k:Int):=⟨M.toNat,by omega⟩
     rw[t2]
     have hk:bp k<=255↔k<2^255:=⟨fun z=>ez (rC k) (Nat.pow_le_pow_right (by decide) z),jm⟩
     have bg:((k:Nat):Int)<2^255↔k<2^255:=by
      have:((2^255:Nat):Int)=(2:Int)^255:=by rw[Int.natCast_pow];rfl
      omega
     have:(255:Int)<((bp k:Nat):Int)↔¬(((k:Nat):Int)<2^255):=by omega
     rw[this]
     cases b
     ·show _↔¬gS _
      have mH:=t3 rfl
      rw[Q8 _ mH]
      simp at jJ
      split at jJ<;>omega
     ·show _↔¬gI _
      unfold gI
      simp at jJ
      split at jJ<;>omega
    refine⟨I,_,I,I,_,_,I,I,_,I,dk (fun eu=>?_) (fun eu=>?_)⟩
    ·have:=(key _ rfl).mp eu
     exact aZ (by cases dM:dw (.tup [.int p,.int fw])<;>first|rfl|exact absurd (aQ.mp dM).1 this)
    have hs:AK b (x/y):=Classical.byContradiction fun z=>eu ((key _ rfl).mpr z)
    have b5:=fR x ee
    have ip:=fp x (Int.ne_of_gt ee)
    refine⟨_,I,_,I,_,_,I,I,ee,_,I,_,I,(x%y).toNat,by omega,rfl,y,x%y,ay,_,_,_,rfl,rfl,ip,Ku,by omega,fun _=>b5,?_⟩
    rw[aQ]
    exact⟨fun z=>z.2,fun z=>⟨hs,z⟩⟩
   ·obtain rfl:y=0:=by omega
    rw[RW]at aQ
    refine⟨_,I,I,H,.refl (c2 _),?_⟩
    have:dw (.tup [.int p,.int fw])=decide (V.int x=V.int 1):=by
     rw[Bool.eq_iff_iff,aQ,decide_eq_true_iff]
     exact⟨fun z=>by rw[z],V.int.inj⟩
    rw[<-this];exact q
  .exact aZ (Io fun p q z=>c (by rw[d9,z];rfl))
 |aK =>
  subst eK
  exact go ⟨_,I,.inl ⟨_,_,_,_,I,cj,bO K _ (by decide),ay,I,bN (aZ I)⟩⟩
 |aC b =>
  subst eK
  exact go ⟨_,I,.inl ⟨_,_,_,_,I,cj,bO K _ (by decide),ay,I,bN (aZ I)⟩⟩
 |int i =>
  subst eK
  exact go ⟨_,I,.inl ⟨_,_,_,_,I,cj,bO K _ (by decide),ay,I,bN (aZ I)⟩⟩
 |str t =>
  subst eK
  exact go ⟨_,I,.inl ⟨_,_,_,_,I,cj,bO K _ (by decide),ay,I,bN (aZ I)⟩⟩
 |lst ds =>
  subst eK
  exact go ⟨_,I,.inl ⟨_,_,_,_,I,cj,bO K _ (by decide),ay,I,bN (aZ I)⟩⟩
theorem nL{R:eG}{cB:Ends}{dd:D}(av:ae[1]?=J (J v))(hd:dI H dd v)(h:R cB (ae.set 3 (J (.aC (isNum dd)))) H):
  oL (sL (Mo (AM (fun xs H Q=>(∃x T t b,xs=[x,V.ty T]/\iy iw H x t/\fD iw t (al.type T)=J b/\Q (V.aC b) H)\/∃x C t b,xs=[x,V.ref C]/\iy iw H x t/\fD iw t (al.ref C)=J b/\Q (V.aC b) H) (nH (kz 1) (nH (iH (V.ty "int")) u4)))
   (fun ae H Q=>AM (fun xs H Q=>(∃x T t b,xs=[x,V.ty T]/\iy iw H x t/\fD iw t (al.type T)=J b/\Q (V.aC b) H)\/∃x C t b,xs=[x,V.ref C]/\iy iw H x t/\fD iw t (al.ref C)=J b/\Q (V.aC b) H) (nH (kz 1) (nH (iH (V.ty "bool")) u4)) ae H fun x ai=>∃k,vM iw x ai k/\Q (V.aC !k) ai)) (rP 3)) R cB ae H:=by
 have cj:=hd.ty (K:=iw)
 cases dd with
 |aC b=>exact⟨_,av,.inl ⟨_,_,_,_,I,cj,bO iw _ (by decide),_,I,bN ⟨_,av,.inl ⟨_,_,_,_,I,cj,bO iw _ (by decide),_,I,h⟩⟩⟩⟩
 |int b=>exact⟨_,av,.inl ⟨_,_,_,_,I,cj,bO iw _ (by decide),_,I,bN ⟨_,av,.inl ⟨_,_,_,_,I,cj,bO iw _ (by decide),_,I,h⟩⟩⟩⟩
 |aK=>exact⟨_,av,.inl ⟨_,_,_,_,I,cj,bO iw _ (by decide),_,I,bT h⟩⟩
 |str b=>exact⟨_,av,.inl ⟨_,_,_,_,I,cj,bO iw _ (by decide),_,I,bT h⟩⟩
 |tup b=>exact⟨_,av,.inl ⟨_,_,_,_,I,cj,bO iw _ (by decide),_,I,bT h⟩⟩
 |lst b=>exact⟨_,av,.inl ⟨_,_,_,_,I,cj,bO iw _ (by decide),_,I,bT h⟩⟩
theorem kx{c:Prop}[Decidable c](hc:¬c)(h:A):if(!decide c)=au then A else B:=by
 rw[fo hc];exact bN h
theorem Cm(n:Nat)(p:Nat->Bool):(List.range n).all p=decide (V.int (((List.range n).filter fun k=>!p k).length:Nat)=V.int 0):=by
 rw[Bool.eq_iff_iff,decide_eq_true_iff,ig]
 constructor
 ·intro h
  rw[List.filter_eq_nil_iff.mpr fun c hc z=>by rw[h c hc]at z;cases z];rfl
 ·intro h c hc
  have bt:=List.length_eq_zero_iff.mp (Int.ofNat.inj (V.int.inj h))
  have:=List.filter_eq_nil_iff.mp bt c hc
  simpa using this
noncomputable def oK(H:ar):V->V
 |.ref T=>match H T with|some (.tup [_,y])=>y|_ =>.aK
 |_ =>.aK
noncomputable def pw(H:ar):V->V
 |.ref T=>match H T with|some (.tup [y,_])=>y|_ =>.aK
 |_ =>.aK
theorem tV{x:V}(h:H T=J (.tup [x,y])):oK H (.ref T)=y/\pw H (.ref T)=x:=by
 have aq:oK H (.ref T)=(match H T with|some (.tup [_,y])=>y|_ =>.aK):=rfl
 have az:pw H (.ref T)=(match H T with|some (.tup [y,_])=>y|_ =>.aK):=rfl
 rw[aq,az,h];exact⟨I,I⟩
theorem P6(h:jI ns=au):ns.Nodup:=by
 unfold List.Nodup
 rw[List.pairwise_iff_getElem]
 intro i j aE c4 zU e
 have aq:=vN h (cV aE)
 have az:=vN h (cV c4)
 rw[e]at aq
 omega
theorem HG{X:List ah}{H:ar}(n:af):∀(fs:List bq)(ns:List af){vs:List V},ns.length=fs.length->ns.Nodup->b3 X H (gL fs ns) vs->
  (n∉ns->vs.filter (fun x=>decide (pw H x=.str n))=[])/\(n∈ns->∃T y,vs.filter (fun x=>decide (pw H x=.str n))=[.ref T]/\H T=J (.tup [.str n,y])/\cd X H (e5 (fs.getD (ns.idxOf n) (.bare 0))) y)
 |[],[],vs,_,_,h=>by
  rw[gL]at h
  obtain rfl:vs=[]:=h
  exact⟨fun _=>I,fun z=>nomatch z⟩
 |f::fs,[],vs,h,_,_=>by cases h
 |[],m::ns,vs,h,_,_=>by cases h
 | f::fs,m::ns,vs,aH,bf,h=>by
  rw[gL]at h
  obtain⟨v,r,rfl,⟨T,ws,rfl,cF,ft,⟨_,_,rfl,⟨rfl,_⟩,df,_,rfl,bS,rfl⟩,_⟩,cc⟩:=h
  obtain⟨V3,r2⟩:=List.nodup_cons.mp bf
  obtain⟨d1,dj⟩:=HG n fs ns (by simpa using aH) r2 cc
  have Jw:pw H (.ref T)=.str m:=(tV ft).2
  by_cases z:m=n
  ·subst z
   refine⟨fun y=>absurd (gU ..) y,fun _=>⟨T,df,?_,ft,?_⟩⟩
   .rw[List.filter_cons_of_pos (p:=fun x=>decide (pw H x=.str m)) (eY Jw),d1 V3]
   .rw[List.idxOf_cons_self];exact bS
  ·have ne:¬decide (pw H (.ref T)=.str n)=au:=fun y=>by
    have:=lD y
    rw[Jw]at this
    exact z (V.str.inj this)
   rw[List.filter_cons_of_neg (p:=fun x=>decide (pw H x=.str n)) ne]
   refine⟨fun y=>d1 fun w=>y (eo _ w),fun y=>?_⟩
   obtain⟨iK,iV,aq,az,bE⟩:=dj ((dy.mp y).resolve_left (e3 z))
   refine⟨iK,iV,aq,az,?_⟩
   rw[List.idxOf_cons,beq_false_of_ne z];exact bE
inductive LP(d:Nat)(vs:List V)(H:ar)(Q:bP)(E:cC):Prop where
 |mk (jw v:V) (f:bq) (dd:D) (X:List ah) (bt:vs=[jw,v]) (aq:cd X H (e5 f) jw) (az:ei f) (bE:aO f<=d) (cz:dI H dd v) (dY:iR dd) (kT:Q (.aC (br dw f dd)) H):LP d vs H Q E
def AB(d:Nat):cT:=fun vs H Q E=>LP d vs H Q E
set_option maxHeartbeats 4000000 in
theorem OZ(nb:et mg)(F:ed K mg "_law_fits" yR ["_law_form_here","_law_value_here"] f fd)(s6:bx P w K mg base 1 "_law_is_fraction" ["_law_value_here"] FD)(q3:bx P w K mg base (d+2) "_law_fits" ["_law_form_here","_law_value_here"] (AB d)):bx P w K mg base (d+2+1) "_law_fits" ["_law_form_here","_law_value_here"] (AB (d+1)):=by
 refine F.fC tN (fun bD A _ s H vs Q E aF h=>?_)
 obtain⟨jw,v,g,dd,X,rfl,bS,aU,eg,hd,fU,q⟩:=h
 refine xO _ (aS (b0 2 tN.bC (b8 cb (ag 0) aA))
  (aS (b0 3 tN.bC (gV (bY fH rfl nb.eD eA (ak (ag 1) (ak (fz (v :=.ty "int") rfl nb.ow n4 rfl) aB))) (hT (CQ (bY fH rfl nb.eD eA (ak (ag 1) (ak (fz (v :=.ty "bool") rfl nb.pg o2 rfl) aB)))))))
  (aS (cy (e2.pt (ih (bZ cN (ag 2) b7) (iM (bZ cN (ag 2) b7)))) (aY (bB (C8 (gV (fc t6 (ag 1) km) (hT (fc cN (ag 2) b7))) (hT (gV (bY fH rfl nb.eD eA (ak (ag 1) (ak (fz (v :=.ty "bool") rfl nb.pg o2 rfl) aB))) (hT (fc cN (ag 2) b7))))))) cx)
  (aS (cy (bZ cN (ag 2) b7) (aY (bB (gV (ag 3) (gV (fc oE (ag 1) (aL gB (aL t5 aA aA) aA)) (hT (fc il (ag 1) (aL gB aA (aL t5 aA aA)))))))) cx)
  (aS (cy (bZ cN (ag 2) b7) (aY (bB (gV (ag 3) (gV (fc sq (b8 cb (ag 0) aA) (ag 1)) (hT (fc sq (ag 1) (b8 cb (ag 0) aA))))))) cx)
  (aS (cy (bZ cN (ag 2) b7) (aY (bB (cu s6 aF (ak (ag 1) aB) (hk:=by omega)))) cx)
  (aS (cy (bZ cN (ag 2) b7) (aS (cy (e2.pt (ih (hS (fS (bY fH rfl nb.eD eA (ak (ag 1) (ak (fz (v :=.ty "str") rfl nb.qT qp rfl) aB))))) (iM (bZ il (bY ec rfl nb.d2 d4 (ak (ag 1) aB)) aA)))) (aY (bB gJ)) cx)
   (aY (bB (fc cN (bY ec rfl nb.d2 d4 (ak (hQ ["_law_sign"] [(0,"_law_form_here")] rfl (by decide+kernel) ⟨rfl,.inl rfl,trivial⟩ (ja (ag 1)) (fun _ _ _ _ _=>(eH (i:=0) (show(["_law_sign","_law_form_here"]:List af).Nodup by decide+kernel))) (fun _ _ _ _ _=>(za (zb Pt (ag 0) (b8 cb (ag 1) aA) (by with_unfolding_all rfl)))) (fun _ _ _ _ _=>(ag 0))) aB)) aA)))) cx)
  (aS (cy (bZ cN (ag 2) b7) (aY (bB (cu q3 aF (ak (b8 cb (ag 0) aA) (ak (ag 1) aB)) (hk:=by omega)))) cx)
  (aS (cy (e2.pt (ih (e2.pt (mZ (hS (fS (bY fH rfl nb.eD eA (ak (ag 1) (ak (fz (v :=.ty "tuple") rfl nb.nI m5 rfl) aB))))) (mX (bZ nB (ag 2) b7)))) (iM (e2.pt (mZ (bZ cN (ag 2) b7) (mX (hS (fS (bY fH rfl nb.eD eA (ak (ag 1) (ak (fz (v :=.ty "list") rfl nb.se rB rfl) aB))))))))))) (aY (bB gJ)) cx)
  (aS (cy (bZ cN (ag 2) b7) (aS (cy (e2.pt (ih (bZ nB (bY ec rfl nb.d2 d4 (ak (ag 1) aB)) aA) (iM (hS (fS (bY fH rfl nb.eD eA (ak (b8 cb (ag 1) aA) (ak (fz (v :=.ty "str") rfl nb.qT qp rfl) aB)))))))) (aY (bB gJ)) cx)
   (aS (b0 4 tN.bC (hQ ["_law_pair"] [(1,"_law_value_here")] rfl (by decide+kernel) ⟨rfl,.inl rfl,trivial⟩ (ja (b8 cb (ag 0) aA)) (fun _ _ _ _ _=>(eH (i:=0) (show(["_law_pair","_law_value_here"]:List af).Nodup by decide+kernel))) (fun _ _ _ _ _=>(za (bZ cN (b8 cb (ag 0) aA) (b8 cb (ag 1) aA)))) (fun _ _ _ _ _=>(b8 cb (ag 0) aA))))
   (aY (bB (gV (fc cN (bY ec rfl nb.d2 d4 (ak (ag 4) aB)) aA) (hT (cu q3 aF (ak (b8 cb (ag 4) aA) (ak (b8 cb (ag 1) aA) aB)) (hk:=by omega)))))))) cx)
  (aS (b0 4 tN.bC (aL I8 (e4 (ak (b8 cb (ag 0) aA) aB)) (bY ec rfl nb.d2 d4 (ak (ag 1) aB))))
  (aS (cy (bZ cN (ag 2) b7) (aY (b0 4 tN.bC (hQ ["_law_pair"] [] rfl (by decide+kernel) trivial (ja (b8 cb (ag 0) aA)) (fun _ _ _ _ _=>(eH (i:=0) (show(["_law_pair"]:List af).Nodup by decide+kernel))) (fun _ _ _ _ _=>iA) (fun _ _ _ _ _=>(b8 cb (ag 0) aA))))) cx)
  (aS (cy (e2.pt (ih (e2.pt (mZ (bZ cN (ag 2) b7) (mX (bZ il (bY ec rfl nb.d2 d4 (ak (ag 1) aB)) aA)))) (ih (bZ il (bY ec rfl nb.d2 d4 (ak (ag 1) aB)) aA) (iM (bZ nB (bY ec rfl nb.d2 d4 (ak (ag 4) aB)) (bY ec rfl nb.d2 d4 (ak (ag 1) aB))))))) (aY (bB gJ)) cx)
  (aY (bB (fc cN (bY ec rfl nb.d2 d4 (ak (hQ ["_law_k"] [(4,"_law_inner"),(1,"_law_value_here")] rfl (by decide+kernel) ⟨rfl,.inl rfl,rfl,.inl rfl,trivial⟩ (n1 rfl nb.nE (ak (bY ec rfl nb.d2 d4 (ak (ag 1) aB)) aB)) (fun _ _ _ _ _=>(eH (i:=0) (show(["_law_k","_law_inner","_law_value_here"]:List af).Nodup by decide+kernel))) (fun _ _ _ _ _=>(za (hS (fS (cu q3 aF (ak (b8 cb (ag 1) (ag 0)) (ak (b8 cb (ag 2) (ag 0)) aB)) (hk:=by omega)))))) (fun _ _ _ _ _=>(ag 0))) aB)) aA)))))))))))))))) fun G fk eK go=>?_
 try dsimp only[d5,d6,d7,d8]at go
 have cj:=hd.ty (K:=K)
 have a0:∀(x:V)(r:List V),dv (x::r) 0=J x:=fun x r=>c5 (j:=0) rfl
 have a1:∀(x y:V)(r:List V),dv (x::y::r) 1=J y:=fun x y r=>c5 (j:=1) rfl
 have aZ:∀(b:Bool)(ai:ar),dJ H ai->br dw g dd=b->gf H ai (Q (.aC b)):=fun b ai hs e=>⟨H,.refl hs,by rw[e]at q;exact q⟩
 have s0:=c2 H
 have nn:dd≠.aK->¬v=.aK:=fun h z=>by
  subst z
  cases dd with
  |aK=>exact h I
  |aC b=>cases hd
  |int i=>cases hd
  |str i=>obtain⟨hd,_⟩:=hd;cases hd
  |tup i=>obtain⟨_,_,hd,_⟩:=hd;cases hd
  |lst i=>obtain⟨_,_,hd,_⟩:=hd;cases hd
 have aaN:ay=decide (V.str (sO 0)=V.str (af.ofString "truth")):=by decide+kernel
 have aaO:au=decide (V.str (sO 1)=V.str (af.ofString "truth")):=by decide+kernel
 cases g with
 | bare k =>
  rw[e5]at bS
  obtain⟨T,_,rfl,ho,e,⟨_,_,rfl,⟨rfl,_⟩,rfl⟩,_⟩:=bS
  rcases ni k with rfl|rfl|rfl|rfl
  ·skip
   subst eK
   refine go (hb I e (nL I hd ?_))
   refine Mv I (.inl I) fun N=>?_
   cases dd with
   |aK =>
    obtain rfl:v=.aK:=hd
    exact⟨_,I,I,_,I,h1 I ⟨_,I,I,_,I,h1 I (aZ _ _ s0 (by rw[gg];rfl))⟩⟩
   |aC b=>exact⟨_,I,I,_,I,eP (nn (fun z=>nomatch z)) ⟨ay,I,bT ⟨_,I,.inl ⟨_,_,_,_,I,cj,bO K _ (by decide),_,I,bN ⟨_,I,I,aZ _ _ s0 (by rw[gg];exact aaN)⟩⟩⟩⟩⟩
   |int i=>exact⟨_,I,I,_,I,eP (nn (fun z=>nomatch z)) ⟨ay,I,bT ⟨_,I,.inl ⟨_,_,_,_,I,cj,bO K _ (by decide),_,I,bT (aZ _ _ s0 (by rw[gg];rfl))⟩⟩⟩⟩
   |str i=>exact⟨_,I,I,_,I,eP (nn (fun z=>nomatch z)) ⟨ay,I,bT ⟨_,I,.inl ⟨_,_,_,_,I,cj,bO K _ (by decide),_,I,bT (aZ _ _ s0 (by rw[gg];rfl))⟩⟩⟩⟩
   |tup i=>exact⟨_,I,I,_,I,eP (nn (fun z=>nomatch z)) ⟨ay,I,bT ⟨_,I,.inl ⟨_,_,_,_,I,cj,bO K _ (by decide),_,I,bT (aZ _ _ s0 (by rw[gg];rfl))⟩⟩⟩⟩
   |lst i=>exact⟨_,I,I,_,I,eP (nn (fun z=>nomatch z)) ⟨ay,I,bT ⟨_,I,.inl ⟨_,_,_,_,I,cj,bO K _ (by decide),_,I,bT (aZ _ _ s0 (by rw[gg];rfl))⟩⟩⟩⟩
  ·skip
   subst eK
   refine go (hb I e (nL I hd ?_))
   refine Mv I (.inr I) fun N=>?_
   cases dd with
   |aK =>
    obtain rfl:v=.aK:=hd
    exact⟨_,I,I,_,I,h1 I ⟨_,I,I,_,I,eP (by decide+kernel) ⟨_,I,.inl ⟨_,_,_,_,I,cj,bO K _ (by decide),_,I,bT (aZ _ _ s0 (by rw[gg];rfl))⟩⟩⟩⟩
   |aC b=>exact⟨_,I,I,_,I,eP (nn (fun z=>nomatch z)) ⟨ay,I,bT ⟨_,I,.inl ⟨_,_,_,_,I,cj,bO K _ (by decide),_,I,bN ⟨_,I,I,aZ _ _ s0 (by rw[gg];exact aaO)⟩⟩⟩⟩⟩
   |int i=>exact⟨_,I,I,_,I,eP (nn (fun z=>nomatch z)) ⟨ay,I,bT ⟨_,I,.inl ⟨_,_,_,_,I,cj,bO K _ (by decide),_,I,bT (aZ _ _ s0 (by rw[gg];rfl))⟩⟩⟩⟩
   |str i=>exact⟨_,I,I,_,I,eP (nn (fun z=>nomatch z)) ⟨ay,I,bT ⟨_,I,.inl ⟨_,_,_,_,I,cj,bO K _ (by decide),_,I,bT (aZ _ _ s0 (by rw[gg];rfl))⟩⟩⟩⟩
   |tup i=>exact⟨_,I,I,_,I,eP (nn (fun z=>nomatch z)) ⟨ay,I,bT ⟨_,I,.inl ⟨_,_,_,_,I,cj,bO K _ (by decide),_,I,bT (aZ _ _ s0 (by rw[gg];rfl))⟩⟩⟩⟩
   |lst i=>exact⟨_,I,I,_,I,eP (nn (fun z=>nomatch z)) ⟨ay,I,bT ⟨_,I,.inl ⟨_,_,_,_,I,cj,bO K _ (by decide),_,I,bT (aZ _ _ s0 (by rw[gg];rfl))⟩⟩⟩⟩
  ·skip
   subst eK
   refine go (hb I e (nL I hd ?_))
   refine pV I (by decide+kernel) (by decide+kernel) (iz I fun N=>?_)
   cases dd with
   | int i =>
    obtain rfl:v=.int i:=hd
    refine⟨_,I,_,I,bN ⟨_,I,_,_,I,I,⟨by decide,by decide,by decide⟩,_,_,rfl,rfl,.inl ⟨_,_,rfl,rfl,_,rfl,?_⟩⟩⟩
    refine dk (fun c=>?_) (fun c=>aZ _ _ s0 ?_)
    ·refine⟨_,I,_,_,I,I,⟨by decide,by decide,by decide⟩,_,_,rfl,rfl,_,_,rfl,rfl,aZ _ _ s0 ?_⟩
     rw[gg]
     try dsimp only at c
     try dsimp only
     rw[wj]at c ⊢
     exact decide_eq_decide.mpr ⟨fun z=>by unfold gI at z;omega,fun z=>⟨by omega,by omega⟩⟩
    ·rw[gg]
     try dsimp only at c
     rw[wj]at c
     exact fo fun z=>by unfold gI at z;omega
   |aC i=>exact⟨_,I,_,I,bT (aZ _ _ s0 (by rw[gg];rfl))⟩
   |aK=>exact⟨_,I,_,I,bT (aZ _ _ s0 (by rw[gg];rfl))⟩
   |str i=>exact⟨_,I,_,I,bT (aZ _ _ s0 (by rw[gg];rfl))⟩
   |tup i=>exact⟨_,I,_,I,bT (aZ _ _ s0 (by rw[gg];rfl))⟩
   |lst i=>exact⟨_,I,_,I,bT (aZ _ _ s0 (by rw[gg];rfl))⟩
  ·skip
   subst eK
   refine go (hb I e (nL I hd ?_))
   refine pV I (by decide+kernel) (by decide+kernel) (du I (by decide+kernel) (du I (by decide+kernel) (iz I fun N=>?_)))
   exact⟨_,I,v,dd,I,hd,fU,aZ _ _ s0 (by rw[gg];cases dd<;>rfl)⟩
 | sp lo aE =>
  rw[e5]at bS
  obtain⟨T,_,rfl,ho,e,⟨_,_,rfl,⟨rfl,_⟩,_,_,rfl,rfl,_,_,rfl,rfl,rfl⟩,_⟩:=bS
  have a2:dv [V.str qW,V.int lo,V.int aE] 2=J (.int aE):=c5 (j:=2) rfl
  subst eK
  refine go (hb I e (nL I hd ?_))
  refine pV I (by decide+kernel) (by decide+kernel) (du I (by decide+kernel) (iz I fun N=>?_))
  cases dd with
  | int i =>
   obtain rfl:v=.int i:=hd
   refine⟨_,I,_,I,bN ⟨_,I,.inl (.inr ⟨_,_,_,_,I,I,ck e,a1 _ _ _,_,I,_,_,I,I,_,I,dk (fun c=>?_) (fun c=>aZ _ _ s0 ?_)⟩)⟩⟩
   ·refine⟨_,I,_,I,.inl (.inr ⟨_,_,_,_,I,I,ck e,a2,_,_,I,I,aZ _ _ s0 ?_⟩)⟩
    rw[br]
    exact decide_eq_decide.mpr ⟨fun z=>z.2,fun z=>⟨c,z⟩⟩
   ·rw[br]
    exact fo fun z=>c z.1
  |aC i=>exact⟨_,I,_,I,bT (aZ _ _ s0 (by rw[br];rfl))⟩
  |aK=>exact⟨_,I,_,I,bT (aZ _ _ s0 (by rw[br];rfl))⟩
  |str i=>exact⟨_,I,_,I,bT (aZ _ _ s0 (by rw[br];rfl))⟩
  |tup i=>exact⟨_,I,_,I,bT (aZ _ _ s0 (by rw[br];rfl))⟩
  |lst i=>exact⟨_,I,_,I,bT (aZ _ _ s0 (by rw[br];rfl))⟩
 | le cg =>
  rw[e5]at bS
  rw[ei]at aU
  obtain⟨T,_,rfl,ho,e,⟨_,_,rfl,⟨rfl,_⟩,_,_,rfl,⟨rfl,EO⟩,rfl⟩,_⟩:=bS
  subst eK
  refine go (hb I e (nL I hd ?_))
  refine pV I (by decide+kernel) (by decide+kernel) (du I (by decide+kernel) (du I (by decide+kernel) (du I (by decide+kernel) (iz I fun N=>?_))))
  cases dd with
  | str t =>
   obtain⟨rfl,uA⟩:=hd
   have iG:t.length<=bW:=dp uA (by decide)
   refine⟨_,I,.inl ⟨_,_,_,_,I,cj,bO K _ (by decide),au,I,bT ?_⟩⟩
   refine⟨_,I,_,_,I,⟨iG,I⟩,_,_,I,I,_,I,dk (fun c=>aZ _ _ s0 ?_) (fun c=>?_)⟩
   ·rw[br]
    show(decide (t.length<=200)&&_)=ay
    rw[fo (by omega)];rfl
   refine .inr ⟨_,I,t,I,fun cB ef=>?_⟩
   refine HV (fun c=>!decide (c∈cg.cps.toList)) (fun c =>.str ⟨#[c]⟩) (fun ae=>∃z,ae=[z,J (.ref T)]) iG ⟨_,I⟩ ef ?_ ?_
   ·rintro c hc bV H1 ⟨z,rfl⟩ c9 R jZ cf
    have fM:=cf [J (.str ⟨#[c]⟩),J (.ref T)] ⟨_,rfl⟩
    refine⟨_,I,_,I,.inl (.inr ⟨_,_,_,_,I,I,ck (c9 _ _ e),a1 _ _ _,_,_,I,I,_,I,?_⟩)⟩
    rw[StrLaws.found_one]
    exact uC (fun h=>⟨_,I,by rw[if_pos h]at fM;exact fM⟩) (fun h=>by rw[if_neg (by rw[h];decide)]at fM;exact fM)
   ·refine⟨_,_,I,.inl ⟨_,bA aP,I⟩,I,aZ _ _ (c3 ef) ?_⟩
    rw[br]
    show(decide (t.length<=200)&&j9 t cg)=_
    rw[eY (by omega),Bool.true_and,cI,Bool.eq_iff_iff,decide_eq_true_iff]
    unfold j9
    rw[ig]
    constructor
    ·intro h
     rw[List.filter_eq_nil_iff.mpr fun c hc z=>by rw[h c hc]at z;cases z];rfl
    ·intro h c hc
     have bt:=List.length_eq_zero_iff.mp (Int.ofNat.inj (V.int.inj h))
     have:=List.filter_eq_nil_iff.mp bt c hc
     simpa using this
  |aC i=>exact⟨_,I,.inl ⟨_,_,_,_,I,cj,bO K _ (by decide),ay,I,bN (aZ _ _ s0 (by rw[br];rfl))⟩⟩
  |aK=>exact⟨_,I,.inl ⟨_,_,_,_,I,cj,bO K _ (by decide),ay,I,bN (aZ _ _ s0 (by rw[br];rfl))⟩⟩
  |int i=>exact⟨_,I,.inl ⟨_,_,_,_,I,cj,bO K _ (by decide),ay,I,bN (aZ _ _ s0 (by rw[br];rfl))⟩⟩
  |tup i=>exact⟨_,I,.inl ⟨_,_,_,_,I,cj,bO K _ (by decide),ay,I,bN (aZ _ _ s0 (by rw[br];rfl))⟩⟩
  |lst i=>exact⟨_,I,.inl ⟨_,_,_,_,I,cj,bO K _ (by decide),ay,I,bN (aZ _ _ s0 (by rw[br];rfl))⟩⟩
 | one k g =>
  rw[e5]at bS
  rw[ei]at aU
  rw[aO]at eg
  obtain⟨T,_,rfl,ho,e,⟨_,_,rfl,⟨rfl,_⟩,df,_,rfl,j6,rfl⟩,_⟩:=bS
  rcases og k with rfl|rfl|rfl
  ·skip
   subst eK
   refine go (hb I e (nL I hd ?_))
   refine pV I (by decide+kernel) (by decide+kernel) (du I (by decide+kernel) (du I (by decide+kernel) (du I (by decide+kernel) (du I (by decide+kernel) ?_))))
   refine du I (by decide+kernel) ?_
   cases dd with
   | tup ds =>
    obtain⟨a,vs,rfl,bg,cJ,aH⟩:=hd
    have d9:=cU.len ds cJ
    have lS:∀{ax:ar}{i:Nat}{x:V}{Q:bP},dJ H ax->vs[i]?=J x->Q x ax->(sy K (.ref a) (.int (0+((i:Nat):Int))) ax Q\/sA K (.ref a) (.int (0+((i:Nat):Int))) ax Q)\/sz (.ref a) (.int (0+((i:Nat):Int))) ax Q:=fun hs av q=>by rw[Int.zero_add];exact xc (.inr (hs _ _ bg)) av q
    have cG:∀{ax:ar},dJ H ax->ym K (.ref a) ax vs.length:=fun hs =>.inr ⟨_,ck (hs _ _ bg),rfl⟩
    refine⟨_,I,.inl ⟨_,_,_,_,I,cj,bO K _ (by decide),au,I,bT (bT ⟨_,I,I,_,I,eP (by decide+kernel) (bT ?_)⟩)⟩⟩
    refine du I (by decide+kernel) ?_
    refine⟨_,I,.inl (.inr ⟨_,_,_,_,I,I,ck e,a1 _ _ _,pb,fun ix qC=>?_⟩)⟩
    refine⟨_,I,_,_,I,cG (c3 qC),ix,_,_,I,I,aP,by omega,by omega,eN (by rw[i1];omega),fun cB ef=>?_⟩
    have c8:dJ H (upd (upd H ix (.lst [df])) cB (.lst (List.replicate (((vs.length:Nat):Int)).toNat [df]).flatten)):=(c3 qC).trans (c3 ef)
    have hl:=aP (H:=upd H ix (.lst [df])) (a:=cB) (o :=.lst (List.replicate (((vs.length:Nat):Int)).toNat [df]).flatten)
    generalize upd (upd H ix (.lst [df])) cB (.lst (List.replicate (((vs.length:Nat):Int)).toNat [df]).flatten)=ax at c8 hl ⊢
    have Dz:(List.replicate (((vs.length:Nat):Int)).toNat [df]).flatten=List.replicate vs.length df:=by rw[show(((vs.length:Nat):Int)).toNat=vs.length by omega];simp
    rw[Dz]at hl
    obtain⟨ws,ny,hw,hl⟩:∃ws:List V,ws.length=vs.length/\(∀k,k<vs.length->ws[k]?=J df)/\ax cB=J (.lst ws):=⟨_,List.length_replicate,fun k hk=>by rw[List.getElem?_replicate,if_pos hk],hl⟩
    refine du I (by decide+kernel) ?_
    refine⟨_,I,I,_,I,h1 I ⟨_,I,_,_,I,cG c8,_,_,I,I,_,I,dk (fun c=>bN (aZ _ _ c8 ?_)) (fun c=>?_)⟩⟩
    ·rw[br]
     rcases ds with _|⟨x,_|⟨y,r⟩⟩
     .rw[d9]at c;exact absurd c (by decide)
     .rw[d9]at c;exact absurd c (by rw[i1];decide)
     .rfl
    refine⟨_,I,_,_,I,cG c8,_,_,I,I,_,I,eP (by omega) ⟨_,I,_,_,I,.inl ⟨_,bA hl,I⟩,_,I,_,_,I,cG c8,I,_,I,la (by rw[ny]) ?_⟩⟩
    have heq:br dw (.one 0 g) (.tup ds)=(List.range vs.length).all fun k=>br dw ((fun _=>g) k) (ds.getD k .aK):=by
     rw[br,d9]
     rcases ds with _|⟨x,_|⟨y,r⟩⟩
     .rfl
     ·show br dw g x=(br dw g x&&au)
      rw[Bool.and_true]
     .rw[d9]at c;exact absurd c (by rw[ep,ep];omega)
    obtain⟨hj,k4⟩:∃hj:Nat->bq,hj=fun _=>g:=⟨_,rfl⟩
    rw[<-k4]at heq
    have g9:∀k,k<vs.length->∃w,ws[k]?=J w/\cd X ax (e5 (hj k)) w/\ei (hj k)/\aO (hj k)<=d:=fun k hk=>⟨df,hw k hk,by rw[k4];exact cd.same c8 j6,by rw[k4];exact aU,by rw[k4];show aO g<=d;omega⟩
    refine⟨_,I,_,_,I,cG c8,_,I,by omega,by omega,fun Gj h0=>?_⟩
    rw[show(((vs.length:Nat):Int)).toNat=vs.length by omega]
    refine vG (fun k=>!br dw (hj k) (ds.getD k .aK)) (fun i =>.int (0+((i:Nat):Int))) (fun ae=>∃z,ae=[z,J (.ref cB),J (.ref a)]) (by omega) ⟨_,I⟩ h0 ?_ ?_
    ·rintro i aE bV H1 ⟨z,rfl⟩ c9 R jZ cf
     obtain⟨w,hw,w9,xb,xa⟩:=g9 i aE
     obtain⟨e7,d0⟩:∃x,vs[i]?=J x:=⟨_,cV aE⟩
     obtain⟨f5,f6,k6⟩:=cU.get ds cJ d0
     have wk:ds.getD i .aK=f5:=by rw[eM,f6];rfl
     have fM:=cf [J (.int (0+((i:Nat):Int))),J (.ref cB),J (.ref a)] ⟨_,rfl⟩
     refine⟨_,I,_,I,.inl (.inl ⟨_,_,_,_,I,I,bA (c9 _ _ hl),(by rw[Int.zero_add];exact c5 hw),_,I,_,I,lS (c8.trans c9) d0 ⟨w,e7,hj i,f5,X,I,cd.same c9 w9,xb,xa,dI.same (c8.trans c9) _ k6,qg ds fU f6,_,I,?_⟩⟩)⟩
     rw[<-wk]
     exact uC (fun h=>⟨_,I,by rw[if_pos h]at fM;exact fM⟩) (fun h=>by rw[if_neg (by rw[h];decide)]at fM;exact fM)
    ·refine⟨_,_,I,.inl ⟨_,bA aP,I⟩,I,aZ _ _ (c8.trans (c3 h0)) ?_⟩
     rw[heq,cI]
     exact Cm _ _
   |aC i=>exact⟨_,I,.inl ⟨_,_,_,_,I,cj,bO K _ (by decide),ay,I,bN ⟨_,I,I,_,I,kx (by decide+kernel) (bN (aZ _ _ s0 (by rw[br];rfl)))⟩⟩⟩
   |aK=>exact⟨_,I,.inl ⟨_,_,_,_,I,cj,bO K _ (by decide),ay,I,bN ⟨_,I,I,_,I,kx (by decide+kernel) (bN (aZ _ _ s0 (by rw[br];rfl)))⟩⟩⟩
   |int i=>exact⟨_,I,.inl ⟨_,_,_,_,I,cj,bO K _ (by decide),ay,I,bN ⟨_,I,I,_,I,kx (by decide+kernel) (bN (aZ _ _ s0 (by rw[br];rfl)))⟩⟩⟩
   |str i=>exact⟨_,I,.inl ⟨_,_,_,_,I,cj,bO K _ (by decide),ay,I,bN ⟨_,I,I,_,I,kx (by decide+kernel) (bN (aZ _ _ s0 (by rw[br];rfl)))⟩⟩⟩
   |lst i=>exact⟨_,I,.inl ⟨_,_,_,_,I,cj,bO K _ (by decide),ay,I,bN ⟨_,I,I,_,I,kx (by decide+kernel) (bN (aZ _ _ s0 (by rw[br];rfl)))⟩⟩⟩
  ·skip
   subst eK
   refine go (hb I e (nL I hd ?_))
   refine pV I (by decide+kernel) (by decide+kernel) (du I (by decide+kernel) (du I (by decide+kernel) (du I (by decide+kernel) (du I (by decide+kernel) ?_))))
   refine du I (by decide+kernel) ?_
   cases dd with
   | lst ds =>
    obtain⟨a,vs,rfl,bg,cJ,aH⟩:=hd
    have d9:=cU.len ds cJ
    have lS:∀{ax:ar}{i:Nat}{x:V}{Q:bP},dJ H ax->vs[i]?=J x->Q x ax->(sy K (.ref a) (.int (0+((i:Nat):Int))) ax Q\/sA K (.ref a) (.int (0+((i:Nat):Int))) ax Q)\/sz (.ref a) (.int (0+((i:Nat):Int))) ax Q:=fun hs av q=>by rw[Int.zero_add];exact xc (.inl (hs _ _ bg)) av q
    have cG:∀{ax:ar},dJ H ax->ym K (.ref a) ax vs.length:=fun hs =>.inl ⟨_,bA (hs _ _ bg),rfl⟩
    refine⟨_,I,.inl ⟨_,_,_,_,I,cj,bO K _ (by decide),ay,I,bN ⟨_,I,I,_,I,la (by decide+kernel) ⟨_,I,I,_,I,h1 I ⟨_,I,.inl ⟨_,_,_,_,I,cj,bO K _ (by decide),au,I,bT ?_⟩⟩⟩⟩⟩⟩
    refine du I (by decide+kernel) ?_
    refine⟨_,I,.inl (.inr ⟨_,_,_,_,I,I,ck e,a1 _ _ _,pb,fun ix qC=>?_⟩)⟩
    refine⟨_,I,_,_,I,cG (c3 qC),ix,_,_,I,I,aP,by omega,by omega,eN (by rw[i1];omega),fun cB ef=>?_⟩
    have c8:dJ H (upd (upd H ix (.lst [df])) cB (.lst (List.replicate (((vs.length:Nat):Int)).toNat [df]).flatten)):=(c3 qC).trans (c3 ef)
    have hl:=aP (H:=upd H ix (.lst [df])) (a:=cB) (o :=.lst (List.replicate (((vs.length:Nat):Int)).toNat [df]).flatten)
    generalize upd (upd H ix (.lst [df])) cB (.lst (List.replicate (((vs.length:Nat):Int)).toNat [df]).flatten)=ax at c8 hl ⊢
    have Dz:(List.replicate (((vs.length:Nat):Int)).toNat [df]).flatten=List.replicate vs.length df:=by rw[show(((vs.length:Nat):Int)).toNat=vs.length by omega];simp
    rw[Dz]at hl
    obtain⟨ws,ny,hw,hl⟩:∃ws:List V,ws.length=vs.length/\(∀k,k<vs.length->ws[k]?=J df)/\ax cB=J (.lst ws):=⟨_,List.length_replicate,fun k hk=>by rw[List.getElem?_replicate,if_pos hk],hl⟩
    refine du I (by decide+kernel) ?_
    refine⟨_,I,I,_,I,eP (by decide+kernel) (bT ⟨_,I,_,_,I,cG c8,_,_,I,I,_,I,dk (fun c=>bN (aZ _ _ c8 ?_)) (fun c=>?_)⟩)⟩
    ·rw[br]
     show(decide (ds.length<=60)&&_)=ay
     rw[fo (by omega)];rfl
    refine⟨_,I,_,_,I,.inl ⟨_,bA hl,I⟩,_,I,_,_,I,cG c8,I,_,I,la (by rw[ny]) ?_⟩
    have heq:br dw (.one 1 g) (.lst ds)=(List.range vs.length).all fun k=>br dw ((fun _=>g) k) (ds.getD k .aK):=by
     rw[br,d9]
     show(decide (ds.length<=60)&&ds.all (br dw g))=_
     rw[eY (by omega),Bool.true_and,Bool.eq_iff_iff,ig,ig]
     constructor
     ·intro h k hk
      have hk:=List.mem_range.mp hk
      rw[eM,cV hk]
      exact h _ (List.getElem_mem hk)
     ·intro h x av
      obtain⟨k,hk,rfl⟩:=List.getElem_of_mem av
      have:=h k (List.mem_range.mpr hk)
      rw[eM,cV hk]at this
      exact this
    obtain⟨hj,k4⟩:∃hj:Nat->bq,hj=fun _=>g:=⟨_,rfl⟩
    rw[<-k4]at heq
    have g9:∀k,k<vs.length->∃w,ws[k]?=J w/\cd X ax (e5 (hj k)) w/\ei (hj k)/\aO (hj k)<=d:=fun k hk=>⟨df,hw k hk,by rw[k4];exact cd.same c8 j6,by rw[k4];exact aU,by rw[k4];show aO g<=d;omega⟩
    refine⟨_,I,_,_,I,cG c8,_,I,by omega,by omega,fun Gj h0=>?_⟩
    rw[show(((vs.length:Nat):Int)).toNat=vs.length by omega]
    refine vG (fun k=>!br dw (hj k) (ds.getD k .aK)) (fun i =>.int (0+((i:Nat):Int))) (fun ae=>∃z,ae=[z,J (.ref cB),J (.ref a)]) (by omega) ⟨_,I⟩ h0 ?_ ?_
    ·rintro i aE bV H1 ⟨z,rfl⟩ c9 R jZ cf
     obtain⟨w,hw,w9,xb,xa⟩:=g9 i aE
     obtain⟨e7,d0⟩:∃x,vs[i]?=J x:=⟨_,cV aE⟩
     obtain⟨f5,f6,k6⟩:=cU.get ds cJ d0
     have wk:ds.getD i .aK=f5:=by rw[eM,f6];rfl
     have fM:=cf [J (.int (0+((i:Nat):Int))),J (.ref cB),J (.ref a)] ⟨_,rfl⟩
     refine⟨_,I,_,I,.inl (.inl ⟨_,_,_,_,I,I,bA (c9 _ _ hl),(by rw[Int.zero_add];exact c5 hw),_,I,_,I,lS (c8.trans c9) d0 ⟨w,e7,hj i,f5,X,I,cd.same c9 w9,xb,xa,dI.same (c8.trans c9) _ k6,qg ds fU f6,_,I,?_⟩⟩)⟩
     rw[<-wk]
     exact uC (fun h=>⟨_,I,by rw[if_pos h]at fM;exact fM⟩) (fun h=>by rw[if_neg (by rw[h];decide)]at fM;exact fM)
    ·refine⟨_,_,I,.inl ⟨_,bA aP,I⟩,I,aZ _ _ (c8.trans (c3 h0)) ?_⟩
     rw[heq,cI]
     exact Cm _ _
   |tup i=>exact⟨_,I,.inl ⟨_,_,_,_,I,cj,bO K _ (by decide),au,I,bT (bT ⟨_,I,I,_,I,h1 I ⟨_,I,.inl ⟨_,_,_,_,I,cj,bO K _ (by decide),ay,I,bN (aZ _ _ s0 (by rw[br];rfl))⟩⟩⟩)⟩⟩
   |aC i=>exact⟨_,I,.inl ⟨_,_,_,_,I,cj,bO K _ (by decide),ay,I,bN ⟨_,I,I,_,I,la (by decide+kernel) ⟨_,I,I,_,I,h1 I ⟨_,I,.inl ⟨_,_,_,_,I,cj,bO K _ (by decide),ay,I,bN (aZ _ _ s0 (by rw[br];rfl))⟩⟩⟩⟩⟩⟩
   |aK=>exact⟨_,I,.inl ⟨_,_,_,_,I,cj,bO K _ (by decide),ay,I,bN ⟨_,I,I,_,I,la (by decide+kernel) ⟨_,I,I,_,I,h1 I ⟨_,I,.inl ⟨_,_,_,_,I,cj,bO K _ (by decide),ay,I,bN (aZ _ _ s0 (by rw[br];rfl))⟩⟩⟩⟩⟩⟩
   |int i=>exact⟨_,I,.inl ⟨_,_,_,_,I,cj,bO K _ (by decide),ay,I,bN ⟨_,I,I,_,I,la (by decide+kernel) ⟨_,I,I,_,I,h1 I ⟨_,I,.inl ⟨_,_,_,_,I,cj,bO K _ (by decide),ay,I,bN (aZ _ _ s0 (by rw[br];rfl))⟩⟩⟩⟩⟩⟩
   |str i=>exact⟨_,I,.inl ⟨_,_,_,_,I,cj,bO K _ (by decide),ay,I,bN ⟨_,I,I,_,I,la (by decide+kernel) ⟨_,I,I,_,I,h1 I ⟨_,I,.inl ⟨_,_,_,_,I,cj,bO K _ (by decide),ay,I,bN (aZ _ _ s0 (by rw[br];rfl))⟩⟩⟩⟩⟩⟩
  ·skip
   subst eK
   refine go (hb I e (nL I hd ?_))
   refine pV I (by decide+kernel) (by decide+kernel) (du I (by decide+kernel) (du I (by decide+kernel) (du I (by decide+kernel) (du I (by decide+kernel) ?_))))
   exact iz I fun N=>⟨_,I,.inl (.inr ⟨_,_,_,_,I,I,ck e,a1 _ _ _,_,I,df,v,g,dd,X,I,j6,aU,by omega,hd,fU,aZ _ _ s0 (by rw[br];rfl)⟩)⟩
 | two k ns fs =>
  rw[e5]at bS
  rw[ei]at aU
  rw[aO]at eg
  obtain⟨gO,ux,kv⟩:=aU
  obtain⟨T,_,rfl,ho,e,⟨_,_,rfl,⟨rfl,_⟩,_,_,rfl,⟨l,jq,rfl,r0,hX,wZ,J9⟩,rfl⟩,_⟩:=bS
  have iQ:jq.length=fs.length:=by rw[cU.len _ (b3.at _ wZ),tU]
  rcases rM k with rfl|rfl
  ·skip
   subst eK
   refine go (hb I e (nL I hd ?_))
   refine pV I (by decide+kernel) (by decide+kernel) (du I (by decide+kernel) (du I (by decide+kernel) (du I (by decide+kernel) (du I (by decide+kernel) ?_))))
   refine du I (by decide+kernel) ?_
   cases dd with
   | tup ds =>
    obtain⟨a,vs,rfl,bg,cJ,aH⟩:=hd
    have d9:=cU.len ds cJ
    have lS:∀{ax:ar}{i:Nat}{x:V}{Q:bP},dJ H ax->vs[i]?=J x->Q x ax->(sy K (.ref a) (.int (0+((i:Nat):Int))) ax Q\/sA K (.ref a) (.int (0+((i:Nat):Int))) ax Q)\/sz (.ref a) (.int (0+((i:Nat):Int))) ax Q:=fun hs av q=>by rw[Int.zero_add];exact xc (.inr (hs _ _ bg)) av q
    have cG:∀{ax:ar},dJ H ax->ym K (.ref a) ax vs.length:=fun hs =>.inr ⟨_,ck (hs _ _ bg),rfl⟩
    refine⟨_,I,.inl ⟨_,_,_,_,I,cj,bO K _ (by decide),au,I,bT (bT ⟨_,I,I,_,I,eP (by decide+kernel) (bT ?_)⟩)⟩⟩
    refine du I (by decide+kernel) ?_
    refine⟨_,I,.inl (.inr ⟨_,_,_,_,I,I,ck e,a1 _ _ _,pb,fun ix qC=>?_⟩)⟩
    refine⟨_,I,_,_,I,cG (c3 qC),ix,_,_,I,I,aP,by omega,by omega,eN (by rw[i1];omega),fun GD gy=>?_⟩
    have c9:dJ H (upd (upd H ix (.lst [V.ref l])) GD (.lst (List.replicate (((vs.length:Nat):Int)).toNat [V.ref l]).flatten)):=(c3 qC).trans (c3 gy)
    generalize upd (upd H ix (.lst [V.ref l])) GD (.lst (List.replicate (((vs.length:Nat):Int)).toNat [V.ref l]).flatten)=H1 at c9 ⊢
    refine aal I fun N b9=>?_
    refine .inl ⟨_,I,.inl (.inr ⟨_,_,_,_,I,I,ck (c9 _ _ e),a1 _ _ _,l,I,⟨_,bA (c9 _ _ hX)⟩,fun cB ef=>?_⟩)⟩
    refine Cx (oK H) (fun ae=>∃z,ae=[z]) (eN (by omega)) ⟨_,I⟩ ef (bA (c9 _ _ hX)) ?_ ?_
    ·rintro x av bV bL ⟨z,rfl⟩ w5 R cf
     obtain⟨i,aE,rfl⟩:=List.getElem_of_mem av
     obtain⟨g,nm,dK,df,aN,k8,ex,pB,jG,j6⟩:=rm fs ns ux wZ (cV aE)
     have fM:=cf [J jq[i]] ⟨_,rfl⟩
     rw[ex,(tV jG).1]at fM
     rw[ex]
     exact⟨_,I,.inl (.inr ⟨_,_,_,_,I,I,ck (w5 _ _ (c9 _ _ jG)),a1 _ _ _,fM⟩)⟩
    refine b9 _ _ ?_
    have c8:=c9.trans (c3 (o :=.lst (jq.map (oK H))) ef)
    have hl:=aP (H:=H1) (a:=cB) (o :=.lst (jq.map (oK H)))
    generalize upd H1 cB (.lst (jq.map (oK H)))=ax at c8 hl ⊢
    refine⟨_,I,I,_,I,eP (by decide+kernel) (bT ⟨_,I,_,_,I,cG c8,_,_,I,I,_,I,dk (fun c=>bN (aZ _ _ c8 ?_)) (fun c=>?_)⟩)⟩
    ·rw[br,if_pos rfl]
     refine vV _ _ _ fun z=>?_
     have:=(m6 gO).1
     omega
    refine⟨_,I,_,_,I,.inl ⟨_,bA hl,I⟩,_,I,_,_,I,cG c8,I,_,I,E3 (fun ee=>?_) (fun ee=>aZ _ _ c8 (by
     rw[br,if_pos rfl]
     exact vV _ _ _ fun z=>ee (by rw[cI,d9,z,iQ])))⟩
    have ny:(jq.map (oK H)).length=vs.length:=by have:=V.int.inj ee;omega
    rw[cI]at ny
    have heq:br dw (.two 0 ns fs) (.tup ds)=(List.range vs.length).all fun k=>br dw (fs.getD k (.bare 0)) (ds.getD k .aK):=by
     rw[br,if_pos rfl,<-ny,iQ]
     exact y5 _ _ _ (by omega)
    obtain⟨hj,k4⟩:∃hj:Nat->bq,hj=fun k=>fs.getD k (.bare 0):=⟨_,rfl⟩
    have heq:br dw (.two 0 ns fs) (.tup ds)=(List.range vs.length).all fun k=>br dw (hj k) (ds.getD k .aK):=by rw[k4];exact heq
    have g9:∀k,k<vs.length->∃w,(jq.map (oK H))[k]?=J w/\cd X ax (e5 (hj k)) w/\ei (hj k)/\aO (hj k)<=d:=fun k hk=>by
     obtain⟨g,nm,dK,df,aN,k8,ex,pB,jG,j6⟩:=rm fs ns ux wZ (cV (show k<jq.length by omega))
     obtain⟨pP,ot⟩:=rl kv aN
     have mj:hj k=g:=by rw[k4];show fs.getD k _=g;rw[eM,aN];rfl
     rw[mj]
     refine⟨df,?_,cd.same c8 j6,pP,by omega⟩
     rw[gm,cV (show k<jq.length by omega),ex]
     show J (oK H (.ref dK))=_
     rw[(tV jG).1]
    refine⟨_,I,_,_,I,cG c8,_,I,by omega,by omega,fun Gj h0=>?_⟩
    rw[show(((vs.length:Nat):Int)).toNat=vs.length by omega]
    refine vG (fun k=>!br dw (hj k) (ds.getD k .aK)) (fun i =>.int (0+((i:Nat):Int))) (fun ae=>∃z,ae=[z,J (.ref cB),J (.ref a)]) (by omega) ⟨_,I⟩ h0 ?_ ?_
    ·rintro i aE bV H1 ⟨z,rfl⟩ c9 R jZ cf
     obtain⟨w,hw,w9,xb,xa⟩:=g9 i aE
     obtain⟨e7,d0⟩:∃x,vs[i]?=J x:=⟨_,cV aE⟩
     obtain⟨f5,f6,k6⟩:=cU.get ds cJ d0
     have wk:ds.getD i .aK=f5:=by rw[eM,f6];rfl
     have fM:=cf [J (.int (0+((i:Nat):Int))),J (.ref cB),J (.ref a)] ⟨_,rfl⟩
     refine⟨_,I,_,I,.inl (.inl ⟨_,_,_,_,I,I,bA (c9 _ _ hl),(by rw[Int.zero_add];exact c5 hw),_,I,_,I,lS (c8.trans c9) d0 ⟨w,e7,hj i,f5,X,I,cd.same c9 w9,xb,xa,dI.same (c8.trans c9) _ k6,qg ds fU f6,_,I,?_⟩⟩)⟩
     rw[<-wk]
     exact uC (fun h=>⟨_,I,by rw[if_pos h]at fM;exact fM⟩) (fun h=>by rw[if_neg (by rw[h];decide)]at fM;exact fM)
    ·refine⟨_,_,I,.inl ⟨_,bA aP,I⟩,I,aZ _ _ (c8.trans (c3 h0)) ?_⟩
     rw[heq,cI]
     exact Cm _ _
   |aC i=>exact⟨_,I,.inl ⟨_,_,_,_,I,cj,bO K _ (by decide),ay,I,bN ⟨_,I,I,_,I,kx (by decide+kernel) (bN (aZ _ _ s0 (by rw[br];rfl)))⟩⟩⟩
   |aK=>exact⟨_,I,.inl ⟨_,_,_,_,I,cj,bO K _ (by decide),ay,I,bN ⟨_,I,I,_,I,kx (by decide+kernel) (bN (aZ _ _ s0 (by rw[br];rfl)))⟩⟩⟩
   |int i=>exact⟨_,I,.inl ⟨_,_,_,_,I,cj,bO K _ (by decide),ay,I,bN ⟨_,I,I,_,I,kx (by decide+kernel) (bN (aZ _ _ s0 (by rw[br];rfl)))⟩⟩⟩
   |str i=>exact⟨_,I,.inl ⟨_,_,_,_,I,cj,bO K _ (by decide),ay,I,bN ⟨_,I,I,_,I,kx (by decide+kernel) (bN (aZ _ _ s0 (by rw[br];rfl)))⟩⟩⟩
   |lst i=>exact⟨_,I,.inl ⟨_,_,_,_,I,cj,bO K _ (by decide),ay,I,bN ⟨_,I,I,_,I,kx (by decide+kernel) (bN (aZ _ _ s0 (by rw[br];rfl)))⟩⟩⟩
  ·skip
   subst eK
   refine go (hb I e (nL I hd ?_))
   refine pV I (by decide+kernel) (by decide+kernel) (du I (by decide+kernel) (du I (by decide+kernel) (du I (by decide+kernel) (du I (by decide+kernel) ?_))))
   refine du I (by decide+kernel) ?_
   cases dd with
   | tup ds =>
    obtain⟨a,vs,rfl,bg,cJ,aH⟩:=hd
    have d9:=cU.len ds cJ
    refine⟨_,I,.inl ⟨_,_,_,_,I,cj,bO K _ (by decide),au,I,bT (bT ⟨_,I,I,_,I,eP (by decide+kernel) (bT ?_)⟩)⟩⟩
    refine iz I fun N=>?_
    refine⟨_,I,_,_,I,.inr ⟨_,ck bg,I⟩,I,_,I,E3 (fun c=>?_) (fun c=>bN (aZ _ _ s0 (by
     rw[br,if_neg (by decide)]
     rcases ds with _|⟨x,_|⟨y,_|⟨z,r⟩⟩⟩
     .rfl
     .cases x<;>rfl
     .exact absurd (by rw[d9];rfl) c
     .cases x<;>rfl)))⟩
    have f7:ds.length=2:=by have:=V.int.inj c;omega
    obtain⟨x,y,rfl⟩:∃x y,ds=[x,y]:=by
     rcases ds with _|⟨x,_|⟨y,_|⟨z,r⟩⟩⟩
     .cases f7
     .cases f7
     .exact⟨x,y,I⟩
     .exact absurd f7 (by simp)
    obtain⟨AU,_,rfl,i7,aaL,_,rfl,VB,rfl⟩:=cJ
    have kC:=i7.ty (K:=K)
    have no:(∀n,x≠.str n)->br dw (.two 1 ns fs) (.tup [x,y])=ay:=fun h=>by
     rw[br,if_neg (by decide)]
     cases x with
     |str n=>exact absurd I (h n)
     |_=>rfl
    cases x with
    | str n =>
     obtain⟨rfl,lR⟩:=i7
     refine⟨_,I,.inl (.inr ⟨_,_,_,_,I,I,ck bg,a0 _ _,.inl ⟨_,_,_,_,I,kC,bO K _ (by decide),au,I,bT ?_⟩⟩)⟩
     refine .inl ⟨_,I,.inl (.inr ⟨_,_,_,_,I,I,ck e,a1 _ _ _,l,I,⟨_,bA hX⟩,fun cB ef=>?_⟩)⟩
     refine P9 (fun x=>decide (pw H x=.str n)) (oK H) (fun ae=>∃z,ae=[z,J (.ref a)]) (eN (by omega)) ⟨_,I⟩ ef (bA hX) ?_ ?_
     ·rintro x av bV bL ⟨z,rfl⟩ w5 R jZ cf
      obtain⟨i,aE,rfl⟩:=List.getElem_of_mem av
      obtain⟨g,nm,dK,df,aN,k8,ex,pB,jG,j6⟩:=rm fs ns ux wZ (cV aE)
      have fM:=cf [J jq[i],J (.ref a)] ⟨_,rfl⟩
      rw[ex,(tV jG).1,(tV jG).2]at fM
      rw[ex]
      refine⟨_,I,.inl (.inr ⟨_,_,_,_,I,I,ck (w5 _ _ jG),a0 _ _,_,I,.inl (.inr ⟨_,_,_,_,I,I,ck (w5 _ _ bg),a0 _ _,I,_,I,?_⟩)⟩)⟩
      exact uC (fun h=>⟨_,I,.inl (.inr ⟨_,_,_,_,I,I,ck (w5 _ _ jG),a1 _ _ _,by rw[if_pos h]at fM;exact fM⟩)⟩) (fun h=>by rw[if_neg (by rw[h];decide)]at fM;exact fM)
     obtain⟨da,cm⟩:=HG n fs ns ux (P6 gO) wZ
     by_cases hm:n∈ns
     ·obtain⟨dK,AW,bh,jG,j6⟩:=cm hm
      rw[bh,jB,List.map_nil,(tV jG).1]
      have zZ:=c3 (o :=.lst [AW]) ef
      have hk:=yx hm
      have mu:ns.idxOf n<fs.length:=by omega
      have mj:fs.getD (ns.idxOf n) (.bare 0)=fs[ns.idxOf n]:=by rw[eM,cV mu];rfl
      obtain⟨pP,ot⟩:=rl kv (cV mu)
      rw[mj]at j6
      refine⟨_,I,_,_,I,.inl ⟨_,bA aP,I⟩,I,_,I,h1 I ⟨_,I,.inl (.inl ⟨_,_,_,_,I,I,bA aP,a0 _ _,_,I,.inl (.inr ⟨_,_,_,_,I,I,ck (zZ _ _ bg),a1 _ _ _,AW,aaL,_,y,X,I,cd.same zZ j6,pP,by omega,dI.same zZ _ VB,qg [.str n,y] fU (i:=1) rfl,aZ _ _ zZ ?_⟩)⟩)⟩⟩
      rw[br,if_neg (by decide)]
      show hi dw fs ns n y=_
      rw[vW fs ns n hm ux,mj]
     ·rw[da hm]
      refine⟨_,I,_,_,I,.inl ⟨_,bA aP,I⟩,I,_,I,eP (fun z=>nomatch V.int.inj z) (aZ _ _ (c3 ef) ?_)⟩
      rw[br,if_neg (by decide)]
      show hi dw fs ns n y=ay
      cases hc:hi dw fs ns n y with
      |false=>rfl
      |true=>exact absurd (y6 fs ns n y ux hc) hm
    |aC i=>exact⟨_,I,.inl (.inr ⟨_,_,_,_,I,I,ck bg,a0 _ _,.inl ⟨_,_,_,_,I,kC,bO K _ (by decide),ay,I,bN (aZ _ _ s0 (no fun n z=>nomatch z))⟩⟩)⟩
    |aK=>exact⟨_,I,.inl (.inr ⟨_,_,_,_,I,I,ck bg,a0 _ _,.inl ⟨_,_,_,_,I,kC,bO K _ (by decide),ay,I,bN (aZ _ _ s0 (no fun n z=>nomatch z))⟩⟩)⟩
    |int i=>exact⟨_,I,.inl (.inr ⟨_,_,_,_,I,I,ck bg,a0 _ _,.inl ⟨_,_,_,_,I,kC,bO K _ (by decide),ay,I,bN (aZ _ _ s0 (no fun n z=>nomatch z))⟩⟩)⟩
    |tup i=>exact⟨_,I,.inl (.inr ⟨_,_,_,_,I,I,ck bg,a0 _ _,.inl ⟨_,_,_,_,I,kC,bO K _ (by decide),ay,I,bN (aZ _ _ s0 (no fun n z=>nomatch z))⟩⟩)⟩
    |lst i=>exact⟨_,I,.inl (.inr ⟨_,_,_,_,I,I,ck bg,a0 _ _,.inl ⟨_,_,_,_,I,kC,bO K _ (by decide),ay,I,bN (aZ _ _ s0 (no fun n z=>nomatch z))⟩⟩)⟩
   |aC i=>exact⟨_,I,.inl ⟨_,_,_,_,I,cj,bO K _ (by decide),ay,I,bN ⟨_,I,I,_,I,kx (by decide+kernel) (bN (aZ _ _ s0 (by rw[br];rfl)))⟩⟩⟩
   |aK=>exact⟨_,I,.inl ⟨_,_,_,_,I,cj,bO K _ (by decide),ay,I,bN ⟨_,I,I,_,I,kx (by decide+kernel) (bN (aZ _ _ s0 (by rw[br];rfl)))⟩⟩⟩
   |int i=>exact⟨_,I,.inl ⟨_,_,_,_,I,cj,bO K _ (by decide),ay,I,bN ⟨_,I,I,_,I,kx (by decide+kernel) (bN (aZ _ _ s0 (by rw[br];rfl)))⟩⟩⟩
   |str i=>exact⟨_,I,.inl ⟨_,_,_,_,I,cj,bO K _ (by decide),ay,I,bN ⟨_,I,I,_,I,kx (by decide+kernel) (bN (aZ _ _ s0 (by rw[br];rfl)))⟩⟩⟩
   |lst i=>exact⟨_,I,.inl ⟨_,_,_,_,I,cj,bO K _ (by decide),ay,I,bN ⟨_,I,I,_,I,kx (by decide+kernel) (bN (aZ _ _ s0 (by rw[br];rfl)))⟩⟩⟩
theorem Hh(nb:et mg)(F:ed K mg "_law_fits" yR ["_law_form_here","_law_value_here"] f fd)(s6:bx P w K mg base 1 "_law_is_fraction" ["_law_value_here"] FD):∀d:Nat,bx P w K mg base (d+2) "_law_fits" ["_law_form_here","_law_value_here"] (AB d)
 |0=>bx.none F fun vs H Q E z=>by obtain⟨_,_,g,_,_,_,_,_,h,_⟩:=z;have:=pe g;omega
 |d+1=>OZ nb F s6 (Hh nb F s6 d)
mutual
theorem tT:∀(f:bq)(d:D),iR d->br dw f d=au->br g4 f d=au
 | .bare k,d,aD,h=>by
  rw[gg]at h ⊢
  rcases ni k with rfl|rfl|rfl|rfl
  .cases d<;>exact h
  .cases d<;>exact h
  .cases d<;>exact h
  ·have h:dw d=au:=by cases d<;>exact h
   have h:g4 d=au:=by
    unfold dw at h
    split at h
    ·rename_i p q
     obtain⟨aq,az,bE⟩:=lD h
     obtain⟨xm,xn,_⟩:=aD
     exact eY ⟨aq,az,bE,xm,xn⟩
    .cases h
   cases d<;>exact h
 |.sp a b,d,_,h=>by rw[br]at h ⊢;exact h
 |.le s,d,_,h=>by rw[br]at h ⊢;exact h
 | .one k f,d,aD,h=>by
  rw[br]at h ⊢
  unfold Ak at h ⊢
  rcases og k with rfl|rfl|rfl
  ·rw[if_pos rfl]at h ⊢
   unfold sg at h ⊢
   split at h
   .rfl
   .exact tT f _ aD.1 h
   .cases h
  ·rw[if_neg (by decide),if_pos rfl]at h ⊢
   unfold uK at h ⊢
   split at h
   ·rename_i ds
    have h:=kk.mp h
    exact kk.mpr ⟨h.1,ig.mpr fun x av=>by
     obtain⟨i,aE,e⟩:=List.getElem_of_mem av
     exact tT f x (qg ds aD (by rw[cV aE,e])) (ig.mp h.2 x av)⟩
   .cases h
  ·rw[if_neg (by decide),if_neg (by decide)]at h ⊢
   exact tT f d aD h
 | .two k ns fs,d,aD,h=>by
  rw[br]at h ⊢
  by_cases z:k=0
  ·rw[if_pos z]at h ⊢
   cases d with
   |tup ds=>exact HQ fs ds aD h
   |_=>cases h
  ·rw[if_neg z]at h ⊢
   unfold uc at h ⊢
   split at h
   .exact HR fs ns _ _ aD.2.1 h
   .cases h
theorem HQ:∀(fs:List bq)(ds:List D),lV ds->fL dw fs ds=au->fL g4 fs ds=au
 |[],ds,_,h=>by rw[fL]at h ⊢;exact h
 |f::fs,[],_,h=>by rw[fL]at h;cases h
 |f::fs,d::ds,aD,h=>by
  rw[fL]at h ⊢
  have h:(br dw f d&&fL dw fs ds)=au:=h
  obtain⟨aq,az⟩:=kk.mp h
  exact kk.mpr ⟨tT f d aD.1 aq,HQ fs ds aD.2 az⟩
theorem HR:∀(fs:List bq)(ns:List af)(n:af)(x:D),iR x->hi dw fs ns n x=au->hi g4 fs ns n x=au
 |[],ns,n,x,_,h=>by rw[hi]at h;cases h
 | f::fs,ns,n,x,aD,h=>by
  rw[hi]at h ⊢
  by_cases z:ns.head?=J n
  ·rw[if_pos z]at h ⊢
   exact tT f x aD h
  ·rw[if_neg z]at h ⊢
   exact HR fs ns.tail n x aD h
end
theorem Sr{s t:af}(h:s.length<=60):(KG s (.str t)).length<=7*t.length+1:=by
 have ao:bp (s.length-1)<=6:=jm (w:=6) (by omega)
 have key:∀l:List Nat,((l.map fun c=>au::gu (s.cps.toList.idxOf c) (bp (s.length-1))).flatten).length<=7*l.length:=by
  intro l
  induction l with
  |nil=>exact cQ _
  |cons c l cp =>
   rw[jB,o4,eU,ep,kK,ep]
   omega
 show(_++[ay]).length<=_
 rw[eU]
 have:=key t.cps.toList
 rw[hE]at this
 exact Nat.succ_le_succ this
mutual
noncomputable def bu:D->Nat
 |.aK=>0
 |.aC _=>10
 |.int i=>11*bp i.natAbs+300
 |.str _=>1500
 |.tup ds=>cK ds+10
 |.lst ds=>cK ds+10
noncomputable def cK:List D->Nat
 |[]=>0
 |d::ds=>bu d+2+cK ds
end
theorem Rc:∀n:Nat,bp n<=n:=fun n=>jm (by exact Nat.lt_two_pow_self)
theorem CK(n:Nat):(cnt n).length<=3*bp (n+1):=by
 unfold cnt
 have aq:=Rc (bp (n+1))
 have az:0<bp (n+1):=rn (by omega)
 have bE:0<bp (bp (n+1)):=rn (by omega)
 have cz:(ko (bp (bp (n+1)))).length<=1:=by unfold ko;split<;>simp
 rw[eU,eU,eU,List.length_replicate,kK,kK]
 omega
theorem RR{a b:Nat}(ao:0<b)(Ef:b<=a):bp (a/b)+bp b<=bp a+1:=by
 have aq:=IW (n:=a/b) (Nat.ne_of_gt (Nat.div_pos Ef ao))
 have az:=IW (n:=b) (by omega)
 have bE:0<bp (a/b):=rn (Nat.ne_of_gt (Nat.div_pos Ef ao))
 have cz:0<bp b:=rn (by omega)
 have dY:2^(bp (a/b)-1+(bp b-1))<=a:=by
  rw[Nat.pow_add]
  exact dp (Nat.mul_le_mul aq az) (Nat.div_mul_le_self a b)
 have kT:=rC a
 have:bp (a/b)-1+(bp b-1)<bp a:=(Nat.pow_lt_pow_iff_right (by decide)).mp (Nat.lt_of_le_of_lt dY kT)
 omega
theorem RA:∀(n:Nat){p q:Int},q.toNat<=n->0<=q->q<p->(more (e0 p q)).length<=3*bp p.natAbs+4*(e0 p q).length+1:=by
 intro n
 induction n with
 |zero =>
  intro p q bt aq _
  obtain rfl:q=0:=by omega
  rw[nY]
  show 1<=_
  omega
 | succ n cp =>
  intro p q bt aq Wg
  by_cases aT:q=0
  ·subst aT
   rw[nY]
   show 1<=_
   omega
  have aT:0<q:=by omega
  have ip:=fp p (Int.ne_of_gt aT)
  have b5:=fR p aT
  have:=cp (p:=q) (q:=p%q) (by omega) ip b5
  rw[lF aT,more,ep,cI,eU,ep]
  obtain⟨a,rfl⟩:∃a:Nat,p=a:=⟨p.toNat,by omega⟩
  obtain⟨b,rfl⟩:∃b:Nat,q=b:=⟨q.toNat,by omega⟩
  have hc:=CK (((a:Int)/(b:Int)-1).toNat)
  have e:((a:Int)/(b:Int))=((a/b:Nat):Int):=(Int.natCast_ediv a b).symm
  have hd:=RR (a:=a) (b:=b) (by omega) (by omega)
  have bh:0<a/b:=Nat.div_pos (by omega) (by omega)
  rw[e]at hc ⊢
  have bg:(((a/b:Nat):Int)-1).toNat+1=a/b:=by omega
  rw[bg]at hc
  rw[Int.natAbs_natCast]at this ⊢
  omega
theorem H2(n:Int):(jR n).length<=1+3*(bp n.natAbs+1):=by
 unfold jR
 have key:∀m:Nat,bp (m+1)<=bp m+1:=fun m=>by
  refine jm ?_
  have:=rC m
  rw[Nat.pow_succ];omega
 split
 ·rename_i h
  rw[ep,cI]
  have aq:=CK (-1-n).toNat
  have e:(-1-n).toNat+1=n.natAbs:=by omega
  rw[e]at aq
  omega
 ·rw[ep]
  have aq:=CK n.toNat
  have e:n.toNat=n.natAbs:=by omega
  have:=key n.natAbs
  rw[e]at aq ⊢
  omega
theorem RG{p q:Int}(h:0<q):(ue (e0 p q)).length<=3*bp p.natAbs+11*bp q.natAbs+30:=by
 have ip:=fp p (Int.ne_of_gt h)
 have b5:=fR p h
 have aq:=RA _ (cQ _) ip b5
 have az:=H2 (p/q)
 rw[lF h,ue,eU]
 have bE:bp (p/q).natAbs<=bp p.natAbs:=HW (Int.natAbs_ediv_le_natAbs p q)
 obtain⟨r,aF⟩:∃r:Nat,p%q=r:=⟨(p%q).toNat,by omega⟩
 rw[aF]at aq b5 ⊢
 have cz:=CU (bp r) (p:=q) (q:=(r:Int)) (by omega) (by
  have:=rC r
  have e:((2^bp r:Nat):Int)=(2:Int)^bp r:=by rw[Int.natCast_pow];rfl
  omega)
 have dY:bp r<=bp q.natAbs:=HW (by omega)
 omega
theorem IB(g:D->List Bool):∀ds:List D,(∀d∈ds,(g d).length<=bu d)->((ds.map fun d=>au::g d).flatten).length<=cK ds
 |[],_=>UF _
 |d::ds,h=>by
  have aq:=h d (gU ..)
  have az:=IB g ds fun x av=>h x (eo _ av)
  rw[jB,o4,eU,ep,cK]
  omega
theorem RT{k:Fin 4}{d:D}(h:br g4 (.bare k) d=au):(ej jy (.bare k) d).length<=bu d:=by
 rw[gg]at h
 rw[ej]
 rcases ni k with rfl|rfl|rfl|rfl
 .cases d<;>exact UF _
 ·cases d with
  |aC b=>show 1<=bu (.aC b);rw[bu];omega
  |_=>exact UF _
 ·cases d with
  |int i =>
   show(jR i).length<=bu (.int i)
   have:=H2 i
   rw[bu];omega
  |_=>exact UF _
 ·have h:g4 d=au:=by cases d<;>exact h
  obtain⟨p,q,rfl,aq,_⟩:=Cp h
  show(ue (e0 p q)).length<=bu _
  have:=RG (p:=p) aq
  rw[bu,cK,cK,cK,bu,bu];omega
mutual
theorem t4:∀(f:bq)(d:D),ei f->br g4 f d=au->(ej jy f d).length<=bu d
 |.bare k,d,_,h=>RT h
 | .sp a b,d,aD,h=>by
  rw[ei]at aD
  rw[ej]
  cases d with
  |int i =>
   show(gu _ _).length<=bu (.int i)
   have ao:bp (b-a).toNat<=190:=jm (by omega)
   rw[kK,bu];omega
  |_=>exact UF _
 | .le s,d,aD,h=>by
  rw[ei]at aD
  rw[br]at h
  rw[ej]
  cases d with
  |str t =>
   have h:=(kk.mp h).1
   have h:=lD h
   have:=Sr (t:=t) aD.2
   rw[bu];omega
  |_=>exact UF _
 | .one k f,d,aD,h=>by
  rw[ei]at aD
  rw[br]at h
  rw[ej]
  unfold Ak at h
  unfold K8
  rcases og k with rfl|rfl|rfl
  ·rw[if_pos rfl]at h ⊢
   unfold sg at h
   split at h
   ·show 1<=bu _
    rw[bu];omega
   ·have:=t4 f _ aD h
    show(ej jy f _).length+1<=bu _
    rw[bu,cK,cK];omega
   .cases h
  ·rw[if_neg (by decide),if_pos rfl]at h ⊢
   unfold uK at h
   split at h
   ·rename_i ds
    have h:=kk.mp h
    have:=IB (ej jy f) ds fun x av=>t4 f x aD (ig.mp h.2 x av)
    show(_++[ay]).length<=bu _
    rw[eU,bu]
    show _+1<=_
    omega
   .cases h
  ·rw[if_neg (by decide),if_neg (by decide)]at h ⊢
   rw[cI]
   exact t4 f d aD h
 | .two k ns fs,d,aD,h=>by
  rw[ei]at aD
  rw[br]at h
  rw[ej]
  by_cases z:k=0
  ·rw[if_pos z]at h ⊢
   cases d with
   |tup ds =>
    have:=II fs ds aD.2.2 h
    show(lh jy fs ds).length<=bu _
    rw[bu];omega
   |_=>cases h
  ·rw[if_neg z]at h ⊢
   unfold uc at h
   split at h
   ·rename_i n x
    have uh:=(m6 aD.1).1
    have ao:bp (fs.length-1)<=5:=jm (w:=5) (by omega)
    have:=IJ fs ns 0 (fs.length-1) n x aD.2.2 h ao
    show(oI jy fs ns 0 (fs.length-1) n x).length<=bu _
    rw[bu,cK,cK,cK,bu];omega
   .cases h
theorem II:∀(fs:List bq)(ds:List D),h3 fs->fL g4 fs ds=au->(lh jy fs ds).length<=cK ds
 |[],ds,_,h=>by rw[lh];exact UF _
 |f::fs,[],_,h=>by rw[lh];exact UF _
 |f::fs,d::ds,aD,h=>by
  rw[h3]at aD
  rw[fL]at h
  have h:(br g4 f d&&fL g4 fs ds)=au:=h
  obtain⟨aq,az⟩:=kk.mp h
  have a1:=t4 f d aD.1 aq
  have a2:=II fs ds aD.2 az
  rw[lh]
  show(ej jy f d++lh jy fs ds).length<=_
  rw[eU,cK];omega
theorem IJ:∀(fs:List bq)(ns:List af)(k m:Nat)(n:af)(x:D),h3 fs->hi g4 fs ns n x=au->bp m<=5->(oI jy fs ns k m n x).length<=bu x+5
 |[],ns,k,m,n,x,_,h,_=>by rw[oI];exact UF _
 | f::fs,ns,k,m,n,x,aD,h,ao=>by
  rw[h3]at aD
  rw[hi]at h
  rw[oI]
  by_cases z:ns.head?=J n
  ·rw[if_pos z]at h ⊢
   have:=t4 f x aD.1 h
   rw[eU,kK];omega
  ·rw[if_neg z]at h ⊢
   exact IJ fs ns.tail (k+1) m n x aD.2 h ao
end
theorem Ry(c:Int):0<=lb c/\lb c+1<2^255:=by
 unfold lb
 have big:(2:Int)+1000<=2^255:=by decide
 split
 ·have:=fp (c/5) (show((2:Int)^255-1)≠0 by decide)
  have:=fR (c/5) (show(0:Int)<2^255-1 by decide)
  omega
 ·split
  ·have g:=I7 (c/5%255) (fp _ (by decide))
   have s0:=fp (c/5/255) (show(3:Int)≠0 by decide)
   generalize 1*2^(1+c/5%255).toNat=M at g ⊢
   split<;>omega
  ·rename_i a b
   obtain⟨M,jJ,tk,nT⟩:=H4 c a b
   rw[jJ]
   show 0<=c/5%M/\c/5%M+1<2^255
   have:=fp (c/5) (Int.ne_of_gt tk)
   have:=fR (c/5) tk
   omega
theorem Hu(c:Int):gI (kb c):=by
 have:=Ry (c/2)
 unfold kb gI
 split<;>omega
theorem Ip(a b:Int):Bn (jH a b).1 (jH a b).2:=by
 obtain⟨M,jJ,wG⟩:=jl V.int [10,1000,10^Int.toNat 38] a 3 rfl (by show 0<3;decide)
 have zL:0<M/\M<=10^38:=by
  have:∀y∈([10,1000,10^Int.toNat 38]:List Int),0<y/\y<=10^38:=by decide+kernel
  exact this M jJ
 obtain⟨S,fu,ui⟩:=jl V.int [1,-1] b 2 rfl (by show 0<2;decide)
 have rS:S=1\/S = -1:=by simpa using fu
 obtain⟨N,b9,zM⟩:=jl V.int [6,1000,10^Int.toNat 38] (b/2) 3 rfl (by show 0<3;decide)
 have zN:0<N/\N<=10^38:=by
  have:∀y∈([6,1000,10^Int.toNat 38]:List Int),0<y/\y<=10^38:=by decide+kernel
  exact this N b9
 have ft:ps a b=a/3%M*S:=by unfold ps;rw[wG,ui];rfl
 have Dq:oh b=1+b/6%N:=by unfold oh;rw[zM];rfl
 have m0:=fp (a/3) (show M≠0 by omega)
 have jN:=fR (a/3) zL.1
 have qJ:=fp (b/6) (show N≠0 by omega)
 have d9:=fR (b/6) zN.1
 have cF:(ps a b).natAbs<=10^38:=by rw[ft];rcases rS with rfl|rfl<;>omega
 have fU:0<oh b/\oh b<=10^38:=by omega
 unfold jH
 generalize ps a b=T at cF ⊢
 generalize oh b=B at fU ⊢
 clear ft Dq
 obtain⟨B,rfl⟩:∃n:Nat,B=n:=⟨B.toNat,by omega⟩
 rw[Int.natAbs_natCast]
 dsimp only
 generalize aN:Nat.gcd B T.natAbs=y
 have bF:0<y:=by rw[<-aN];exact Nat.gcd_pos_of_pos_left _ (by omega)
 have Dm:(y:Int)∣(B:Int):=by rw[<-aN];exact Int.natCast_dvd_natCast.mpr (Nat.gcd_dvd_left _ _)
 refine⟨Int.ediv_pos_of_pos_of_dvd (by omega) (by omega) Dm,?_,?_,?_⟩
 ·have:Int.gcd T (B:Int)=y:=by rw[<-aN,Nat.gcd_comm];rfl
  rw[<-this]
  exact Int.gcd_ediv_gcd_ediv_gcd (by rw[this];exact bF)
 ·have:=Int.natAbs_ediv_le_natAbs T (y:Int)
  omega
 ·have:=Int.ediv_le_self (a:=(B:Int)) (y:Int) (by omega)
  omega
theorem Sz{p q:Int}(h:Bn p q):dw (.tup [.int p,.int q])=au:=by
 obtain⟨aq,az,bE,cz⟩:=h
 have f3:(10:Nat)^38<2^127:=by decide
 have eB:(10:Int)^38<2^127:=by decide
 have m9:(2:Int)^127<2^254:=by decide
 refine eY ⟨aq,Jh aq az,?_⟩
 have hs:=Iq (B:=10^38) q.toNat (cQ _) (Int.le_of_lt aq) (p:=p) (by omega) (by omega) cz
 obtain⟨t,_⟩:=RM aq (Jh aq az)
 refine⟨fun x av=>?_,fun x av=>?_⟩
 ·have:=hs x (List.mem_of_mem_take av)
  unfold gI;omega
 ·have:=hs x (List.mem_of_mem_drop av)
  rw[lF aq]at t av
  have:=t.1 x av
  unfold gS;omega
mutual
noncomputable def qO:D->Prop
 |.int i=>i.natAbs<2^256
 |.str s=>s.length<=1000
 |.tup ds=>ds.length<=100/\oG ds
 |.lst ds=>ds.length<=100/\oG ds
 |_=>True
noncomputable def oG:List D->Prop
 |[]=>True
 |d::ds=>qO d/\oG ds
end
theorem CR:∀(ds:List D),(∀d,d∈ds->qO d)->oG ds
 |[],_=>trivial
 |d::ds,h=>⟨h d (gU ..),CR ds fun x av=>h x (eo _ av)⟩
theorem y4:∀(ds:List D){d:D},oG ds->d∈ds->qO d
 |[],d,_,h=>nomatch h
 |e::ds,d,h,hm=>by
  rcases dy.mp hm with rfl|z
  .exact h.1
  .exact y4 ds h.2 z
theorem Hv(v:List Int->D×List Int):∀(n:Nat)(ms:List Int),ju v ms (n+1)=((v ms).1::(ju v (v ms).2 n).1,(ju v (v ms).2 n).2)
 |0,ms=>rfl
 |n+1,ms=>by rw[ju,Hv v n ms,ju];rfl
theorem y2(v:List Int->D×List Int)(ms:List Int):∀n,(ju v ms n).1.length=n
 |0=>rfl
 |n+1=>by rw[ju,eU,y2 v ms n];rfl
theorem H8{P:D->Prop}{v:List Int->D×List Int}(h:∀ms,P (v ms).1)(ms:List Int):∀n,∀x∈(ju v ms n).1,P x
 |0,x,av=>nomatch av
 |n+1,x,av=>by
  rw[ju]at av
  rcases List.mem_append.mp av with z|z
  .exact H8 h ms n x z
  .rw[hq.mp z];exact h _
theorem CP(v:bq->List Int->D×List Int):∀(fs:List bq)(acc:List D)(ms:List Int),fs.foldl (fun r f=>(r.1++[(v f r.2).1],(v f r.2).2)) (acc,ms)=(acc++(ha v ms fs).1,(ha v ms fs).2)
 |[],acc,ms=>by
  show(acc,ms)=(acc++[],ms)
  rw[List.append_nil]
 |f::fs,acc,ms=>by
  have e:ha v ms (f::fs)=fs.foldl (fun r f=>(r.1++[(v f r.2).1],(v f r.2).2)) ([]++[(v f ms).1],(v f ms).2):=rfl
  rw[e,List.foldl_cons,CP v fs,CP v fs]
  simp
theorem yW(v:bq->List Int->D×List Int)(f:bq)(fs:List bq)(ms:List Int):ha v ms (f::fs)=((v f ms).1::(ha v (v f ms).2 fs).1,(ha v (v f ms).2 fs).2):=by
 have e:ha v ms (f::fs)=fs.foldl (fun r f=>(r.1++[(v f r.2).1],(v f r.2).2)) ([]++[(v f ms).1],(v f ms).2):=rfl
 rw[e,CP];rfl
theorem H6(v:bq->List Int->D×List Int):∀(fs:List bq)(ms:List Int),(ha v ms fs).1.length=fs.length
 |[],ms=>rfl
 |f::fs,ms=>by rw[yW,ep,H6 v fs,ep]
theorem Jb{cg:af}(h:0<cg.length)(c:Int):∀i,(oz cg c i).1.length=i/\j9 (oz cg c i).1 cg=au
 |0=>⟨by show(af.ofString "").length=0;decide+kernel,by show j9 (af.ofString "") cg=au;unfold j9;rw[show(af.ofString "").cps.toList=[] by decide+kernel];rfl⟩
 |i+1=>by
  obtain⟨aq,az⟩:=Jb h c i
  obtain⟨k,hk,iD⟩:=hR ((oz cg c i).2/287) cg.length h
  have hk':k<cg.cps.toList.length:=by rw[hE];exact hk
  rw[oz,iD,c5 (cV hk')]
  refine⟨by rw[kN,aq];rfl,?_⟩
  unfold j9 at az ⊢
  rw[RU,List.all_append,az]
  simp
theorem Ss(cg:af)(c:Int)(l:Nat):0<=pL cg c l/\pL cg c l<=200:=by
 unfold pL
 split<;>omega
theorem Ig(g:bq)(c:Int)(l:Nat):0<=lT g c l/\lT g c l<=60/\(uB g=ay->lT g c l<=3)/\(c=0->lT g c l=0):=by
 unfold lT
 by_cases h:uB g=au
 ·rw[if_pos h]
  refine⟨by omega,by omega,(fun z=>by rw[h]at z;cases z),?_⟩
  rintro rfl;rfl
 ·rw[if_neg h]
  split
  .exact⟨by omega,by omega,fun _=>by omega,fun z=>by rw[z];rfl⟩
  .exact⟨by omega,by omega,fun _=>by omega,fun z=>by rw[z];rfl⟩
theorem Ir{n:Nat}:∀(ds:List D),(∀d,d∈ds->fh d<=n)->gx ds<=n
 |[],_=>by rw[gx];omega
 |d::ds,h=>by
  rw[gx]
  have:=h d (gU ..)
  have:=Ir ds fun e he=>h e (eo _ he)
  omega
structure tL(g:bq)(d:D):Prop where
 fit:br dw g d=au
 dM:fh d<=aO g+1
 s:qO d
theorem I5{v:bq->List Int->D×List Int}:∀(fs:List bq)(ms:List Int),(∀f∈fs,∀ms,tL f (v f ms).1)->fL dw fs (ha v ms fs).1=au/\gx (ha v ms fs).1<=fA fs+1/\oG (ha v ms fs).1
 |[],ms,_=>⟨by show fL dw [] []=au;rw[fL];rfl,by show gx []<=_;rw[gx];omega,trivial⟩
 | f::fs,ms,h=>by
  have aq:=h f (gU ..) ms
  obtain⟨d1,dj,E0⟩:=I5 fs (v f ms).2 fun g aN=>h g (eo _ aN)
  rw[yW]
  refine⟨?_,?_,aq.s,E0⟩
  ·rw[fL]
   show(br dw f _&&fL dw fs _)=au
   rw[aq.fit,d1];rfl
  ·rw[gx,fA]
   have:=aq.dM
   omega
theorem tS:∀{fs:List bq}{f:bq},h3 fs->f∈fs->ei f/\aO f<=fA fs:=fun{fs f}h hm=>by
 obtain⟨i,aE,e⟩:=List.getElem_of_mem hm
 exact rl h (by rw[cV aE,e])
theorem zh:∀(d:Nat)(f:bq)(ms:List Int),ei f->aO f<=d->tL f (dU d f ms).1
 |0,f,ms,_,h=>by have:=pe f;omega
 | d+1,.bare k,ms,_,_=>by
  rw[dU]
  have TZ:(10:Nat)^38<2^256:=by decide
  rcases ni k with rfl|rfl|rfl|rfl
  ·rw[if_pos rfl]
   exact⟨by rw[gg];rfl,by rw[fh,aO];omega,trivial⟩
  ·rw[if_neg (by decide),if_pos rfl]
   exact⟨by rw[gg];rfl,by rw[fh,aO];omega,trivial⟩
  ·rw[if_neg (by decide),if_neg (by decide),if_pos rfl]
   have:gI (if 60<ms.tail.length then kb (ms.headD 0)else kb (ms.headD 0%1000)):=by split<;>exact Hu _
   refine⟨by rw[gg];exact eY this,by rw[fh,aO];omega,?_⟩
   show Int.natAbs _<2^256
   unfold gI at this
   omega
  ·rw[if_neg (by decide),if_neg (by decide),if_neg (by decide)]
   have h:=Ip (ms.headD 0) (ms.tail.headD 0)
   refine⟨by rw[gg];exact Sz h,by rw[fh,gx,gx,gx,fh,fh,aO];omega,by simp,?_,?_,trivial⟩
   .exact Nat.lt_of_le_of_lt h.da TZ
   ·have:=h.Le
    have:=h.cA
    show Int.natAbs _<_
    omega
 |d+1,.sp lo aE,ms,aD,_=>by
  rw[ei]at aD
  rw[dU]
  have m0:=fp (ms.headD 0) (show aE-lo+1≠0 by omega)
  have jN:=fR (ms.headD 0) (show 0<aE-lo+1 by omega)
  refine⟨by rw[br];exact eY ⟨by omega,by omega⟩,by rw[fh,aO];omega,?_⟩
  show Int.natAbs _<_
  omega
 | d+1,.le cg,ms,aD,_=>by
  rw[ei]at aD
  rw[dU]
  have EM:0<cg.length:=by
   have:=aD.1
   unfold nj at this
   simp only[jA,mc]at this
   omega
  have aq:=Ss cg (ms.headD 0) ms.tail.length
  obtain⟨az,bE⟩:=Jb EM (ms.headD 0) (pL cg (ms.headD 0) ms.tail.length).toNat
  exact⟨by rw[br];exact kk.mpr ⟨eY (by omega),bE⟩,by rw[fh,aO];omega,by show af.length _<=1000;rw[az];omega⟩
 | d+1,.one k g,ms,aD,dM=>by
  rw[ei]at aD
  rw[aO]at dM
  have cp:=fun ms=>zh d g ms aD (by omega)
  rw[dU]
  rcases og k with rfl|rfl|rfl
  ·rw[if_pos rfl]
   split
   .exact⟨by rw[br];rfl,by rw[fh,gx,aO];omega,by simp,trivial⟩
   ·have:=cp ms.tail
    exact⟨by rw[br];exact this.fit,by rw[fh,gx,gx,aO];have:=this.dM;omega,by simp,this.s,trivial⟩
  ·rw[if_neg (by decide),if_pos rfl]
   obtain⟨m0,jN,_,_⟩:=Ig g (ms.headD 0) ms.tail.length
   generalize lT g (ms.headD 0) ms.tail.length=M at m0 jN ⊢
   have C9:=H8 (P:=tL g) (v:=dU d g) cp ms.tail M.toNat
   refine⟨?_,?_,by rw[y2];omega,CR _ fun x av=>(C9 x av).s⟩
   ·rw[br]
    exact kk.mpr ⟨eY (by rw[y2];omega),ig.mpr fun x av=>(C9 x av).fit⟩
   ·have:=Ir (n:=aO g+1) (ju (dU d g) ms.tail M.toNat).1 fun x av=>(C9 x av).dM
    rw[fh,aO];omega
  ·rw[if_neg (by decide),if_neg (by decide)]
   have:=cp ms.tail
   exact⟨by rw[br];exact this.fit,by rw[aO];have:=this.dM;omega,this.s⟩
 | d+1,.two k ns fs,ms,aD,dM=>by
  rw[ei]at aD
  rw[aO]at dM
  obtain⟨gO,cG,kv⟩:=aD
  have wQ:0<fs.length:=by
   have h:=gO
   unfold jI at h
   simp only[jA,mc]at h
   omega
  have cp:∀f∈fs,∀ms,tL f (dU d f ms).1:=fun f aQ ms=>zh d f ms (tS kv aQ).1 (by have:=(tS kv aQ).2;omega)
  rw[dU]
  rcases rM k with rfl|rfl
  ·rw[if_pos rfl]
   obtain⟨d1,dj,E0⟩:=I5 (v:=dU d) fs ms.tail cp
   exact⟨by rw[br,if_pos rfl];exact d1,by rw[fh,aO];omega,by rw[H6];have:=(m6 gO).1;omega,E0⟩
  ·rw[if_neg (by decide)]
   obtain⟨j,c4,j2⟩:=hR (ms.headD 0) fs.length wQ
   rw[j2,Int.toNat_natCast]
   have aN:fs[j]?=J fs[j]:=cV c4
   have bf:ns[j]?=J ns[j]:=cV (by omega)
   rw[eM,eM,aN,bf]
   have aq:=cp fs[j] (List.getElem_mem c4) ms.tail
   have hm:=(tS kv (List.getElem_mem c4)).2
   refine⟨?_,by rw[fh,gx,gx,gx,fh,aO];have:=aq.dM;show max 1 (max (fh (dU d fs[j] ms.tail).1) 0)+1<=_;omega,by simp,by show ns[j].length<=1000;have:=(m6 gO).2 ns[j] (List.getElem_mem _);omega,aq.s,trivial⟩
   rw[br,if_neg (by decide)]
   show hi dw fs ns ns[j] (dU d fs[j] ms.tail).1=au
   rw[vW fs ns _ (List.getElem_mem _) cG,vN gO bf,eM,aN]
   exact aq.fit
mutual
theorem rD:∀d:D,qO d->iR d
 |.aK,_=>trivial
 |.aC _,_=>trivial
 |.int i,h=>ez (show i.natAbs<2^256 from h) (Nat.pow_le_pow_right (by decide) (by decide))
 |.str _,_=>trivial
 |.tup ds,h=>v9 ds h.2
 |.lst ds,h=>v9 ds h.2
theorem v9:∀ds:List D,oG ds->lV ds
 |[],_=>trivial
 |d::ds,h=>⟨rD d h.1,v9 ds h.2⟩
end
structure me(f:bq)(ms:List Int)(r:D×List Int):Prop where
 l:r.2.length<=ms.length
 z:ms=[]->r.2=[]/\bu r.1<=2500*cS f
 w:bu r.1+4000*r.2.length<=4000*ms.length+(if r.2=[]then 7500*(aO f*cS f)else 0)
theorem vf(f:bq):2500*cS f<=7500*(aO f*cS f):=by
 have h:=Nat.mul_le_mul (pe f) (cQ (cS f))
 omega
theorem me.leaf{f:bq}{x:D}(h:bu x<=4000)(bt:ms=[]->bu x<=2500*cS f):me f ms (x,ms.tail):=by
 cases ms with
 |nil =>
  have h:=bt rfl
  refine⟨cQ _,fun _=>⟨I,h⟩,?_⟩
  show bu x+0<=0+(if([]:List Int)=[]then _ else _)
  rw[if_pos rfl]
  have:=vf f
  omega
 |cons c t =>
  refine⟨Nat.le_succ _,(fun z=>nomatch z),?_⟩
  show bu x+4000*t.length<=4000*(t.length+1)+_
  omega
theorem Sq{f g:bq}(aq:aO g<=aO f)(az:cS g<=cS f):7500*(aO g*cS g)<=7500*(aO f*cS f):=Nat.mul_le_mul_left _ (Nat.mul_le_mul aq az)
theorem Ik{c:Prop}[Decidable c]{a b:Nat}(h:a<=b):(if c then a else 0)<=(if c then b else 0):=by split<;>omega
theorem me.wrap{f g:bq}{x:D}{r:D×List Int}{e:Nat}(h:me g ms.tail r)(he:e<=2500)(av:bu x=bu r.1+e)(aq:aO g<=aO f)(az:cS g+1<=cS f):me f ms (x,r.2):=by
 cases ms with
 |nil =>
  obtain⟨ea,el⟩:=h.z rfl
  have hw:bu x<=2500*cS f:=by omega
  refine⟨h.l,fun _=>⟨ea,hw⟩,?_⟩
  show bu x+4000*r.2.length<=0+(if r.2=[]then _ else _)
  rw[if_pos ea,ea]
  have:=vf f
  show bu x+0<=_
  omega
 |cons c t =>
  refine⟨dp h.l (Nat.le_succ _),(fun z=>nomatch z),?_⟩
  have bE:=h.w
  have cz:=Ik (c:=r.2=[]) (Sq (f:=f) (g:=g) aq (by omega))
  show bu x+4000*r.2.length<=4000*(t.length+1)+(if r.2=[]then _ else 0)
  have dY:(c::t).tail.length=t.length:=rfl
  rw[dY]at bE
  omega
structure mY(qY kO:Nat)(ms:List Int)(r:List D×List Int):Prop where
 l:r.2.length<=ms.length
 z:ms=[]->r.2=[]/\cK r.1<=qY+2*r.1.length
 w:cK r.1+4000*r.2.length<=4000*ms.length+2*r.1.length+(if r.2=[]then kO else 0)
theorem mY.cons{f:bq}{a:D×List Int}{Z kO MQ De:Nat}(h:me f ms a)(uq:ms=[]->bu a.1<=Z)(k:mY qY kO a.2 r)(aq:Z+qY<=MQ)(az:kO<=De)(bE:7500*(aO f*cS f)+qY<=De):mY MQ De ms (a.1::r.1,r.2):=by
 refine⟨dp k.l h.l,fun e=>?_,?_⟩
 ·obtain⟨ea,el⟩:=h.z e
  obtain⟨cj,iV⟩:=k.z ea
  have:=uq e
  refine⟨cj,?_⟩
  show cK (a.1::r.1)<=_
  rw[cK,ep];omega
 ·show cK (a.1::r.1)+4000*r.2.length<=_+2*(a.1::r.1).length+(if r.2=[]then _ else 0)
  rw[cK,ep]
  have l1:=h.w
  have iU:=k.w
  by_cases y:r.2=[]
  ·rw[if_pos y]at iU ⊢
   by_cases x:a.2=[]
   ·rw[if_pos x]at l1
    obtain⟨_,iV⟩:=k.z x
    rw[y]at iU ⊢
    rw[x]at l1
    show _+0<=_
    have:4000*([]:List Int).length=0:=rfl
    omega
   ·rw[if_neg x]at l1
    omega
  ·have x:a.2≠[]:=fun x=>y (k.z x).1
   rw[if_neg y]at iU ⊢
   rw[if_neg x]at l1
   omega
theorem I6{g:bq}{v:List Int->D×List Int}{Z:Nat}(zQ:∀ms,me g ms (v ms))(uq:bu (v []).1<=Z):∀(n:Nat)(ms:List Int),mY (n*Z) (7500*(aO g*cS g)+n*Z) ms (ju v ms n)
 |0,ms=>⟨cQ _,fun e=>⟨e,by show cK []<=_;rw[cK];omega⟩,by show cK []+4000*ms.length<=4000*ms.length+_+_;rw[cK];omega⟩
 |n+1,ms=>by
  rw[Hv]
  have e:(n+1)*Z=n*Z+Z:=Nat.succ_mul ..
  rw[e]
  exact mY.cons (zQ ms) (fun z=>by rw[z];exact uq) (I6 zQ uq n (v ms).2) (by omega) (by omega) (by omega)
theorem I4{v:bq->List Int->D×List Int}:∀(fs:List bq)(ms:List Int),(∀f∈fs,∀ms,me f ms (v f ms))->mY (2500*gD fs) (7500*(fA fs*gD fs)) ms (ha v ms fs)
 |[],ms,_=>⟨cQ _,fun e=>⟨e,by show cK []<=_;rw[cK];omega⟩,by show cK []+4000*ms.length<=4000*ms.length+_+_;rw[cK];omega⟩
 | f::fs,ms,h=>by
  rw[yW]
  have aq:=h f (gU ..) ms
  have a1:fA fs*gD fs<=fA (f::fs)*gD (f::fs):=Nat.mul_le_mul (by rw[fA];omega) (by rw[gD];omega)
  have a2:aO f*cS f+gD fs<=fA (f::fs)*gD (f::fs):=by
   have f3:aO f<=fA (f::fs):=by rw[fA];omega
   have eB:=pe f
   rw[gD,Nat.mul_add]
   have dm:=Nat.mul_le_mul_right (cS f) f3
   have ee:=Nat.mul_le_mul_right (gD fs) (show 1<=fA (f::fs) by omega)
   omega
  have e:gD (f::fs)=cS f+gD fs:=by rw[gD]
  exact mY.cons aq (fun z=>(aq.z z).2) (I4 fs (v f ms).2 fun g aN=>h g (eo _ aN)) (by rw[e];omega) (by omega) (by omega)
theorem mY.list{f:bq}{kO:Nat}{x:D}(h:mY qY kO ms.tail r)(av:bu x=cK r.1+10)(aH:r.1.length<=60)(bw:ms=[]->qY+150<=2500*cS f)(ao:kO<=7500*(aO f*cS f)):me f ms (x,r.2):=by
 cases ms with
 |nil =>
  obtain⟨ea,el⟩:=h.z rfl
  have hw:bu x<=2500*cS f:=by have:=bw rfl;omega
  refine⟨h.l,fun _=>⟨ea,hw⟩,?_⟩
  show bu x+4000*r.2.length<=0+(if r.2=[]then _ else _)
  rw[if_pos ea,ea]
  have:=vf f
  show bu x+0<=_
  omega
 |cons c t =>
  refine⟨dp h.l (Nat.le_succ _),(fun z=>nomatch z),?_⟩
  have bE:=h.w
  have cz:=Ik (c:=r.2=[]) ao
  show bu x+4000*r.2.length<=4000*(t.length+1)+(if r.2=[]then _ else 0)
  have dY:(c::t).tail.length=t.length:=rfl
  rw[dY]at bE
  omega
theorem qq{i:Int}(h:i.natAbs<2^k):bu (.int i)<=11*k+300:=by
 have:=jm h
 rw[bu];omega
theorem C1:∀(d:Nat)(f:bq)(ms:List Int),ei f->aO f<=d->me f ms (dU d f ms)
 |0,f,ms,_,h=>by have:=pe f;omega
 | d+1,.bare k,ms,_,_=>by
  rw[dU]
  rcases ni k with rfl|rfl|rfl|rfl
  ·rw[if_pos rfl]
   refine⟨cQ _,fun e=>⟨e,by rw[bu];omega⟩,?_⟩
   rw[bu]
   show 0+4000*ms.length<=4000*ms.length+_
   omega
  ·rw[if_neg (by decide),if_pos rfl]
   exact .leaf (by rw[bu];omega) (fun _=>by rw[bu,cS];omega)
  ·rw[if_neg (by decide),if_neg (by decide),if_pos rfl]
   have bt:gI (if 60<ms.tail.length then kb (ms.headD 0)else kb (ms.headD 0%1000)):=by split<;>exact Hu _
   refine .leaf (dp (qq (k:=256) (by unfold gI at bt;omega)) (by decide)) ?_
   rintro rfl
   rw[show((if 60<([]:List Int).tail.length then kb (([]:List Int).headD 0)else kb (([]:List Int).headD 0%1000)):Int)=0 by decide+kernel]
   rw[bu,cS];decide+kernel
  ·rw[if_neg (by decide),if_neg (by decide),if_neg (by decide)]
   have h:=Ip (ms.headD 0) (ms.tail.headD 0)
   have f3:(10:Nat)^38<2^127:=by decide
   have da:(jH (ms.headD 0) (ms.tail.headD 0)).1.natAbs<2^127:=Nat.lt_of_le_of_lt h.da f3
   have cA:(jH (ms.headD 0) (ms.tail.headD 0)).2.natAbs<2^127:=by have:=h.Le;have:=h.cA;omega
   have hw:bu (.tup [.int (jH (ms.headD 0) (ms.tail.headD 0)).1,.int (jH (ms.headD 0) (ms.tail.headD 0)).2])<=3500:=by
    have l1:=qq da
    have iU:=qq cA
    rw[bu,cK,cK,cK];omega
   cases ms with
   |nil =>
    refine me.leaf (ms:=[]) (by omega) (fun _=>?_)
    show bu (.tup [.int (jH 0 0).1,.int (jH 0 0).2])<=_
    rw[show jH 0 0=(0,1) by decide+kernel,bu,cK,cK,cK,bu,bu,cS]
    decide+kernel
   | cons c t =>
    cases t with
    |nil=>exact .leaf (by omega) (fun z=>nomatch z)
    |cons ee t =>
     refine⟨by show t.length<=t.length+1+1;omega,(fun z=>nomatch z),?_⟩
     show _+4000*t.length<=4000*(t.length+1+1)+_
     have hw:=hw
     generalize bu _=W at hw ⊢
     omega
 |d+1,.sp lo aE,ms,aD,_=>by
  rw[ei]at aD
  rw[dU]
  have m0:=fp (ms.headD 0) (show aE-lo+1≠0 by omega)
  have jN:=fR (ms.headD 0) (show 0<aE-lo+1 by omega)
  have h:bu (.int (lo+ms.headD 0%(aE-lo+1)))<=2450:=dp (qq (k:=194) (by omega)) (by decide)
  exact .leaf (by omega) (fun _=>by rw[cS];omega)
 |d+1,.le cg,ms,aD,_=>by
  rw[dU]
  exact .leaf (by rw[bu];omega) (fun _=>by rw[bu,cS];omega)
 | d+1,.one k g,ms,aD,dM=>by
  rw[ei]at aD
  rw[aO]at dM
  have cp:=fun ms=>C1 d g ms aD (by omega)
  have hs:cS (.one k g)=cS g+1:=by rw[cS]
  have eg:aO (.one k g)=aO g+1:=by rw[aO]
  rw[dU]
  rcases og k with rfl|rfl|rfl
  ·rw[if_pos rfl]
   split
   .exact .leaf (by rw[bu,cK];omega) (fun _=>by rw[bu,cK];omega)
   .exact(cp ms.tail).wrap (e:=12) (by omega) (by rw[bu,cK,cK]) (by omega) (by omega)
  ·rw[if_neg (by decide),if_pos rfl]
   obtain⟨m0,jN,jr,Aa⟩:=Ig g (ms.headD 0) ms.tail.length
   have z4:ms=[]->(lT g (ms.headD 0) ms.tail.length).toNat=0:=by
    rintro rfl
    rw[Aa rfl];rfl
   generalize lT g (ms.headD 0) ms.tail.length=M at m0 jN jr z4 ⊢
   obtain⟨Z,uq,bf⟩:∃Z,bu (dU d g []).1<=Z/\M.toNat*Z<=7500*cS g:=by
    by_cases aN:uB g=au
    ·refine⟨10,?_,?_⟩
     ·cases g with
      | bare k =>
       cases d with
       |zero=>rw[dU,bu];omega
       |succ d =>
        rw[dU]
        rcases ni k with rfl|rfl|rfl|rfl
        .rw[if_pos rfl,bu];omega
        .rw[if_neg (by decide),if_pos rfl,bu];omega
        .exact absurd aN (by decide)
        .exact absurd aN (by decide)
      |_=>cases aN
     ·have:=SP g
      have:M.toNat*10<=60*10:=Nat.mul_le_mul_right _ (by omega)
      omega
    ·refine⟨2500*cS g,((cp []).z I).2,?_⟩
     have:=jr (by cases h:uB g with|true=>exact absurd h aN|false=>rfl)
     have:=Nat.mul_le_mul_right (2500*cS g) (show M.toNat<=3 by omega)
     omega
   have ao:7500*(aO g*cS g)+M.toNat*Z<=7500*(aO (.one 1 g)*cS (.one 1 g)):=by
    rw[hs,eg]
    have ba:(aO g+1)*(cS g+1)=aO g*cS g+aO g+cS g+1:=by rw[Nat.add_mul,Nat.mul_add,Nat.mul_add];omega
    rw[ba];omega
   refine mY.list (I6 cp uq M.toNat ms.tail) (by rw[bu]) (by rw[y2];omega) (fun z=>?_) ao
   rw[z4 z];omega
  ·rw[if_neg (by decide),if_neg (by decide)]
   exact(cp ms.tail).wrap (e:=0) (by omega) I (by omega) (by omega)
 | d+1,.two k ns fs,ms,aD,dM=>by
  rw[ei]at aD
  rw[aO]at dM
  obtain⟨gO,cG,kv⟩:=aD
  have wQ:0<fs.length/\fs.length<=20:=by
   have h:=gO
   unfold jI at h
   simp only[jA,mc]at h
   omega
  have cp:∀f∈fs,∀ms,me f ms (dU d f ms):=fun f aQ ms=>C1 d f ms (tS kv aQ).1 (by have:=(tS kv aQ).2;omega)
  have hs:cS (.two k ns fs)=gD fs+1:=by rw[cS]
  have eg:aO (.two k ns fs)=fA fs+1:=by rw[aO]
  rw[dU]
  rcases rM k with rfl|rfl
  ·rw[if_pos rfl]
   have aH:(ha (dU d) ms.tail fs).1.length=fs.length:=by
    have:∀(fs:List bq)(ms:List Int),(ha (dU d) ms fs).1.length=fs.length:=fun fs=>by
     induction fs with
     |nil=>intro ms;rfl
     |cons f fs cp=>intro ms;rw[yW,ep,cp,ep]
    exact this fs _
   refine mY.list (I4 fs ms.tail cp) (by rw[bu]) (by omega) (fun _=>by omega) ?_
   rw[hs,eg]
   exact Nat.mul_le_mul_left _ (Nat.mul_le_mul (Nat.le_succ _) (Nat.le_succ _))
  ·rw[if_neg (by decide)]
   obtain⟨j,c4,j2⟩:=hR (ms.headD 0) fs.length wQ.1
   rw[j2,Int.toNat_natCast]
   have aN:fs[j]?=J fs[j]:=cV c4
   rw[show fs.getD j (.bare 0)=fs[j] by rw[eM,aN];rfl]
   have hm:=(tS kv (List.getElem_mem c4)).2
   have bw:=IE aN
   exact(cp fs[j] (List.getElem_mem c4) ms.tail).wrap (e:=1514) (by omega) (by rw[bu,cK,cK,cK,bu];omega) (by omega) (by omega)
theorem I1{f:bq}(h:ei f)(aq:aO f<=d)(az:aO f<=8)(bE:cS f<=150)(cz:ms.length<=90):bu (dU d f ms).1<=9500000:=by
 have w:=(C1 d f ms h aq).w
 have:aO f*cS f<=8*150:=Nat.mul_le_mul az bE
 split at w<;>omega
noncomputable def wh(ms:List Int):bq×List Int:=lK 8 (nJ (dv ([1,2,3,2,1,3,2,7].map V.int) (ms.headD 0%8))).toNat ms.tail
inductive Lx(vs:List V)(H:ar)(Q:bP)(E:cC):Prop where
 |mk (p:ah) (X:List ah) (ms:List Int) (bt:vs=[.ref p]) (aq:H p=J (.lst (ms.map V.int))) (az:ms.length<=90) (bE:p∈X) (cz:lz X H) (dY:∀v ai,cY p H ai->ai p=J (.lst ((wh ms).2.map V.int))->yw X ai (wh ms).1 v 8 141->Q v ai):Lx  vs H Q E
def Lw:cT:=fun vs H Q E=>Lx  vs H Q E
theorem PB(F:ed K mg "_law_drawn" B8 ["_law_pool_here"] f fd)(fP:bx P w K mg base 1 "_law_next" ["_law_pool_here"] mF)(s4:bx P w K mg base (8+3) "_law_form" ["_law_pool_here","_law_deep"] (AA 8)):bx P w K mg base 12 "_law_drawn" ["_law_pool_here"] Lw:=by
 refine F.fC Hc (fun bD A _ s H vs Q E aF h=>?_)
 obtain⟨p,X,ms,rfl,bh,aH,fv,dT,q⟩:=h
 refine⟨_,(aS (b0 1 Hc.bC (cu fP aF (ak (ag 0) aB)))
  (aY (bB (cu s4 aF (ak (ag 0) (ak (b8 cb (e4 (ak aA (ak aA (ak aA (ak aA (ak aA (ak aA (ak aA (ak aA aB))))))))) (aL cZ (ag 1) aA)) aB)))))),?_⟩
 try dsimp only[d5,d6,d7,d8]
 have c7:mb p H:=⟨ms,bh,aH⟩
 have gz:=mf aH
 have b1:=cY.pop c7 gz
 refine⟨_,I,p,ms,I,bh,aH,_,I,(by show 8<=bW;decide),fun g aN=>?_⟩
 obtain⟨x,av,d0⟩:=jl V.int [1,2,3,2,1,3,2,7] (ms.headD 0) 8 rfl (by show 0<8;decide)
 have ov:0<x/\x<=7:=by
  have:∀y∈([1,2,3,2,1,3,2,7]:List Int),0<y/\y<=7:=by decide
  exact this x av
 unfold wh at q
 rw[d0]at q
 obtain⟨k,rfl⟩:∃k:Nat,x=k:=⟨x.toNat,by omega⟩
 have q:∀v ai,cY p H ai->ai p=J (.lst ((lK 8 k ms.tail).2.map V.int))->yw X ai (lK 8 k ms.tail).1 v 8 141->Q v ai:=q
 have ia:=Ext.lst (xs:=[1,2,3,2,1,3,2,7].map V.int) aN
 have cL:=b1.ext ia
 refine⟨_,I,_,_,I,I,(by show(0:Int)<8;decide),.inl (.inl ⟨_,_,_,_,I,I,bA aP,d0,p,k,X,ms.tail,I,by omega,ia.s _ _ aP,gz,fv,dT.grow cL,fun v ai g' h' t=>⟨_,(cL.trans g').sub,q v ai (cL.trans g') h' ⟨t.d,t.o,by have:=t.h;omega,by have:=t.s;omega⟩⟩⟩)⟩
structure xZ(n:Nat)(d:D):Prop where
 o:qO d
 w:bu d<=4000*4^n
theorem xZ.leaf{n:Nat}{d:D}(o:qO d)(w:bu d<=4000):xZ n d:=⟨o,dp w (Nat.le_mul_of_pos_right _ (Nat.pow_pos (by decide)))⟩
theorem IA{n:Nat}:∀ds:List D,(∀d∈ds,bu d<=n)->cK ds<=ds.length*(n+2)
 |[],_=>UF _
 |d::ds,h=>by
  have aq:=h d (gU ..)
  have az:=IA ds fun x av=>h x (eo _ av)
  rw[cK,ep,Nat.succ_mul];omega
theorem IY{X:List ah}{H:ar}:∀n:Nat,b3 X H (List.replicate n .aK) (List.replicate n V.aK)
 |0=>rfl
 |n+1=>⟨.aK,_,rfl,rfl,IY n⟩
theorem IP:∀n:Nat,oG (List.replicate n .aK)
 |0=>trivial
 |n+1=>⟨trivial,IP n⟩
theorem I0:∀n:Nat,cK (List.replicate n .aK)=2*n
 |0=>rfl
 |n+1=>by rw[List.replicate_succ,cK,bu,I0 n];omega
inductive Lo(n:Nat)(vs:List V)(H:ar)(Q:bP)(E:cC):Prop where
 |mk (p:ah) (deep:Nat) (X:List ah) (bt:vs=[.ref p,.int ((deep:Nat):Int)]) (aq:deep<n) (az:mb p H) (bE:p∈X) (cz:hP X H) (dY:∀v hW ai,cY p H ai->cd X ai hW v->xZ deep hW->Q v ai):Lo n vs H Q E
def Ay(n:Nat):cT:=fun vs H Q E=>Lo n vs H Q E
set_option maxHeartbeats 4000000 in
theorem Pk(nb:et mg)(F:ed K mg "_law_any" yX ["_law_pool_here","_law_deep"] f fd)(fP:bx P w K mg base 1 "_law_next" ["_law_pool_here"] mF)(s3:bx P w K mg base (n+2) "_law_any" ["_law_pool_here","_law_deep"] (Ay n)):bx P w K mg base (n+2+1) "_law_any" ["_law_pool_here","_law_deep"] (Ay (n+1)):=by
 refine F.fC tg (fun bD A _ s H vs Q E aF h=>?_)
 obtain⟨p,deep,X,rfl,hd,⟨ms,bh,aH⟩,fv,dT,q⟩:=h
 refine⟨_,(aS (b0 2 tg.bC (cu fP aF (ak (ag 0) aB) (hk:=by omega)))
  (aS (b0 3 tg.bC (aL cZ (ag 2) aA))
  (aS (cy (bZ oE (ag 3) aA) (aY (bB (b8 cb (e4 (ak km (ak (fc il (aL cZ (ag 2) aA) aA) aB))) (ag 3)))) cx)
  (aS (cy (bZ cN (ag 3) aA) (aS (b0 4 tg.bC (b8 cb (e4 (ak (aL cZ (aL fG (ag 2) aA) aA) (ak (aL cZ (aL fG (ag 2) aA) (aL pa aA aA)) (ak (aL xo (aL gB (aL t5 aA aA) aA) (aL cZ (aL fG (ag 2) aA) aA)) aB)))) (aL cZ (aL fG (ag 2) aA) aA)))
   (aY (bB (aL Ai (ag 4) (b8 cb (e4 (ak aA (ak (pf o8 aA) aB))) (aL cZ (aL fG (ag 2) aA) aA)))))) cx)
  (aS (cy (bZ cN (ag 3) aA) (aY (bB (b8 cb (e4 (ak b7 (ak b7 (ak b7 (ak b7 (ak b7 (ak (aL Ai b7 aA) aB))))))) (aL cZ (aL fG (ag 2) aA) aA)))) cx)
  (aS (b0 5 tg.bC (e4 aB))
  (aS (cy (bZ il (ag 1) aA) (aY (Hm (i:=5)  ["_law_k"] [(0,"_law_pool_here"),(1,"_law_deep")] tg.bC rfl rfl rfl (by decide+kernel) ⟨rfl,.inl rfl,rfl,.inl rfl,trivial⟩ (n1 rfl nb.nE (ak (aL cZ (aL fG (ag 2) aA) aA) aB)) (fun _ _ _ _ _=>(eH (i:=0) (show(["_law_k","_law_pool_here","_law_deep"]:List af).Nodup by decide+kernel))) (fun _ _ _ _ _=>iA) (fun _ _ _ _ _=>(cu s3 aF (ak (ag 1) (ak (aL gB (ag 2) aA) aB)) (hk:=by omega))))) cx)
  (aS (cy (bZ cN (ag 3) aA) (aY (bB (n2 BZ rfl nb.nI m5 (ak (ag 5) aB)))) cx)
  (aS (cy (bZ cN (ag 3) aA) (aY (bB (aL Ai (e4 (ak km aB)) (aL xo aA (aL cZ (aL fG (ag 2) aA) aA))))) cx)
  (aY (bB (ag 5)))))))))))),?_⟩
 try dsimp only[d5,d6,d7,d8]
 have c7:mb p H:=⟨ms,bh,aH⟩
 have gz:=mf aH
 have b1:=cY.pop c7 gz
 refine⟨_,I,p,ms,I,bh,aH,?_⟩
 generalize ms.headD 0=c
 have eS:=aP (H:=H) (a:=p) (o :=.lst (ms.tail.map V.int))
 generalize upd H p (.lst (ms.tail.map V.int))=H1 at b1 eS ⊢
 have aZ:∀v hW ai,cY p H ai->cd X ai hW v->xZ deep hW->gf H ai (Q v):=fun v hW ai g h a=>⟨_,g.sub,q v hW ai g h a⟩
 obtain⟨hf,WA,DA⟩:=hR c 7 (by decide)
 have zz:c%7=((hf:Nat):Int):=DA
 refine⟨_,I,_,_,I,I,(by show(0:Int)<7;decide),?_⟩
 dsimp only
 rw[zz]
 refine⟨_,I,.inl ⟨_,_,I,I,_,I,dk (fun ee=>?_) (fun ee=>?_)⟩⟩
 ·refine⟨_,I,_,_,I,I,(by show(0:Int)<4;decide),_,_,I,I,iB,fun g aN=>?_⟩
  have cL:=b1.ext (Ext.lst (xs:=[V.aK,.aC (decide (1<c%4))]) aN)
  have hw:hf=0\/hf=1:=by omega
  rcases hw with rfl|rfl
  .exact⟨_,I,.inl (.inl ⟨_,_,_,_,I,I,bA aP,c5 (j:=0) I,aZ _ .aK _ cL I (.leaf trivial (by rw[bu];omega))⟩)⟩
  .exact⟨_,I,.inl (.inl ⟨_,_,_,_,I,I,bA aP,c5 (j:=1) I,aZ _ (.aC _) _ cL I (.leaf trivial (by rw[bu];omega))⟩)⟩
 have Dk:Gi c 42:=⟨by decide,by decide⟩
 refine⟨_,I,I,_,I,dk (fun eu=>?_) (fun eu=>?_)⟩
 ·have mC:sY 10 38:=by refine⟨?_,?_,?_⟩<;>decide
  have K9:(0:Int)<10^Int.toNat 38:=by decide+kernel
  refine⟨_,I,_,_,I,I,Dk,_,_,I,I,(by show(0:Int)<10;decide),_,I,_,_,I,I,Dk,_,_,I,I,mC,_,_,I,I,K9,_,_,I,I,⟨by decide,by decide,by decide⟩,_,_,rfl,rfl,_,rfl,_,_,rfl,rfl,Dk,_,_,rfl,rfl,(by show(0:Int)<3;decide),.inl (.inl ⟨_,_,rfl,rfl,rh,fun g aN=>?_⟩)⟩
  obtain⟨x,av,d0⟩:=jl V.int [c/42%10,c/42%10^Int.toNat 38,1*2^Int.toNat 255-2+c/42%3] (c/7) 3 rfl (by show 0<3;decide)
  have ov:x.natAbs<2^256:=by
   have a1:=fp (c/42) (show(10:Int)^Int.toNat 38≠0 by decide+kernel)
   have a2:=fR (c/42) K9
   have a3:(10:Int)^Int.toNat 38<2^256:=by decide+kernel
   have a4:(1:Int)*2^Int.toNat 255+10<2^256:=by decide+kernel
   have a5:(2:Int)<1*2^Int.toNat 255:=by decide+kernel
   simp only[dy,List.mem_nil_iff,or_false]at av
   rcases av with rfl|rfl|rfl<;>omega
  obtain⟨S,fu,ui⟩:=jl V.int [1,-1] (c/21) 2 rfl (by show 0<2;decide)
  have rS:S=1\/S = -1:=by simpa using fu
  refine⟨_,I,_,_,I,I,⟨by decide,by decide⟩,_,_,rfl,rfl,(by show(0:Int)<3;decide),.inl (.inl ⟨_,_,_,_,rfl,rfl,bA aP,d0,?_⟩)⟩
  have cL:=b1.ext (Ext.lst (xs:=[c/42%10,c/42%10^Int.toNat 38,1*2^Int.toNat 255-2+c/42%3].map V.int) aN)
  refine⟨_,I,_,I,iB,fun g2 ot=>?_⟩
  have fb:=cL.ext (Ext.lst (xs:=[1,-1].map V.int) ot)
  refine⟨_,I,_,_,I,I,⟨by decide,by decide⟩,_,_,rfl,rfl,(by show(0:Int)<2;decide),.inl (.inl ⟨_,_,_,_,rfl,rfl,bA aP,ui,.inl (.inl ⟨_,_,rfl,rfl,(by rcases rS with rfl|rfl<;>exact .inr ⟨by decide,by decide⟩),?_⟩)⟩)⟩
  have Kq:(x*S).natAbs<2^256:=by rcases rS with rfl|rfl<;>omega
  exact aZ _ (.int (x*S)) _ fb I (.leaf Kq (dp (qq Kq) (by decide)))
 refine⟨_,I,I,_,I,dk (fun nc=>?_) (fun nc=>?_)⟩
 ·obtain⟨x,av,d0⟩:=jl V.str [af.ofString "",af.ofString "a",af.ofString "b1",af.ofString "0",af.ofString "_",Txt.mul (af.ofString "abc") 70] (c/7) 6 rfl (by show 0<6;decide)
  have ov:x.length<=1000:=by
   have:∀y∈[af.ofString "",af.ofString "a",af.ofString "b1",af.ofString "0",af.ofString "_",Txt.mul (af.ofString "abc") 70],y.length<=1000:=by decide+kernel
   exact this x av
  refine .inl (.inr ⟨_,_,I,I,by decide,by decide,(by decide+kernel),(by show 6<=bW;decide),fun g aN=>?_⟩)
  have cL:=b1.ext (Ext.lst (xs:=[af.ofString "",af.ofString "a",af.ofString "b1",af.ofString "0",af.ofString "_",Txt.mul (af.ofString "abc") 70].map V.str) aN)
  exact⟨_,I,_,_,I,I,⟨by decide,by decide⟩,_,_,rfl,rfl,(by show(0:Int)<6;decide),.inl (.inl ⟨_,_,_,_,rfl,rfl,bA aP,d0,aZ _ (.str x) _ cL ⟨rfl,by omega⟩ (.leaf ov (by rw[bu];omega))⟩)⟩
 refine⟨UF _,fun nR oj=>?_⟩
 have h9:=Ext.lst (xs:=[]) oj
 have cL:=b1.ext h9
 have gM:=h9.s _ _ eS
 have gy:=aP (H:=H1) (a:=nR) (o :=.lst [])
 have U9:nR∉X:=(dT.grow b1).no oj
 generalize upd H1 nR (.lst [])=ax at cL gM gy ⊢
 refine hM fun yo kV=>kV _ _ ?_
 clear kV
 refine hM fun N b9=>?_
 have kR:∀(L:ah)(aM:List V)(ds:List D)(ew:ar),cY p H ew->ew L=J (.lst aM)->L∉X->b3 X ew ds aM->aM.length<=3->oG ds->cK ds+10<=4000*4^deep->N [J (.ref p),J (.int ((deep:Nat):Int)),J (.int c),J (.int ((hf:Nat):Int)),aw,J (.ref L)] ew:=fun L aM ds ew iZ dY wF cJ bF aD qF=>b9 _ _ (by
  refine⟨_,I,I,_,I,dk (fun jE=>?_) (fun jE=>?_)⟩
  ·refine⟨_,I,_,_,I,.inl ⟨bA dY,fun t hy=>?_⟩⟩
   have fW:=Ext.tup (xs:=aM) hy
   exact aZ _ (.tup ds) _ (iZ.ext fW) ⟨t,aM,I,(dT.grow iZ).no hy,aP,cJ.same fW.s,by omega⟩ ⟨⟨by have:=cU.len _ (b3.at _ cJ);omega,aD⟩,by rw[bu];exact qF⟩
  refine⟨_,I,I,_,I,dk (fun rF=>?_) (fun rF=>?_)⟩
  ·obtain⟨k,hk,wm⟩:=hR (c/28) 4 (by decide)
   have iD:c/28%4=((k:Nat):Int):=wm
   refine⟨pb,fun g aN=>⟨_,I,_,_,I,I,⟨by decide,by decide⟩,_,_,rfl,rfl,(by show(0:Int)<4;decide),.inl (.inl ⟨_,_,rfl,rfl,.inr ⟨g,_,_,rfl,rfl,aP,by omega,by omega,(by rw[iD];exact eN (by show 1*_<=_;omega)),fun t hy=>?_⟩⟩)⟩⟩
   have oe:(List.replicate ((60+c/28%4:Int)).toNat [V.aK]).flatten=List.replicate (60+k) V.aK:=by rw[iD,show((60+((k:Nat):Int):Int)).toNat=60+k by omega];simp
   have fW:=(Ext.lst (xs:=[V.aK]) aN).trans (Ext.lst (xs:=(List.replicate ((60+c/28%4:Int)).toNat [V.aK]).flatten) hy)
   have ER:t∉X:=(dT.grow (iZ.ext (Ext.lst (xs:=[V.aK]) aN))).no hy
   refine aZ _ (.lst (List.replicate (60+k) .aK)) _ (iZ.ext fW) ⟨t,List.replicate (60+k) V.aK,I,ER,?_,IY _,by rw[List.length_replicate];omega⟩ (.leaf ⟨by rw[List.length_replicate];omega,IP _⟩ (by rw[bu,I0];omega))
   rw[<-oe];exact aP
  .exact⟨_,I,aZ _ (.lst ds) _ iZ ⟨L,aM,I,wF,dY,cJ,by omega⟩ ⟨⟨by have:=cU.len _ (b3.at _ cJ);omega,aD⟩,by rw[bu];exact qF⟩⟩)
 clear b9
 refine⟨_,I,_,_,I,I,_,I,dk (fun jE=>?_) (fun jE=>?_)⟩
 ·obtain⟨k,hk,wm⟩:=hR (c/7) 4 (by decide)
  have iD:c/7%4=((k:Nat):Int):=wm
  refine⟨_,I,_,_,I,I,⟨by decide,by decide⟩,_,_,rfl,rfl,(by show(0:Int)<4;decide),_,rfl,by omega,by omega,fun cB ef=>?_⟩
  rw[show(c/7%4).toNat=k by omega]
  have kY:=dT.grow cL
  have rQ:cB∉X:=kY.no ef
  have kU:cB≠p:=fun z=>rQ (by rw[z];exact fv)
  have ia:=Ext.lst (xs:=[]) ef
  refine Iv k (fun i =>.int (0+((i:Nat):Int))) (fun i aM bL=>cY p ax bL/\∃ds,b3 (cB::X) bL ds aM/\ds.length=i/\oG ds/\∀x∈ds,bu x<=4000*4^(deep-1)) (fun ae=>∃z,ae=[z,J (.ref p),J (.int ((deep:Nat):Int))]) (by omega) ⟨_,I⟩ (fun i H aE=>aE) (fun H=>cQ _) (fun i H x ai aE h=>⟨h.1,h.2⟩) ⟨(cY.refl cL.l).ext ia,[],I,I,trivial,fun x av=>nomatch av⟩ ?_ ?_
  ·rintro i aE aM bV bL ⟨z,rfl⟩ ⟨fb,ds,cJ,wM,aU,qF⟩ qA my R cf
   have Eb:hP (cB::X) bL:=(kY.grow fb).add qA
   have ev:((deep:Nat):Int)-1=((deep-1:Nat):Int):=by omega
   refine⟨_,I,_,I,_,_,I,I,p,deep-1,cB::X,(by rw[<-ev];rfl),by omega,fb.l,eo _ fv,Eb,fun v hW hO iY jL kr=>?_⟩
   have h0:hO cB=J (.lst aM):=iY.k _ _ kU qA
   have er:∀b u,b∉cB::X->hO b=J u->upd hO cB (.lst (aM++[v])) b=J u:=fun b u nb e=>by rw[cn (fun z=>nb (by rw[z];exact gU ..))];exact e
   have k3:∀b u,b∉cB::X->bL b=J u->hO b=J u:=fun b u nb e=>iY.k b u (fun z=>nb (by rw[z];exact eo _ fv)) e
   refine cf _ _ _ ⟨_,I⟩ h0 ⟨(fb.trans iY).set ef h0 kU,ds++[hW],b3.snoc (cd.keep er _ jL) _ (b3.keep er _ (b3.keep k3 _ cJ)),by rw[eU,wM];rfl,CR _ fun x av=>?_,fun x av=>?_⟩
   ·rcases List.mem_append.mp av with z|z
    .exact y4 ds aU z
    .rw[hq.mp z];exact kr.o
   ·rcases List.mem_append.mp av with z|z
    .exact qF x z
    .rw[hq.mp z];exact kr.w
  ·rintro aM bL my h0 ⟨fb,ds,cJ,wM,aU,qF⟩
   have hw:=IA ds qF
   have ht:4^deep=4*4^(deep-1):=by
    obtain⟨m,rfl⟩:∃m,deep=m+1:=⟨deep-1,by omega⟩
    rw[Nat.pow_succ,Nat.mul_comm];rfl
   have rK:1<=4^(deep-1):=Nat.one_le_pow _ _ (by decide)
   have hm:ds.length*(4000*4^(deep-1)+2)<=3*(4000*4^(deep-1)+2):=Nat.mul_le_mul_right _ (by omega)
   exact kR cB aM ds bL (cL.trans fb) h0 rQ (b3.weak (fun x av=>eo _ av) _ cJ) (by omega) aU (by rw[ht];omega)
 .exact kR nR [] [] ax cL gy U9 I (by simp) trivial (by rw[cK];have:1<=4^deep:=Nat.one_le_pow _ _ (by decide);omega)
theorem Hs(nb:et mg)(F:ed K mg "_law_any" yX ["_law_pool_here","_law_deep"] f fd)(fP:bx P w K mg base 1 "_law_next" ["_law_pool_here"] mF):∀n:Nat,bx P w K mg base (n+2) "_law_any" ["_law_pool_here","_law_deep"] (Ay n)
 |0=>bx.none F fun vs H Q E h=>by obtain⟨_,_,_,_,h,_⟩:=h;omega
 |n+1=>Pk nb F fP (Hs nb F fP n)
theorem ID:∀{xs:List V}{us:List al},xs.length=us.length->(∀(i:Nat)(x:V)(u:al),xs[i]?=J x->us[i]?=J u->RelV x u)->Vals xs us
 |[],[],_,_ =>.nil
 |[],_::_,h,_=>by cases h
 |_::_,[],h,_=>by cases h
 |x::xs,u::us,h,k =>.cons (k 0 x u rfl rfl) (ID (by simpa using h) fun i y v aq az=>k (i+1) y v aq az)
theorem Hr{X:bj}(hc:X.calm=au):gR X (.type "list") (fun xs H Q=>∃z:af,xs=[.str z]/\z.cps.size<=bW/\∀l,H l=aw->Q (.ref l) (upd H l (.lst (z.cps.toList.map fun c=>V.str ⟨#[c]⟩)))):=by
 intro aj s ae H xs us Q aa r h
 obtain⟨z,rfl,bw,q⟩:=h
 obtain⟨u,rfl,t,rfl⟩:=vals1 r
 refine call_list_str (aa.ok.hd hc) z t (fun h' c0 Jj gw ik e aE=>?_) bw
 obtain⟨aq,az⟩:=aE
 have aH:(z.cps.toList.map fun c=>V.str ⟨#[c]⟩).length=z.cps.size:=by rw[cI,hE]
 have dE:Vals (z.cps.toList.map fun c=>V.str ⟨#[c]⟩) Jj.toList:=by
  refine ID (by rw[aH,hE];exact aq.symm) fun i x u bE cz=>?_
  rw[Array.getElem?_toList]at cz
  obtain⟨c,tt,dY,rfl⟩:=az i u cz
  rw[gm,Array.getElem?_toList,dY]at bE
  cases bE
  exact⟨tt,I⟩
 exact⟨.ref s.heap.objs.size,_,aa.laid (t':=c0) ik (cQ _) (show gY X.prog X.w _ h' _ (.lst _)from⟨by rw[aH];exact bw,Jj.toList,gw,dE,by simpa using e⟩),rfl,q _ (aa.aU.fresh (cQ _))⟩
theorem CN{e:Nat}:∀(ds:List D)(j:Nat){d x:D},ds[j]?=J d->bu x<=bu d+e->cK (ds.set j x)<=cK ds+e
 |[],j,d,x,h,_=>by cases h
 |a::ds,0,d,x,h,hw=>by
  cases h
  show cK (x::ds)<=cK (a::ds)+e
  rw[cK,cK];omega
 |a::ds,j+1,d,x,h,hw=>by
  have:=CN ds j (show ds[j]?=J d from h) hw
  show cK (a::ds.set j x)<=cK (a::ds)+e
  rw[cK,cK];omega
theorem vY(x:D):∀ds:List D,cK (ds++[x])=cK ds+bu x+2
 |[]=>by show cK [x]=cK []+bu x+2;simp only[cK];omega
 |d::ds=>by show cK (d::(ds++[x]))=_;rw[cK,vY x ds,cK];omega
theorem CE:∀(ds:List D)(j:Nat){x:D},lV ds->iR x->lV (ds.set j x)
 |[],_,_,_,_=>trivial
 |_::_,0,_,h,av=>⟨av,h.2⟩
 |_::ds,j+1,_,h,av=>⟨h.1,CE ds j h.2 av⟩
theorem vT{x:D}(av:iR x):∀ds:List D,lV ds->lV (ds++[x])
 |[],_=>⟨av,trivial⟩
 |_::ds,h=>⟨h.1,vT av ds h.2⟩
theorem CZ{X:List ah}{H:ar}{x:D}{v:V}(h:cd X H x v):∀(ds:List D)(j:Nat){vs:List V},b3 X H ds vs->b3 X H (ds.set j x) (vs.set j v)
 |[],j,vs,e=>by
  obtain rfl:vs=[]:=e
  exact rfl
 |d::ds,0,vs,e=>by
  obtain⟨w,r,rfl,_,cc⟩:=e
  exact⟨v,r,I,h,cc⟩
 |d::ds,j+1,vs,e=>by
  obtain⟨w,r,rfl,q,cc⟩:=e
  exact⟨w,r.set j v,I,q,CZ h ds j cc⟩
theorem C0{X:List ah}{H:ar}:∀(ds:List D){vs:List V}{i:Nat}{v:V},b3 X H ds vs->vs[i]?=J v->∃d,ds[i]?=J d/\cd X H d v
 |[],vs,i,v,h,e=>by
  obtain rfl:vs=[]:=h
  cases e
 |d::ds,vs,0,v,h,e=>by
  obtain⟨w,r,rfl,q,cc⟩:=h
  cases e
  exact⟨d,I,q⟩
 |d::ds,vs,i+1,v,h,e=>by
  obtain⟨w,r,rfl,q,cc⟩:=h
  exact C0 ds cc (show r[i]?=J v from e)
theorem Iy{X:List ah}{H:ar}:∀l:List Nat,b3 X H (l.map fun c=>D.str ⟨#[c]⟩) (l.map fun c=>V.str ⟨#[c]⟩)
 |[]=>rfl
 |c::l=>⟨_,_,rfl,⟨rfl,show 1<=16000000 by decide⟩,Iy l⟩
theorem Ic:∀l:List Nat,lV (l.map fun c=>D.str ⟨#[c]⟩)
 |[]=>trivial
 |_::l=>⟨trivial,Ic l⟩
theorem IC:∀l:List Nat,cK (l.map fun c=>D.str ⟨#[c]⟩)=1502*l.length
 |[]=>rfl
 |c::l=>by rw[jB,cK,bu,IC l,ep];omega
theorem RO(l:List Nat)(lo aE:Option Int):∃m:List Nat,qs (l.map fun c=>V.str ⟨#[c]⟩) lo aE=m.map (fun c=>V.str ⟨#[c]⟩)/\m.length<=l.length:=by
 unfold qs
 refine⟨(l.drop (eR.gs (l.map fun c=>V.str ⟨#[c]⟩).length 0 lo)).take (eR.gs (l.map fun c=>V.str ⟨#[c]⟩).length (l.map fun c=>V.str ⟨#[c]⟩).length aE-eR.gs (l.map fun c=>V.str ⟨#[c]⟩).length 0 lo),?_,?_⟩
 .rw[List.map_take,List.map_drop]
 .rw[kj,rq];omega
theorem CT(c:Int)(x0 e7 dF kB jd:V):∃x,(x=x0\/x=e7\/x=dF\/x=kB\/x=jd)/\dv [x0,e7,dF,kB,jd] (c%5)=J x:=by
 obtain⟨x,aq,az⟩:=jl (fun x=>x) [x0,e7,dF,kB,jd] c 5 rfl (by show 0<5;decide)
 exact⟨x,by simpa using aq,az⟩
theorem Ja{i x:Int}{A C:Nat}(h:i.natAbs<A)(av:x.natAbs+A<=C):(i+x).natAbs<C:=by omega
theorem Sn{i x:Int}{A C:Nat}(h:i.natAbs<A)(av:x.natAbs+A<=C):(i-x).natAbs<C:=by omega
inductive Lr(n:Nat)(vs:List V)(H:ar)(Q:bP)(E:cC):Prop where
 |mk (p:ah) (v:V) (dd:D) (X:List ah) (bt:vs=[.ref p,v]) (aq:mb p H) (az:p∈X) (bE:hP X H) (cz:cd X H dd v) (dY:qO dd) (kT:fh dd<=n) (zE:∀df hW ai,cY p H ai->cd X ai hW df->iR hW->bu hW<=bu dd+1600000->Q df ai):Lr n vs H Q E
def Az(n:Nat):cT:=fun vs H Q E=>Lr n vs H Q E
set_option maxHeartbeats 4000000 in
theorem O0(nb:et mg)(F:ed K mg "_law_bent" yS ["_law_pool_here","_law_value_here"] f fd)(fP:bx P w K mg base 1 "_law_next" ["_law_pool_here"] mF)(vx:bx P w K mg base (n+2) "_law_bent" ["_law_pool_here","_law_value_here"] (Az n)):bx P w K mg base (n+2+1) "_law_bent" ["_law_pool_here","_law_value_here"] (Az (n+1)):=by
 refine F.fC yp (fun bD A _ s H vs Q E aF h=>?_)
 obtain⟨p,v,dd,X,rfl,⟨ms,bh,aH⟩,fv,dT,hd,fu,uu,q⟩:=h
 refine⟨_,(aS (b0 2 yp.bC (cu fP aF (ak (ag 0) aB) (hk:=by omega)))
  (aS (cy (e2.pt (ih (bZ t6 (ag 1) km) (iM (fS (bY fH rfl nb.eD eA (ak (ag 1) (ak (fz (v :=.ty "bool") rfl nb.pg o2 rfl) aB))))))) (aY (bB (b8 cb (e4 (ak aA (ak aA (ak km (ak (iN aB) (ak (ag 1) aB)))))) (aL cZ (ag 2) aA)))) cx)
  (aS (cy (fS (bY fH rfl nb.eD eA (ak (ag 1) (ak (fz (v :=.ty "int") rfl nb.ow n4 rfl) aB)))) (aY (bB (b8 cb (e4 (ak (aL eE (ag 1) (aL pa aA aA)) (ak (aL gB (ag 1) (aL Sk (aL pa aA aA) (aL pa aA aA))) (ak (fc cN (ag 1) aA) (ak (n2 PL rfl nb.qT qp (ak (ag 1) aB)) (ak (aL eE (ag 1) aA) aB)))))) (aL cZ (ag 2) aA)))) cx)
  (aS (cy (fS (bY fH rfl nb.eD eA (ak (ag 1) (ak (fz (v :=.ty "str") rfl nb.qT qp rfl) aB)))) (aY (bB (b8 cb (e4 (ak (aL eE (ag 1) b7) (ak (aL eE (ag 1) b7) (ak (ri sH (n2 (gR.or Hf (Hr rfl)) rfl nb.se rB (ak (ag 1) aB)) rA (rz aA)) (ak (ri sH (ag 1) (rz aA) rA) (ak (aL eE b7 (ag 1)) aB)))))) (aL cZ (ag 2) aA)))) cx)
  (aS (b0 3 yp.bC (n2 (gR.or Hf (Hr rfl)) rfl nb.se rB (ak (ag 1) aB)))
  (aS (cy (e2.pt (mZ (bZ il (bY ec rfl nb.d2 d4 (ak (ag 3) aB)) aA) (mX (bZ il (aL cZ (ag 2) aA) aA)))) (aS (b0 4 yp.bC (aL cZ (aL fG (ag 2) aA) (bY ec rfl nb.d2 d4 (ak (ag 3) aB))))
   (aY (zi (cu vx aF (ak (ag 0) (ak (b8 cb (ag 3) (ag 4)) aB)) (hk:=by omega)) (SX (ag 3) (ag 4) Rk)))) (aY (cy (bZ cN (aL cZ (aL fG (ag 2) aA) aA) aA) (aY (vZ (ki PySem.F.plainAttrs_list PySem.F.slot_list_append PySem.F.type_list_append tJ (ag 3) (ak (b8 cb (e4 (ak km (ak aA (ak gJ aB)))) (aL cZ (aL fG (ag 2) aA) aA)) aB)))) cx)))
  (aS (cy (bZ cN (bY fH rfl nb.eD eA (ak (ag 1) (ak (fz (v :=.ty "list") rfl nb.se rB rfl) aB))) (fc il (aL cZ (aL fG (ag 2) aA) aA) aA)) (aY (bB (ag 3))) cx)
  (aY (bB (n2 BZ rfl nb.nI m5 (ak (ag 3) aB))))))))))),?_⟩
 try dsimp only[d5,d6,d7,d8]
 have c7:mb p H:=⟨ms,bh,aH⟩
 have gz:=mf aH
 have b1:=cY.pop c7 gz
 refine⟨_,I,p,ms,I,bh,aH,?_⟩
 generalize ms.headD 0=c
 have eS:=aP (H:=H) (a:=p) (o :=.lst (ms.tail.map V.int))
 generalize upd H p (.lst (ms.tail.map V.int))=H1 at b1 eS ⊢
 have aZ:∀df hW ai,cY p H ai->cd X ai hW df->iR hW->bu hW<=bu dd+1600000->gf H ai (Q df):=fun df hW ai g h o a=>⟨_,g.sub,q df hW ai g h o a⟩
 have j7:=cd.grow fv b1 hd
 have cj:=(cd.at _ j7).ty (K:=K)
 have xt:(0:Int)<5:=by decide
 have wt:5<=bW:=by decide
 have small:∀(ax:ar)(t:ah)(df:V),cY p H ax->t∉X->ax t=J (.tup [])->cd X ax dd v->df=.int 0\/df=.int 1\/df=.aK\/df=.ref t\/df=v->gf H ax (Q df):=fun ax t df g aO e eC h=>by
  rcases h with rfl|rfl|rfl|rfl|rfl
  .exact aZ _ (.int 0) _ g I (show Int.natAbs 0<2^390 by decide) (by rw[bu,show bp (Int.natAbs 0)=0 from rfl];omega (config:={}))
  .exact aZ _ (.int 1) _ g I (show Int.natAbs 1<2^390 by decide) (by rw[bu,show bp (Int.natAbs 1)=1 by decide];omega (config:={}))
  .exact aZ _ .aK _ g I trivial (by simp only[bu];omega (config:={}))
  .exact aZ _ (.tup []) _ g ⟨t,[],I,aO,e,I,by simp⟩ trivial (by rw[bu,cK];omega (config:={}))
  .exact aZ _ dd _ g eC (rD _ fu) (by omega (config:={}))
 have K0:∀{cB:Ends}{ae:St},cB.rt=(fun v ai=>gf H ai (Q v))->ae[1]?=J (J v)->ae[2]?=J (J (.int c))->FT (jQ (fun x y H Q=>(sy K x y H Q\/sA K x y H Q)\/sz x y H Q) (Mq (nH (iH (V.int 0)) (nH (iH (V.int 1)) (nH (iH V.aK) (nH (Mu u4) (nH (kz 1) u4)))))) (jQ (oH (fun x j=>0<j) fun i j=>V.int (i%j)) (kz 2) (iH (V.int 5)))) cB ae H1:=fun{cB ae}dz aq az=>by
  unfold FT
  rw[dz]
  refine⟨UF _,fun t aO=>⟨_,aq,wt,fun g aN=>?_⟩⟩
  obtain⟨x,av,d0⟩:=CT c (.int 0) (.int 1) .aK (.ref t) v
  have ia:=(Ext.tup (xs:=[]) aO).trans (Ext.lst (xs:=[V.int 0,.int 1,.aK,.ref t,v]) aN)
  exact⟨_,az,_,_,I,I,xt,.inl (.inl ⟨_,_,_,_,I,I,bA aP,d0,small _ t x (b1.ext ia) ((dT.grow b1).no aO) ((Ext.lst aN).s _ _ aP) (j7.same ia.s) av⟩)⟩
 cases dd with
 |aK =>
  obtain rfl:v=.aK:=hd
  exact⟨_,I,I,_,I,h1 I (bN (K0 I I I))⟩
 |aC b =>
  obtain rfl:v=.aC b:=hd
  exact⟨_,I,I,_,I,eP (fun z=>nomatch z) ⟨_,I,.inl ⟨_,_,_,_,I,cj,bO K _ (by decide),_,I,bN (K0 I I I)⟩⟩⟩
 | int i =>
  obtain rfl:v=.int i:=hd
  refine⟨_,I,I,_,I,eP (fun z=>nomatch z) ⟨_,I,.inl ⟨_,_,_,_,I,cj,bO K _ (by decide),_,I,bT ?_⟩⟩⟩
  refine⟨_,I,.inl ⟨_,_,_,_,I,cj,bO K _ (by decide),_,I,bN ?_⟩⟩
  have aE:i.natAbs<2^256:=fu
  have mC:∀n:Int,n=59\/n=39->sY 10 n:=fun n bf=>by rcases bf with rfl|rfl<;>(refine⟨?_,?_,?_⟩<;>decide)
  have Kc:i.natAbs.log2<1920:=by
   rcases Nat.eq_zero_or_pos i.natAbs with z|z
   .rw[z];decide
   .exact ez ((Nat.log2_lt (Nat.ne_of_gt z)).mpr aE) (by decide)
  refine⟨_,I,_,_,I,I,mC _ (.inl I),.inl ⟨_,_,I,I,_,I,_,_,I,I,mC _ (.inr I),_,_,I,I,mC _ (.inr I),_,_,I,I,⟨(by decide+kernel),(by decide+kernel)⟩,_,_,I,I,_,I,I,_,I,_,I,Kc,_,I,.inl ⟨_,_,I,I,wt,fun g aN=>?_⟩⟩⟩
  obtain⟨x,av,d0⟩:=CT c (.int (i+10^Int.toNat 59)) (.int (i-10^Int.toNat 39*10^Int.toNat 39)) (.aC (decide (V.int i=V.int 0))) (.str (af.ofString (toString i))) (.int (i+1))
  refine⟨_,I,_,_,I,I,xt,.inl (.inl ⟨_,_,_,_,I,I,bA aP,d0,?_⟩)⟩
  have cL:=b1.ext (Ext.lst (xs:=[V.int (i+10^Int.toNat 59),.int (i-10^Int.toNat 39*10^Int.toNat 39),.aC (decide (V.int i=V.int 0)),.str (af.ofString (toString i)),.int (i+1)]) aN)
  have key:∀j:Int,j.natAbs<2^301->gf H _ (Q (.int j)):=fun j c4=>aZ _ (.int j) _ cL rfl (ez c4 (Nat.pow_le_pow_right (by decide) (by decide))) (dp (qq c4) (dp (show 11*301+300<=1600000 by decide) (Nat.le_add_left _ _)))
  rcases av with rfl|rfl|rfl|rfl|rfl
  .exact key _ (Ja aE (by decide+kernel))
  .exact key _ (Sn aE (by decide+kernel))
  .exact aZ _ (.aC _) _ cL I trivial (dp (show bu (.aC _)<=1600000 by rw[bu];decide) (Nat.le_add_left _ _))
  .exact aZ _ (.str _) _ cL ⟨I,dp (PyProof.Rows.int_text_len_1921 Kc) (by decide)⟩ trivial (dp (show bu (.str _)<=1600000 by rw[bu];decide) (Nat.le_add_left _ _))
  .exact key _ (Ja aE (by decide+kernel))
 |str t =>
  obtain⟨rfl,_⟩:=hd
  have aO:t.length<=1000:=fu
  have iG:t.length<=bW:=eN (by omega (config:={}))
  refine⟨_,I,I,_,I,eP (fun z=>nomatch z) ⟨_,I,.inl ⟨_,_,_,_,I,cj,bO K _ (by decide),_,I,bT ?_⟩⟩⟩
  refine⟨_,I,.inl ⟨_,_,_,_,I,cj,bO K _ (by decide),_,I,bT ?_⟩⟩
  refine⟨_,I,.inl ⟨_,_,_,_,I,cj,bO K _ (by decide),_,I,bN ?_⟩⟩
  have dA:(af.ofString "_").length=1/\(af.ofString "a").length=1/\(af.ofString "Z").length=1:=by decide+kernel
  have lm:t.cps.toList.length=t.length:=hE
  obtain⟨m,hm,Kd⟩:=RO t.cps.toList aw (J 64)
  refine⟨_,I,.inr ⟨_,_,I,I,eN (by omega (config:={})),_,I,.inr ⟨_,_,I,I,eN (by omega (config:={})),_,I,.inr ⟨t,I,iG,fun Xc k7=>⟨_,I,.inl ⟨Xc,_,I,bA aP,fun dx f7=>⟨_,I,_,I,.inr ⟨_,I,iG,_,I,.inr ⟨_,_,I,I,eN (by omega (config:={})),wt,fun g aN=>?_⟩⟩⟩⟩⟩⟩⟩⟩⟩
  rw[hm]at aN ⊢
  have ia:=(Ext.lst (xs:=t.cps.toList.map fun c=>V.str ⟨#[c]⟩) k7)
  have gd:=ia.trans (Ext.lst (xs:=m.map fun c=>V.str ⟨#[c]⟩) f7)
  have VR:dx∉X:=(dT.grow (b1.ext ia)).no f7
  obtain⟨x,av,d0⟩:=CT c (.str (t++af.ofString "_")) (.str (t++af.ofString "a")) (.ref dx) (.str (Txt.slice t (J 1) aw)) (.str (af.ofString "Z"++t))
  refine⟨_,I,_,_,I,I,xt,.inl (.inl ⟨_,_,_,_,I,I,bA aP,d0,?_⟩)⟩
  have fW:=Ext.lst (xs:=[V.str (t++af.ofString "_"),.str (t++af.ofString "a"),.ref dx,.str (Txt.slice t (J 1) aw),.str (af.ofString "Z"++t)]) aN
  have cL:=(b1.ext gd).ext fW
  have key:∀s:af,s.length<=16000000->gf H _ (Q (.str s)):=fun s hs=>aZ _ (.str s) _ cL ⟨rfl,hs⟩ trivial (by simp only[bu];omega (config:={}))
  rcases av with rfl|rfl|rfl|rfl|rfl
  .exact key _ (by rw[kN];omega (config:={}))
  .exact key _ (by rw[kN];omega (config:={}))
  .exact aZ _ (.lst (m.map fun c=>D.str ⟨#[c]⟩)) _ cL ⟨dx,_,I,VR,fW.s _ _ aP,Iy m,by rw[cI];omega (config:={})⟩ (Ic m) (by simp only[bu];rw[IC];omega (config:={}))
  .exact key _ (dp (slice_le ..) (by omega (config:={})))
  .exact key _ (by rw[kN];omega (config:={}))
 | tup ds =>
  obtain⟨a,vs,rfl,Vi,e,cJ,iQ⟩:=j7
  obtain⟨VQ,wI⟩:=fu
  have d9:=cU.len ds (b3.at _ cJ)
  have wN:fh (.tup ds)=gx ds+1:=by rw[fh]
  have qF:bu (.tup ds)=cK ds+10:=by rw[bu]
  refine⟨_,I,I,_,I,eP (fun z=>nomatch z) ⟨_,I,.inl ⟨_,_,_,_,I,cj,bO K _ (by decide),_,I,bT ?_⟩⟩⟩
  refine⟨_,I,.inl ⟨_,_,_,_,I,cj,bO K _ (by decide),_,I,bT ?_⟩⟩
  refine⟨_,I,.inl ⟨_,_,_,_,I,cj,bO K _ (by decide),_,I,bT ?_⟩⟩
  refine⟨_,I,.inl ⟨a,vs,I,.inr (ck e),fun L hn=>?_⟩⟩
  have ia:=Ext.lst (xs:=vs) hn
  have cL:=b1.ext ia
  have oj:H L=aw:=b1.free hn
  have pA:L≠p:=b1.ne hn
  have wF:L∉X:=(dT.grow b1).no hn
  have gy:=aP (H:=H1) (a:=L) (o :=.lst vs)
  have iP:b3 (L::X) (upd H1 L (.lst vs)) ds vs:=b3.same ia.s (b3.add hn _ cJ)
  have nu:=v9 ds wI
  have pK:∀(bL:ar)(aM:List V),∀b u,b∉L::X->bL b=J u->upd bL L (.lst aM) b=J u:=fun bL aM b u nb e=>by rw[cn (fun z=>nb (by rw[z];exact gU ..))];exact e
  generalize upd H1 L (.lst vs)=ax at ia cL gy iP ⊢
  refine hM fun yo kV=>kV _ _ ?_
  clear kV
  refine hM fun N b9=>?_
  have kR:∀(aM:List V)(lI:List D)(ew:ar)(z:Option V),cY p H ew->ew L=J (.lst aM)->b3 (L::X) ew lI aM->aM.length<=1000->lV lI->cK lI<=cK ds+1600000->N [J (.ref p),J (.ref a),J (.int c),J (.ref L),z] ew:=fun aM lI ew z iZ dY Em bF aD hw=>b9 _ _ (by
   have sQ:=(cd.at _ (cd.grow fv iZ hd)).ty (K:=K)
   have wO:=b3.weak (fun x av=>eo _ av) _ Em
   refine⟨_,I,.inl ⟨_,_,_,_,I,sQ,bO K _ (by decide),_,I,_,_,I,I,⟨by decide,by decide⟩,_,_,rfl,rfl,xt,_,_,rfl,rfl,rfl,_,rfl,dk (fun jE=>?_) (fun jE=>?_)⟩⟩
   .exact⟨_,I,aZ _ (.lst lI) _ iZ ⟨L,aM,I,wF,dY,wO,bF⟩ aD (by simp only[bu];omega (config:={}))⟩
   ·refine⟨_,I,_,_,I,.inl ⟨bA dY,fun t hy=>?_⟩⟩
    have fW:=Ext.tup (xs:=aM) hy
    exact aZ _ (.tup lI) _ (iZ.ext fW) ⟨t,aM,I,(dT.grow iZ).no hy,aP,wO.same fW.s,bF⟩ aD (by simp only[bu];omega (config:={})))
  clear b9
  refine⟨_,I,_,_,I,.inl ⟨_,bA gy,I⟩,_,_,I,I,_,I,dk (fun dm=>?_) (fun dm=>bT ?_)⟩
  rotate_left
  ·skip
   refine⟨_,I,_,_,I,I,⟨by decide,by decide⟩,_,_,rfl,rfl,(by show(0:Int)<2;decide),rfl,_,rfl,dk (fun eu=>?_) (fun eu=>?_)⟩
   ·obtain⟨x,av,d0⟩:=jl (fun x=>x) [V.aK,.int 0,.aC ay] (c/6) 3 rfl (by show 0<3;decide)
    refine⟨_,I,.inl ⟨I,_,bA gy⟩,rh,fun g aN=>⟨_,I,_,_,I,I,⟨by decide,by decide⟩,_,_,rfl,rfl,(by show(0:Int)<3;decide),.inl (.inl ⟨_,_,_,_,rfl,rfl,bA aP,d0,?_⟩)⟩⟩
    have gd:=Ext.lst (xs:=[V.aK,.int 0,.aC ay]) aN
    have j5:=gd.s _ _ gy
    refine⟨L,_,_,I,I,j5,ez (show vs.length<100000 by omega (config:={})) (by decide),?_⟩
    obtain⟨aG,i7,r6,EV⟩:∃aG,(∀ai,cd (L::X) ai aG x)/\iR aG/\bu aG<=400:=by
     rcases(show x=.aK\/x=.int 0\/x=.aC ay by simpa using av)with rfl|rfl|rfl
     .exact⟨.aK,fun _=>I,trivial,by simp only[bu];omega (config:={})⟩
     .exact⟨.int 0,fun _=>I,show Int.natAbs 0<2^390 by decide,by rw[bu,show bp (Int.natAbs 0)=0 from rfl];omega (config:={})⟩
     .exact⟨.aC ay,fun _=>I,trivial,by simp only[bu];omega (config:={})⟩
    exact kR _ (ds++[aG]) _ aw ((cL.ext gd).set oj j5 pA) aP (b3.snoc (i7 _) _ (b3.keep (pK _ _) _ (b3.same gd.s iP))) (by rw[eU,i1];omega (config:={})) (vT r6 _ nu) (by rw[vY];omega (config:={}))
   .exact kR vs ds ax aw cL gy iP (by omega (config:={})) nu (by omega (config:={}))
  refine⟨_,I,_,_,I,I,(by show(0:Int)<3;decide),_,_,I,I,_,I,dk (fun ee=>?_) (fun ee=>?_)⟩
  rotate_left
  ·skip
   refine⟨_,I,_,_,I,I,⟨by decide,by decide⟩,_,_,rfl,rfl,(by show(0:Int)<2;decide),rfl,_,rfl,dk (fun eu=>?_) (fun eu=>?_)⟩
   ·obtain⟨x,av,d0⟩:=jl (fun x=>x) [V.aK,.int 0,.aC ay] (c/6) 3 rfl (by show 0<3;decide)
    refine⟨_,I,.inl ⟨I,_,bA gy⟩,rh,fun g aN=>⟨_,I,_,_,I,I,⟨by decide,by decide⟩,_,_,rfl,rfl,(by show(0:Int)<3;decide),.inl (.inl ⟨_,_,_,_,rfl,rfl,bA aP,d0,?_⟩)⟩⟩
    have gd:=Ext.lst (xs:=[V.aK,.int 0,.aC ay]) aN
    have j5:=gd.s _ _ gy
    refine⟨L,_,_,I,I,j5,ez (show vs.length<100000 by omega (config:={})) (by decide),?_⟩
    obtain⟨aG,i7,r6,EV⟩:∃aG,(∀ai,cd (L::X) ai aG x)/\iR aG/\bu aG<=400:=by
     rcases(show x=.aK\/x=.int 0\/x=.aC ay by simpa using av)with rfl|rfl|rfl
     .exact⟨.aK,fun _=>I,trivial,by simp only[bu];omega (config:={})⟩
     .exact⟨.int 0,fun _=>I,show Int.natAbs 0<2^390 by decide,by rw[bu,show bp (Int.natAbs 0)=0 from rfl];omega (config:={})⟩
     .exact⟨.aC ay,fun _=>I,trivial,by simp only[bu];omega (config:={})⟩
    exact kR _ (ds++[aG]) _ aw ((cL.ext gd).set oj j5 pA) aP (b3.snoc (i7 _) _ (b3.keep (pK _ _) _ (b3.same gd.s iP))) (by rw[eU,i1];omega (config:={})) (vT r6 _ nu) (by rw[vY];omega (config:={}))
   .exact kR vs ds ax aw cL gy iP (by omega (config:={})) nu (by omega (config:={}))
  obtain⟨j,c4,j2⟩:=hR (c/3) vs.length (by omega (config:={}))
  obtain⟨e7,d0⟩:∃x,vs[j]?=J x:=⟨_,cV c4⟩
  obtain⟨f5,f6,k6⟩:=C0 ds iP d0
  have kY:hP (L::X) ax:=((dT.grow b1).ext ia.s).add gy
  have Vw:=pj (iL f6) (cQ (gx ds))
  refine⟨_,I,_,_,I,I,⟨by decide,by decide⟩,_,rfl,_,_,rfl,.inl ⟨_,bA gy,rfl⟩,_,_,rfl,rfl,(by omega (config:={})),?_⟩
  dsimp only
  rw[j2]
  refine⟨_,I,_,I,_,I,.inl (.inl ⟨_,_,_,_,I,I,bA gy,c5 d0,p,e7,f5,L::X,I,cL.l,eo _ fv,kY,k6,y4 ds wI (iL f6),by omega (config:={}),fun df hW hO iY jL aD hw=>?_⟩)⟩
  have wD:hO L=J (.lst vs):=iY.k _ _ pA gy
  have pJ:∀b u,b∉L::X->ax b=J u->hO b=J u:=fun b u nb e=>iY.k b u (fun z=>nb (by rw[z];exact eo _ fv)) e
  exact⟨_,I,_,I,L,_,_,j,I,I,wD,IS c4,kR _ (ds.set j hW) _ _ ((cL.trans iY).set oj wD pA) aP (CZ (cd.keep (pK _ _) _ jL) _ _ (b3.keep (pK _ _) _ (b3.keep pJ _ iP))) (by rw[List.length_set];omega (config:={})) (CE _ _ nu aD) (CN ds j f6 hw)⟩
 | lst ds =>
  obtain⟨a,vs,rfl,Vi,e,cJ,iQ⟩:=j7
  obtain⟨VQ,wI⟩:=fu
  have d9:=cU.len ds (b3.at _ cJ)
  have wN:fh (.lst ds)=gx ds+1:=by rw[fh]
  have qF:bu (.lst ds)=cK ds+10:=by rw[bu]
  refine⟨_,I,I,_,I,eP (fun z=>nomatch z) ⟨_,I,.inl ⟨_,_,_,_,I,cj,bO K _ (by decide),_,I,bT ?_⟩⟩⟩
  refine⟨_,I,.inl ⟨_,_,_,_,I,cj,bO K _ (by decide),_,I,bT ?_⟩⟩
  refine⟨_,I,.inl ⟨_,_,_,_,I,cj,bO K _ (by decide),_,I,bT ?_⟩⟩
  refine⟨_,I,.inl ⟨a,vs,I,.inl (bA e),fun L hn=>?_⟩⟩
  have ia:=Ext.lst (xs:=vs) hn
  have cL:=b1.ext ia
  have oj:H L=aw:=b1.free hn
  have pA:L≠p:=b1.ne hn
  have wF:L∉X:=(dT.grow b1).no hn
  have gy:=aP (H:=H1) (a:=L) (o :=.lst vs)
  have iP:b3 (L::X) (upd H1 L (.lst vs)) ds vs:=b3.same ia.s (b3.add hn _ cJ)
  have nu:=v9 ds wI
  have pK:∀(bL:ar)(aM:List V),∀b u,b∉L::X->bL b=J u->upd bL L (.lst aM) b=J u:=fun bL aM b u nb e=>by rw[cn (fun z=>nb (by rw[z];exact gU ..))];exact e
  generalize upd H1 L (.lst vs)=ax at ia cL gy iP ⊢
  refine hM fun yo kV=>kV _ _ ?_
  clear kV
  refine hM fun N b9=>?_
  have kR:∀(aM:List V)(lI:List D)(ew:ar)(z:Option V),cY p H ew->ew L=J (.lst aM)->b3 (L::X) ew lI aM->aM.length<=1000->lV lI->cK lI<=cK ds+1600000->N [J (.ref p),J (.ref a),J (.int c),J (.ref L),z] ew:=fun aM lI ew z iZ dY Em bF aD hw=>b9 _ _ (by
   have sQ:=(cd.at _ (cd.grow fv iZ hd)).ty (K:=K)
   have wO:=b3.weak (fun x av=>eo _ av) _ Em
   refine⟨_,I,.inl ⟨_,_,_,_,I,sQ,bO K _ (by decide),_,I,_,_,I,I,⟨by decide,by decide⟩,_,_,rfl,rfl,xt,_,_,rfl,rfl,rfl,_,rfl,dk (fun jE=>?_) (fun jE=>?_)⟩⟩
   .exact⟨_,I,aZ _ (.lst lI) _ iZ ⟨L,aM,I,wF,dY,wO,bF⟩ aD (by simp only[bu];omega (config:={}))⟩
   ·refine⟨_,I,_,_,I,.inl ⟨bA dY,fun t hy=>?_⟩⟩
    have fW:=Ext.tup (xs:=aM) hy
    exact aZ _ (.tup lI) _ (iZ.ext fW) ⟨t,aM,I,(dT.grow iZ).no hy,aP,wO.same fW.s,bF⟩ aD (by simp only[bu];omega (config:={})))
  clear b9
  refine⟨_,I,_,_,I,.inl ⟨_,bA gy,I⟩,_,_,I,I,_,I,dk (fun dm=>?_) (fun dm=>bT ?_)⟩
  rotate_left
  ·skip
   refine⟨_,I,_,_,I,I,⟨by decide,by decide⟩,_,_,rfl,rfl,(by show(0:Int)<2;decide),rfl,_,rfl,dk (fun eu=>?_) (fun eu=>?_)⟩
   ·obtain⟨x,av,d0⟩:=jl (fun x=>x) [V.aK,.int 0,.aC ay] (c/6) 3 rfl (by show 0<3;decide)
    refine⟨_,I,.inl ⟨I,_,bA gy⟩,rh,fun g aN=>⟨_,I,_,_,I,I,⟨by decide,by decide⟩,_,_,rfl,rfl,(by show(0:Int)<3;decide),.inl (.inl ⟨_,_,_,_,rfl,rfl,bA aP,d0,?_⟩)⟩⟩
    have gd:=Ext.lst (xs:=[V.aK,.int 0,.aC ay]) aN
    have j5:=gd.s _ _ gy
    refine⟨L,_,_,I,I,j5,ez (show vs.length<100000 by omega (config:={})) (by decide),?_⟩
    obtain⟨aG,i7,r6,EV⟩:∃aG,(∀ai,cd (L::X) ai aG x)/\iR aG/\bu aG<=400:=by
     rcases(show x=.aK\/x=.int 0\/x=.aC ay by simpa using av)with rfl|rfl|rfl
     .exact⟨.aK,fun _=>I,trivial,by simp only[bu];omega (config:={})⟩
     .exact⟨.int 0,fun _=>I,show Int.natAbs 0<2^390 by decide,by rw[bu,show bp (Int.natAbs 0)=0 from rfl];omega (config:={})⟩
     .exact⟨.aC ay,fun _=>I,trivial,by simp only[bu];omega (config:={})⟩
    exact kR _ (ds++[aG]) _ aw ((cL.ext gd).set oj j5 pA) aP (b3.snoc (i7 _) _ (b3.keep (pK _ _) _ (b3.same gd.s iP))) (by rw[eU,i1];omega (config:={})) (vT r6 _ nu) (by rw[vY];omega (config:={}))
   .exact kR vs ds ax aw cL gy iP (by omega (config:={})) nu (by omega (config:={}))
  refine⟨_,I,_,_,I,I,(by show(0:Int)<3;decide),_,_,I,I,_,I,dk (fun ee=>?_) (fun ee=>?_)⟩
  rotate_left
  ·skip
   refine⟨_,I,_,_,I,I,⟨by decide,by decide⟩,_,_,rfl,rfl,(by show(0:Int)<2;decide),rfl,_,rfl,dk (fun eu=>?_) (fun eu=>?_)⟩
   ·obtain⟨x,av,d0⟩:=jl (fun x=>x) [V.aK,.int 0,.aC ay] (c/6) 3 rfl (by show 0<3;decide)
    refine⟨_,I,.inl ⟨I,_,bA gy⟩,rh,fun g aN=>⟨_,I,_,_,I,I,⟨by decide,by decide⟩,_,_,rfl,rfl,(by show(0:Int)<3;decide),.inl (.inl ⟨_,_,_,_,rfl,rfl,bA aP,d0,?_⟩)⟩⟩
    have gd:=Ext.lst (xs:=[V.aK,.int 0,.aC ay]) aN
    have j5:=gd.s _ _ gy
    refine⟨L,_,_,I,I,j5,ez (show vs.length<100000 by omega (config:={})) (by decide),?_⟩
    obtain⟨aG,i7,r6,EV⟩:∃aG,(∀ai,cd (L::X) ai aG x)/\iR aG/\bu aG<=400:=by
     rcases(show x=.aK\/x=.int 0\/x=.aC ay by simpa using av)with rfl|rfl|rfl
     .exact⟨.aK,fun _=>I,trivial,by simp only[bu];omega (config:={})⟩
     .exact⟨.int 0,fun _=>I,show Int.natAbs 0<2^390 by decide,by rw[bu,show bp (Int.natAbs 0)=0 from rfl];omega (config:={})⟩
     .exact⟨.aC ay,fun _=>I,trivial,by simp only[bu];omega (config:={})⟩
    exact kR _ (ds++[aG]) _ aw ((cL.ext gd).set oj j5 pA) aP (b3.snoc (i7 _) _ (b3.keep (pK _ _) _ (b3.same gd.s iP))) (by rw[eU,i1];omega (config:={})) (vT r6 _ nu) (by rw[vY];omega (config:={}))
   .exact kR vs ds ax aw cL gy iP (by omega (config:={})) nu (by omega (config:={}))
  obtain⟨j,c4,j2⟩:=hR (c/3) vs.length (by omega (config:={}))
  obtain⟨e7,d0⟩:∃x,vs[j]?=J x:=⟨_,cV c4⟩
  obtain⟨f5,f6,k6⟩:=C0 ds iP d0
  have kY:hP (L::X) ax:=((dT.grow b1).ext ia.s).add gy
  have Vw:=pj (iL f6) (cQ (gx ds))
  refine⟨_,I,_,_,I,I,⟨by decide,by decide⟩,_,rfl,_,_,rfl,.inl ⟨_,bA gy,rfl⟩,_,_,rfl,rfl,(by omega (config:={})),?_⟩
  dsimp only
  rw[j2]
  refine⟨_,I,_,I,_,I,.inl (.inl ⟨_,_,_,_,I,I,bA gy,c5 d0,p,e7,f5,L::X,I,cL.l,eo _ fv,kY,k6,y4 ds wI (iL f6),by omega (config:={}),fun df hW hO iY jL aD hw=>?_⟩)⟩
  have wD:hO L=J (.lst vs):=iY.k _ _ pA gy
  have pJ:∀b u,b∉L::X->ax b=J u->hO b=J u:=fun b u nb e=>iY.k b u (fun z=>nb (by rw[z];exact eo _ fv)) e
  exact⟨_,I,_,I,L,_,_,j,I,I,wD,IS c4,kR _ (ds.set j hW) _ _ ((cL.trans iY).set oj wD pA) aP (CZ (cd.keep (pK _ _) _ jL) _ _ (b3.keep (pK _ _) _ (b3.keep pJ _ iP))) (by rw[List.length_set];omega (config:={})) (CE _ _ nu aD) (CN ds j f6 hw)⟩
theorem Hi(nb:et mg)(F:ed K mg "_law_bent" yS ["_law_pool_here","_law_value_here"] f fd)(fP:bx P w K mg base 1 "_law_next" ["_law_pool_here"] mF):∀n:Nat,bx P w K mg base (n+2) "_law_bent" ["_law_pool_here","_law_value_here"] (Az n)
 |0=>bx.none F fun vs H Q E h=>by obtain⟨_,_,dd,_,_,_,_,_,_,_,h,_⟩:=h;have:=CV dd;omega
 |n+1=>O0 nb F fP (Hi nb F fP n)
inductive L8(d:Nat)(vs:List V)(H:ar)(Q:bP)(E:cC):Prop where
 |mk (v1 v2:V) (dd:D) (bt:vs=[v1,v2]) (aq:dI H dd v1) (az:dI H dd v2) (bE:fh dd<=d) (cz:Q (.aC au) H):L8 d vs H Q E
def AF(d:Nat):cT:=fun vs H Q E=>L8 d vs H Q E
theorem pj:∀(ds:List D){d:D},d∈ds->fh d<=gx ds
 |[],d,h=>nomatch h
 |e::ds,d,h=>by
  rw[gx]
  rcases dy.mp h with rfl|h
  .omega
  .have:=pj ds h;omega
theorem OY(nb:et mg)(F:ed K mg "_law_same" yO ["_law_found","_law_due"] f fd)(vz:bx P w K mg base (d+1) "_law_same" ["_law_found","_law_due"] (AF d)):bx P w K mg base (d+1+1) "_law_same" ["_law_found","_law_due"] (AF (d+1)):=by
 refine F.fC PS (fun bD A _ s H vs Q E aF h=>?_)
 obtain⟨v1,v2,dd,rfl,aq,az,uu,q⟩:=h
 refine xO _ (aS (cy (bZ t6 (ag 1) km) (aY (bB (fc t6 (ag 0) km))) cx)
  (aS (cy (fS (bY fH rfl nb.eD eA (ak (ag 1) (ak (fz (v :=.ty "bool") rfl nb.pg o2 rfl) aB)))) (aY (bB (gV (bY fH rfl nb.eD eA (ak (ag 0) (ak (fz (v :=.ty "bool") rfl nb.pg o2 rfl) aB))) (hT (fc cN (ag 0) (ag 1)))))) cx)
  (aS (cy (fS (bY fH rfl nb.eD eA (ak (ag 1) (ak (fz (v :=.ty "int") rfl nb.ow n4 rfl) aB)))) (aY (bB (gV (bY fH rfl nb.eD eA (ak (ag 0) (ak (fz (v :=.ty "int") rfl nb.ow n4 rfl) aB))) (gV (CQ (bY fH rfl nb.eD eA (ak (ag 0) (ak (fz (v :=.ty "bool") rfl nb.pg o2 rfl) aB)))) (hT (fc cN (ag 0) (ag 1))))))) cx)
  (aS (cy (fS (bY fH rfl nb.eD eA (ak (ag 1) (ak (fz (v :=.ty "str") rfl nb.qT qp rfl) aB)))) (aY (bB (gV (bY fH rfl nb.eD eA (ak (ag 0) (ak (fz (v :=.ty "str") rfl nb.qT qp rfl) aB))) (hT (fc cN (ag 0) (ag 1)))))) cx)
  (aS (cy (e2.pt (ih (e2.pt (mZ (fS (bY fH rfl nb.eD eA (ak (ag 1) (ak (fz (v :=.ty "tuple") rfl nb.nI m5 rfl) aB)))) (mX (hS (fS (bY fH rfl nb.eD eA (ak (ag 0) (ak (fz (v :=.ty "tuple") rfl nb.nI m5 rfl) aB)))))))) (iM (e2.pt (mZ (fS (bY fH rfl nb.eD eA (ak (ag 1) (ak (fz (v :=.ty "list") rfl nb.se rB rfl) aB)))) (mX (hS (fS (bY fH rfl nb.eD eA (ak (ag 0) (ak (fz (v :=.ty "list") rfl nb.se rB rfl) aB))))))))))) (aY (bB gJ)) cx)
  (aS (cy (bZ nB (bY ec rfl nb.d2 d4 (ak (ag 0) aB)) (bY ec rfl nb.d2 d4 (ak (ag 1) aB))) (aY (bB gJ)) cx)
  (aY (bB (fc cN (bY ec rfl nb.d2 d4 (ak (hQ ["_law_k"] [(0,"_law_found"),(1,"_law_due")] rfl (by decide+kernel) ⟨rfl,.inl rfl,rfl,.inl rfl,trivial⟩ (n1 rfl nb.nE (ak (bY ec rfl nb.d2 d4 (ak (ag 1) aB)) aB)) (fun _ _ _ _ _=>(eH (i:=0) (show(["_law_k","_law_found","_law_due"]:List af).Nodup by decide+kernel))) (fun _ _ _ _ _=>(za (hS (fS (cu vz aF (ak (b8 cb (ag 1) (ag 0)) (ak (b8 cb (ag 2) (ag 0)) aB)) (hk:=by omega)))))) (fun _ _ _ _ _=>(ag 0))) aB)) aA))))))))) fun G fk eK go=>?_
 try dsimp only[d5,d6,d7,d8]at go
 have cj:=aq.ty (K:=K)
 have iV:=az.ty (K:=K)
 have aZ:gf H H (Q (.aC au)):=⟨H,.refl (c2 _),q⟩
 cases dd with
 |aK =>
  obtain rfl:v1=.aK:=aq
  obtain rfl:v2=.aK:=az
  subst eK
  exact go ⟨_,I,I,_,I,h1 I ⟨_,I,I,aZ⟩⟩
 |aC b =>
  obtain rfl:v1=.aC b:=aq
  obtain rfl:v2=.aC b:=az
  subst eK
  refine go ⟨_,I,I,_,I,eP (fun z=>nomatch z) ?_⟩
  refine⟨_,I,.inl ⟨_,_,_,_,I,iV,bO K _ (by decide),_,I,bN ?_⟩⟩
  refine⟨_,I,.inl ⟨_,_,_,_,I,cj,bO K _ (by decide),?_⟩⟩
  refine⟨au,I,bN ⟨_,I,_,I,I,?_⟩⟩
  rw[eY rfl];exact aZ
 |int i =>
  obtain rfl:v1=.int i:=aq
  obtain rfl:v2=.int i:=az
  subst eK
  refine go ⟨_,I,I,_,I,eP (fun z=>nomatch z) ?_⟩
  refine⟨_,I,.inl ⟨_,_,_,_,I,iV,bO K _ (by decide),_,I,bT ?_⟩⟩
  refine⟨_,I,.inl ⟨_,_,_,_,I,iV,bO K _ (by decide),_,I,bN ?_⟩⟩
  refine⟨_,I,.inl ⟨_,_,_,_,I,cj,bO K _ (by decide),au,I,bN ?_⟩⟩
  refine⟨_,I,.inl ⟨_,_,_,_,I,cj,bO K _ (by decide),?_⟩⟩
  refine⟨ay,I,au,I,bN ⟨_,I,_,I,I,?_⟩⟩
  rw[eY rfl];exact aZ
 |str t =>
  obtain⟨rfl,_⟩:=aq
  obtain⟨rfl,_⟩:=az
  subst eK
  refine go ⟨_,I,I,_,I,eP (fun z=>nomatch z) ?_⟩
  refine⟨_,I,.inl ⟨_,_,_,_,I,iV,bO K _ (by decide),_,I,bT ?_⟩⟩
  refine⟨_,I,.inl ⟨_,_,_,_,I,iV,bO K _ (by decide),_,I,bT ?_⟩⟩
  refine⟨_,I,.inl ⟨_,_,_,_,I,iV,bO K _ (by decide),_,I,bN ?_⟩⟩
  refine⟨_,I,.inl ⟨_,_,_,_,I,cj,bO K _ (by decide),au,I,bN ⟨_,I,_,I,I,?_⟩⟩⟩
  rw[eY rfl];exact aZ
 | tup ds =>
  obtain⟨da,kd,rfl,ba,j7,dA⟩:=aq
  obtain⟨cm,gj,rfl,bg,eC,dx⟩:=az
  subst eK
  refine go ⟨_,I,I,_,I,eP (fun z=>nomatch z) ?_⟩
  iterate 3 refine⟨_,I,.inl ⟨_,_,_,_,I,iV,bO K _ (by decide),_,I,bT ?_⟩⟩
  refine⟨_,I,.inl ⟨_,_,_,_,I,iV,bO K _ (by decide),_,I,bN ?_⟩⟩
  refine⟨_,I,.inl ⟨_,_,_,_,I,cj,bO K _ (by decide),?_⟩⟩
  refine⟨au,I,bT ⟨_,I,.inl ⟨_,_,_,_,I,iV,bO K _ (by decide),_,I,bT (bT ?_)⟩⟩⟩
  have d9:=cU.len ds j7
  have es:=cU.len ds eC
  rw[fh]at uu
  refine⟨_,I,_,_,I,.inr ⟨_,ck ba,I⟩,_,I,_,_,I,.inr ⟨_,ck bg,I⟩,I,_,I,la (by rw[d9,es]) ?_⟩
  refine⟨_,I,_,_,I,.inr ⟨_,ck bg,I⟩,_,I,by omega,by omega,fun cB ef=>?_⟩
  rw[show(((gj.length:Nat):Int)).toNat=gj.length by omega]
  refine vG (fun _=>ay) (fun i =>.int (i:Nat)) (fun ae=>∃z,ae=[z,J (.ref da),J (.ref cm)]) (by omega) ⟨_,I⟩ ef ?_ ?_
  ·rintro i aE bV H1 ⟨z,rfl⟩ c9 R jZ cf
   obtain⟨e7,d0⟩:∃x,kd[i]?=J x:=⟨_,cV (by omega)⟩
   obtain⟨dF,r9⟩:∃x,gj[i]?=J x:=⟨_,cV aE⟩
   obtain⟨f5,f6,k6⟩:=cU.get ds j7 d0
   obtain⟨TU,wL,mu⟩:=cU.get ds eC r9
   rw[f6]at wL
   obtain rfl:=gk wL
   have hm:=pj ds (iL f6)
   refine⟨_,I,_,I,.inl (.inr ⟨_,_,_,_,I,I,ck (c9 _ _ ba),(by rw[Int.zero_add];exact c5 d0),_,I,_,I,.inl (.inr ⟨_,_,_,_,I,I,ck (c9 _ _ bg),(by rw[Int.zero_add];exact c5 r9),e7,dF,f5,I,dI.same c9 _ k6,dI.same c9 _ mu,by omega,_,rfl,?_⟩)⟩)⟩
   exact bT (cf _ ⟨_,I⟩)
  ·rw[show List.filter (fun _:Nat=>ay) (List.range gj.length)=[]from List.filter_eq_nil_iff.mpr (fun _ _=>g0)]
   refine⟨_,_,I,.inl ⟨_,bA aP,I⟩,I,H,.refl (c3 ef),?_⟩
   exact q
 | lst ds =>
  obtain⟨da,kd,rfl,ba,j7,dA⟩:=aq
  obtain⟨cm,gj,rfl,bg,eC,dx⟩:=az
  subst eK
  refine go ⟨_,I,I,_,I,eP (fun z=>nomatch z) ?_⟩
  iterate 3 refine⟨_,I,.inl ⟨_,_,_,_,I,iV,bO K _ (by decide),_,I,bT ?_⟩⟩
  refine⟨_,I,.inl ⟨_,_,_,_,I,iV,bO K _ (by decide),_,I,bT (bT ?_)⟩⟩
  refine⟨_,I,.inl ⟨_,_,_,_,I,iV,bO K _ (by decide),_,I,bN ?_⟩⟩
  refine⟨_,I,.inl ⟨_,_,_,_,I,cj,bO K _ (by decide),?_⟩⟩
  refine⟨au,I,bT ?_⟩
  have d9:=cU.len ds j7
  have es:=cU.len ds eC
  rw[fh]at uu
  refine⟨_,I,_,_,I,.inl ⟨_,bA ba,I⟩,_,I,_,_,I,.inl ⟨_,bA bg,I⟩,I,_,I,la (by rw[d9,es]) ?_⟩
  refine⟨_,I,_,_,I,.inl ⟨_,bA bg,I⟩,_,I,by omega,by omega,fun cB ef=>?_⟩
  rw[show(((gj.length:Nat):Int)).toNat=gj.length by omega]
  refine vG (fun _=>ay) (fun i =>.int (i:Nat)) (fun ae=>∃z,ae=[z,J (.ref da),J (.ref cm)]) (by omega) ⟨_,I⟩ ef ?_ ?_
  ·rintro i aE bV H1 ⟨z,rfl⟩ c9 R jZ cf
   obtain⟨e7,d0⟩:∃x,kd[i]?=J x:=⟨_,cV (by omega)⟩
   obtain⟨dF,r9⟩:∃x,gj[i]?=J x:=⟨_,cV aE⟩
   obtain⟨f5,f6,k6⟩:=cU.get ds j7 d0
   obtain⟨TU,wL,mu⟩:=cU.get ds eC r9
   rw[f6]at wL
   obtain rfl:=gk wL
   have hm:=pj ds (iL f6)
   refine⟨_,I,_,I,.inl (.inl ⟨_,_,_,_,I,I,bA (c9 _ _ ba),(by rw[Int.zero_add];exact c5 d0),_,I,_,I,.inl (.inl ⟨_,_,_,_,I,I,bA (c9 _ _ bg),(by rw[Int.zero_add];exact c5 r9),e7,dF,f5,I,dI.same c9 _ k6,dI.same c9 _ mu,by omega,_,rfl,?_⟩)⟩)⟩
   exact bT (cf _ ⟨_,I⟩)
  ·rw[show List.filter (fun _:Nat=>ay) (List.range gj.length)=[]from List.filter_eq_nil_iff.mpr (fun _ _=>g0)]
   refine⟨_,_,I,.inl ⟨_,bA aP,I⟩,I,H,.refl (c3 ef),?_⟩
   exact q
theorem Hg(nb:et mg)(F:ed K mg "_law_same" yO ["_law_found","_law_due"] f fd):∀d:Nat,bx P w K mg base (d+1) "_law_same" ["_law_found","_law_due"] (AF d)
 |0=>bx.none F fun vs H Q E z=>by obtain⟨_,_,dd,_,_,_,h,_⟩:=z;have:=CV dd;omega
 |d+1=>OY nb F (Hg nb F d)
noncomputable def ub:List Bool:=[au,ay,ay,ay,ay,ay,ay,ay,ay,ay,au]
inductive Lq(gX:ah)(c:fX)(n:Nat)(vs:List V)(H:ar)(Q:bP)(E:cC):Prop where
 |mk (o:ah) (v:V) (g:bq) (d:D) (bt:vs=[.ref o,v]) (aq:dn c [] H g o) (az:nC hasAll g) (bE:aO g<=n) (cz:dI H d v) (dY:iR d) (kT:((br g4 g d=au/\(ej jy g d).length<=15000000/\∀t s ai,Ext H ai->ai t=J (.tup [.str s,.aK])->Q (.ref t) ai)\/ (br dw g d=ay/\∀t e ai,Ext H ai->ai t=J (.tup [.aK,.ref e])->ai e=J (oW e gX aw)->Q (.ref t) ai))):Lq gX c n vs H Q E
def Lp(gX:ah)(c:fX)(n:Nat):cT:=fun vs H Q E=>Lq gX c n vs H Q E
theorem OT{f:ah}{c:fX}{fd:hB}{n:Nat}(zC:mg "RiseError"=J (.ref jV))(F3:ExcC K jV)(F4:Ga K (.ref jV)=J (.type "type"))(Ez:vi K gX (.ref jV)=J au)
  (F:ed K mg "_law_asked" B9 ["_law_made_here","_law_value_here"] f fd) (A6:A8 P w K mg base (2*n+5) "row" ["self","value"] (g5 c) (fun _=>FK gX c n)) :
  bx P w K mg base (2*n+6) "_law_asked" ["_law_made_here","_law_value_here"] (Lp gX c n):=by
 refine F.fC tM (fun bD A _ s H vs Q E aF h=>?_)
 obtain⟨o,v,g,d,rfl,eJ,aU,eg,hd,fU,q⟩:=h
 obtain⟨g6,g8,gn,li⟩:=dn.row g eJ
 obtain⟨Bk,JK⟩:∃Bk:St->cC,Bk=fun ae TR dd ai=>TR=.ref gX/\dd=aw/\ai=H/\ae=[J (.ref o),J v,J .aK,J .aK,aw]/\∀t e ai,Ext H ai->ai t=J (.tup [.aK,.ref e])->ai e=J (oW e gX aw)->Q (.ref t) ai:=⟨_,rfl⟩
 refine⟨_,(aS (b0 2 tM.bC km)
  (aS (b0 3 tM.bC km)
  (aS (SS (i:=4) (Eh:=Bk) (fun _=>(aY (b0 3 tM.bC (PW A6 aF Qn (ag 0) (ak (ag 1) aB) (hk':=by omega)))))
   (fun _ _=>(aY (b0 2 tM.bC (ag 4)))) zC F3 F4 tM.bC)
  (aY (bB (iN (ak (ag 3) (ak (ag 2) aB)))))))),?_⟩
 try dsimp only[d5,d6,d7,d8]
 refine hM fun yo kV=>kV _ _ ?_
 clear kV
 refine hM fun yo kV=>kV _ _ ?_
 clear kV
 refine hM fun N b9=>⟨?_,fun bU Gh d' ai a qB bz=>?_⟩
 ·refine⟨_,I,o,slot g,g6,g8,I,gn,li,_,I,o,g,v,d,I,eJ,aU,eg,hd,fU,?_⟩
  rcases q with⟨aq,az,q⟩|⟨aq,q⟩
  .exact .inl ⟨aq,az,b9 _ _ ⟨_,I,_,I,iB,fun t aO=>⟨_,(Ext.tup aO).sub,q t _ _ (Ext.tup aO) aP⟩⟩⟩
  .exact .inr ⟨aq,by subst JK;exact⟨I,I,I,I,q⟩⟩
 ·subst JK
  obtain⟨hc,rfl,rfl,rfl,q⟩:=qB
  injection hc with hc
  subst hc
  have rv:=Ext.exc (C:=Gh) (d:=aw) bz
  exact⟨Ez,_,I,b9 _ _ ⟨_,I,_,I,iB,fun t aO=>⟨_,(rv.trans (Ext.tup aO)).sub,q t a _ (rv.trans (Ext.tup aO)) aP ((Ext.tup aO).s _ _ aP)⟩⟩⟩
theorem xR{a b:Int}(bz:a.natAbs<2^10)(ao:b.natAbs<2^10):iR (.tup [.int a,.int b])/\bu (.tup [.int a,.int b])<=15000000:=by
 have aq:=qq bz
 have az:=qq ao
 have e:(2:Nat)^10<=2^390:=Nat.pow_le_pow_right (by decide) (by decide)
 refine⟨⟨ez bz e,ez ao e,trivial⟩,?_⟩
 rw[bu,cK,cK,cK];omega
mutual
theorem CS:∀(f:bq),ei f->nC hasAll f
 |.bare k,h=>⟨by rw[mB];trivial,by rw[nz];rfl⟩
 |.sp a b,h=>by rw[ei]at h;exact⟨by rw[mB];exact⟨h.1,h.2.2⟩,by rw[nz];rfl⟩
 |.le s,h=>by rw[ei]at h;exact⟨by rw[mB];exact h,by rw[nz];rfl⟩
 |.one k f,h=>by
  rw[ei]at h
  obtain⟨a,b⟩:=CS f h
  exact⟨by rw[mB];exact a,by rw[nz];exact⟨I,b⟩⟩
 |.two k ns fs,h=>by
  rw[ei]at h
  obtain⟨a,b⟩:=Ib fs h.2.2
  exact⟨by rw[mB];exact⟨h.1,h.2.1,a⟩,by rw[nz];exact⟨I,b⟩⟩
theorem Ib:∀(fs:List bq),h3 fs->Aj hasAll fs
 |[],_=>⟨by rw[qN];trivial,by rw[qG];trivial⟩
 |f::fs,h=>by
  rw[h3]at h
  obtain⟨a,b⟩:=CS f h.1
  obtain⟨a2,eB⟩:=Ib fs h.2
  exact⟨by rw[qN];exact⟨a,a2⟩,by rw[qG];exact⟨b,eB⟩⟩
end
theorem Iz(H:ar):∀bs:List Bool,cU H (bs.map D.aC) (bs.map V.aC)
 |[]=>rfl
 |_::bs=>⟨_,_,rfl,rfl,Iz H bs⟩
theorem IZ{bs:List Bool}(h:H a=J (.lst (bs.map V.aC)))(aH:bs.length<=1000):dI H (.lst (bs.map D.aC)) (.ref a):=⟨a,_,rfl,h,Iz H bs,by rw[cI];exact aH⟩
theorem SG(bs:List Bool):fh (.lst (bs.map D.aC))<=60:=by
 rw[fh]
 have:∀bs:List Bool,gx (bs.map D.aC)<=1:=fun bs=>by
  induction bs with
  |nil=>rw[List.map_nil,gx];omega
  |cons b bs cp=>rw[jB,gx,fh];omega
 have:=this bs
 omega
inductive LR(K:bH)(vs:List V)(H:ar)(Q:bP)(E:cC):Prop where
 |mk (a:ah) (ns:List Int) (bt:vs=[.ref a]) (aq:dr K H a (ns.map V.int)) (az:ns.length<=63) (bE:∀ai,Q (.aC au) ai):LR K vs H Q E
def AD(K:bH):cT:=fun vs H Q E=>LR K vs H Q E
set_option maxHeartbeats 4000000 in
theorem Rw{f:ah}{c:fX}{cs:sZ}{fd:hB}(nb:et mg)(F:dV K "law" "law" C7 f fd)(Fb:Bx K cs gX ub)
  (x4:bx P w K mg base 1 "_law_pool" ["_law_script"] (L4 K)) (vy:bx P w K mg base 12 "_law_drawn" ["_law_pool_here"] Lw) (oU:bx P w K mg base 15 "_law_made" ["_law_form_here"] (AE c 8)) (mR:bx P w K mg base 11 "_law_value" ["_law_pool_here","_law_form_here"] (AI 8)) (vx:bx P w K mg base 11 "_law_bent" ["_law_pool_here","_law_value_here"] (Az 9)) (s3:bx P w K mg base 5 "_law_any" ["_law_pool_here","_law_deep"] (Ay 3))
  (q3:bx P w K mg base 10 "_law_fits" ["_law_form_here","_law_value_here"] (AB 8)) (iX:jg P w K mg base 20 "fits" ["self","value"] (g5 c) (iS hasAll dw c 8)) (Bf:bx P w K mg base 22 "_law_asked" ["_law_made_here","_law_value_here"] (Lp gX c 8)) (Bg:bx P w K mg base 1 "_law_kinds" ["_law_kept"] (LN K cs)) (vz:bx P w K mg base 10 "_law_same" ["_law_found","_law_due"] (AF 9)):di P w K mg base eb 23 f fd ["_law_script"] (AD K):=by
 refine F.hJ ly (fun bD A _ s H vs Q E aF h=>?_)
 obtain⟨a,sm,rfl,fu,aH,q⟩:=h
 refine⟨_,(aS (b0 1 ly.bC (cu x4 aF (ak (ag 0) aB) (hk:=by omega)))
  (aS (b0 2 ly.bC (cu vy aF (ak (ag 1) aB) (hk:=by omega)))
  (aS (b0 3 ly.bC (cu oU aF (ak (ag 2) aB) (hk:=by omega)))
  (aS (b0 4 ly.bC (cu mR aF (ak (ag 1) (ak (ag 2) aB)) (hk:=by omega)))
  (aS (b0 5 ly.bC (e4 (ak (ag 4) (ak (cu vx aF (ak (ag 1) (ak (ag 4) aB)) (hk:=by omega)) (ak (cu s3 aF (ak (ag 1) (ak aA aB)) (hk:=by omega)) (ak (cu mR aF (ak (ag 1) (ak (cu vy aF (ak (ag 1) aB) (hk:=by omega)) aB)) (hk:=by omega)) (ak (cu s3 aF (ak (ag 1) (ak aA aB)) (hk:=by omega)) aB)))))))
  (aS (qo lr.never rfl (ja (aL xo (ag 5) (e4 (ak km (ak aA (ak gJ (ak (iN aB) (ak (e4 aB) (ak b7 (ak (iN (ak aA (ak aA aB))) (ak (iN (ak aA (ak aA aB))) (ak (iN (ak aA (ak aA aB))) (ak (iN (ak aA (ak aA aB))) (ak (iN (ak aA (ak (pf o8 aA) aB))) aB)))))))))))))) (eH (i:=6) ly.bC rfl (by exact Or.inl I))
   (aS (b0 7 ly.bC (cu q3 aF (ak (ag 2) (ak (ag 6) aB)) (hk:=by omega)))
   (aS (b0 8 ly.bC (kM iX aF (ag 3) (ak (ag 6) aB) (hk:=by omega)))
   (aS (cy (e2.pt (ih (hS (fS (bY fH rfl nb.eD eA (ak (ag 8) (ak (fz (v :=.ty "bool") rfl nb.pg o2 rfl) aB))))) (iM (bZ (K5 (Fw aF)) (ag 8) (ag 7))))) (aY (bB gJ)) cx)
   (aS (zi (cu Bf aF (ak (ag 3) (ak (ag 6) aB)) (hk:=by omega)) (o9 rfl (jk (eH (i:=9) ly.bC rfl (by exact Or.inl I)) (jk (eH (i:=10) ly.bC rfl (by exact Or.inl I)) o1))))
   (aS (cy (e2.pt (mZ (fS (ag 7)) (mX (e2.pt (ih (bZ Sj (ag 10) km) (iM (hS (fS (bY fH rfl nb.eD eA (ak (ag 9) (ak (fz (v :=.ty "str") rfl nb.qT qp rfl) aB))))))))))) (aY (bB gJ)) cx)
   (aY (cy (e2.pt (mZ (hS (fS (ag 7))) (mX (bZ (K5 (Fw aF)) (cu Bg aF (ak (ag 10) aB) (hk:=by omega)) (aL xo (aL xo (e4 (ak gJ aB)) (aL Ai (e4 (ak gJ aB)) aA)) (e4 (ak gJ aB))))))) (aY (bB gJ)) cx))))))))
  (aS (b0 1 ly.bC (cu x4 aF (ak (ag 0) aB) (hk:=by omega)))
  (aS (b0 2 ly.bC (cu vy aF (ak (ag 1) aB) (hk:=by omega)))
  (aY (bB (gV (cu vz aF (ak (ag 4) (ak (cu mR aF (ak (ag 1) (ak (ag 2) aB)) (hk:=by omega)) aB)) (hk:=by omega)) (hT (fc C4 (kM iX aF (ag 3) (ak (ag 4) aB) (hk:=by omega)) gJ))))))))))))),?_⟩
 try dsimp only[d5,d6,d7,d8]
 have wt:5<=bW:=by decide
 refine hM fun N b9=>⟨_,I,a,sm,I,fu,aH,fun p bh=>b9 _ _ ?_⟩
 clear b9
 have GW:=c3 (o:=dC.lst ((sx sm).map V.int)) bh
 have eS:=aP (H:=H) (a:=p) (o :=.lst ((sx sm).map V.int))
 generalize upd H p (.lst ((sx sm).map V.int))=H1 at GW eS ⊢
 have k7:=QM sm
 obtain⟨ms,r1⟩:∃ms,ms=sx sm:=⟨_,rfl⟩
 rw[<-r1]at eS k7
 have Vb:mb p H1:=⟨ms,eS,k7⟩
 have lX:p∈[p]:=hq.mpr rfl
 have Ve:∀ai,cY p H1 ai->dJ H ai:=fun ai G b u e=>G.k _ _ (gv e bh) (GW _ _ e)
 have Fd:∀ai,cY p H1 ai->lz [p] ai:=fun ai G x av=>by rw[hq.mp av];obtain⟨n,e,_⟩:=G.l;exact⟨_,e⟩
 have has:∀ai,cY p H1 ai->hP [p] ai:=fun ai G x av=>by obtain⟨l,e⟩:=Fd _ G x av;exact⟨_,e⟩
 have NA:=cY.refl Vb
 refine hM fun N b9=>⟨_,I,p,[p],ms,I,eS,k7,lX,Fd _ NA,fun jw ax cL gM T=>b9 _ _ ?_⟩
 clear b9
 obtain⟨g,jr,JY⟩:∃g jr,wh ms=(g,jr):=⟨_,_,rfl⟩
 rw[JY]at gM T
 have aU:=CS _ T.o
 refine hM fun N b9=>⟨_,I,jw,g,[p],I,has _ cL,T.d,T.o,T.h,fun o bL fW D2=>b9 _ _ ?_⟩
 clear b9
 have fb:=cL.ext fW
 have px:=fW.s _ _ gM
 refine hM fun N b9=>⟨_,I,_,I,p,jw,g,[p],jr,I,lX,px,qy fb px,has _ fb,T.d.same fW.s,T.o,T.h,fun v1 hO Go zD zT=>b9 _ _ ?_⟩
 clear b9
 have qi:=zh 8 g jr T.o T.h
 have W1:=I1 (d:=8) (ms:=jr) T.o T.h T.h (by have:=T.s;omega) (qy fb px)
 obtain⟨eW,oA,z1⟩:∃eW oA,dU 8 g jr=(eW,oA):=⟨_,_,rfl⟩
 rw[z1]at zD zT qi W1
 replace qi:tL g eW:=qi
 replace W1:bu eW<=9500000:=W1
 have iY:=fb.trans Go
 have uu:fh eW<=9:=dp qi.dM (Nat.succ_le_succ T.h)
 refine hM fun N b9=>⟨_,I,_,I,_,I,p,v1,eW,[p],I,iY.l,lX,has _ iY,zT,qi.s,uu,fun v2 hr ew x6 Vs V8 acm=>?_⟩
 have iZ:=iY.trans x6
 refine⟨_,I,p,2,[p],I,by decide,iZ.l,lX,has _ iZ,fun sM rH e1 vC Vt Gd=>?_⟩
 have Bo:=iZ.trans vC
 obtain⟨KM,U2,VS⟩:=Bo.l
 refine⟨_,I,_,I,p,[p],KM,I,U2,VS,lX,Fd _ Bo,fun aaK i0 tb zF iK=>?_⟩
 have x7:=Bo.trans tb
 obtain⟨g2,uF,VA⟩:∃g2 uF,wh KM=(g2,uF):=⟨_,_,rfl⟩
 rw[VA]at zF iK
 refine⟨p,aaK,g2,[p],uF,I,lX,zF,qy x7 zF,has _ x7,iK.d,iK.o,iK.h,fun v4 Gs tc ab3 JU=>?_⟩
 have Bp:=x7.trans tc
 have yy:=zh 8 g2 uF iK.o iK.h
 have BR:=I1 (d:=8) (ms:=uF) iK.o iK.h iK.h (by have:=iK.s;omega) (qy x7 zF)
 obtain⟨rI,KN,Wy⟩:∃rI KN,dU 8 g2 uF=(rI,KN):=⟨_,_,rfl⟩
 rw[Wy]at JU yy BR
 replace yy:tL g2 rI:=yy
 replace BR:bu rI<=9500000:=BR
 refine⟨_,I,p,1,[p],I,by decide,Bp.l,lX,has _ Bp,fun sN Dl q8 q7 Vu Ge=>⟨wt,fun L hn=>b9 _ _ ?_⟩⟩
 clear b9
 have NB:=Bp.trans q7
 have Bi:=Ext.lst (xs:=[v1,v2,sM,v4,sN]) hn
 have D6:=aP (H:=q8) (a:=L) (o :=.lst [v1,v2,sM,v4,sN])
 generalize upd q8 L (.lst [v1,v2,sM,v4,sN])=Gu at Bi D6 ⊢
 refine hM fun N b9 =>.inl ⟨_,I,UF _,fun t1 k1=>⟨UF _,fun gi k2=>⟨iB,fun t3 k3=>⟨iB,fun mH pJ=>⟨iB,fun lZ k5=>⟨iB,fun mI E7=>⟨_,I,iB,fun pY E8=>⟨(by show 11<=bW;decide),fun cM E9=>?_⟩⟩⟩⟩⟩⟩⟩⟩
 have ba:=Ext.tup (xs:=[]) k1
 have bg:=Ext.lst (xs:=[]) k2
 have eZ:=Ext.tup (xs:=[V.int 1,.int 0]) k3
 have ht:=Ext.tup (xs:=[V.int 2,.int 4]) pJ
 have rK:=Ext.tup (xs:=[V.int 0,.int 1]) k5
 have Ju:=Ext.tup (xs:=[V.int 0,.int 2]) E7
 have Jv:=Ext.tup (xs:=[V.int 3,.int (-1)]) E8
 have Dp:=Ext.lst (xs:=[V.aK,.int 0,.aC au,.ref t1,.ref gi,.str (af.ofString ""),.ref t3,.ref mH,.ref lZ,.ref mI,.ref pY]) E9
 have Dg:=Jv.trans Dp
 have rF:=Ju.trans Dg
 have jE:=rK.trans rF
 have nc:=ht.trans jE
 have eu:=eZ.trans nc
 have ee:=bg.trans eu
 have dm:=ba.trans ee
 have f3:=ee.s _ _ (aP (H:=Gu) (a:=t1) (o :=.tup []))
 have eB:=eu.s _ _ (aP (a:=gi) (o :=.lst []))
 have m9:=nc.s _ _ (aP (a:=t3) (o :=.tup [V.int 1,.int 0]))
 have n5:=jE.s _ _ (aP (a:=mH) (o :=.tup [V.int 2,.int 4]))
 have n6:=rF.s _ _ (aP (a:=lZ) (o :=.tup [V.int 0,.int 1]))
 have n7:=Dg.s _ _ (aP (a:=mI) (o :=.tup [V.int 0,.int 2]))
 have n8:=Dp.s _ _ (aP (a:=pY) (o :=.tup [V.int 3,.int (-1)]))
 refine .inr ⟨L,cM,_,_,I,I,dm.s _ _ D6,aP,(by show 5+11<=bW;decide),fun ti Fa=>?_⟩
 have nf:=Ext.lst (xs:=[v1,v2,sM,v4,sN]++[V.aK,.int 0,.aC au,.ref t1,.ref gi,.str (af.ofString ""),.ref t3,.ref mH,.ref lZ,.ref mI,.ref pY]) Fa
 have j5:=aP (a:=ti) (o:=dC.lst ([v1,v2,sM,v4,sN]++[V.aK,.int 0,.aC au,.ref t1,.ref gi,.str (af.ofString ""),.ref t3,.ref mH,.ref lZ,.ref mI,.ref pY])) (H:=upd (upd (upd (upd (upd (upd (upd (upd Gu t1 (.tup [])) gi (.lst [])) t3 (.tup [V.int 1,.int 0])) mH (.tup [V.int 2,.int 4])) lZ (.tup [V.int 0,.int 1])) mI (.tup [V.int 0,.int 2])) pY (.tup [V.int 3,.int (-1)])) cM (.lst [V.aK,.int 0,.aC au,.ref t1,.ref gi,.str (af.ofString ""),.ref t3,.ref mH,.ref lZ,.ref mI,.ref pY]))
 have oV:=Bi.trans (dm.trans nf)
 have cJ:=(show cU _ [eW,hr,rH,rI,Dl,.aK,.int 0,.aC au,.tup [],.lst [],.str (af.ofString ""),.tup [.int 1,.int 0],.tup [.int 2,.int 4],.tup [.int 0,.int 1],.tup [.int 0,.int 2],.tup [.int 3,.int (-1)]] ([v1,v2,sM,v4,sN]++[V.aK,.int 0,.aC au,.ref t1,.ref gi,.str (af.ofString ""),.ref t3,.ref mH,.ref lZ,.ref mI,.ref pY])from
  ⟨_,_,rfl,cd.at _ ((cd.grow lX (x6.trans (vC.trans (tb.trans (tc.trans q7)))) zT).same oV.s),_,_,rfl,cd.at _ ((cd.grow lX (vC.trans (tb.trans (tc.trans q7))) Vs).same oV.s),_,_,rfl,cd.at _ ((cd.grow lX (tb.trans (tc.trans q7)) Vt).same oV.s),_,_,rfl,cd.at _ ((cd.grow lX q7 JU).same oV.s),_,_,rfl,cd.at _ (Vu.same oV.s),_,_,rfl,rfl,_,_,rfl,rfl,_,_,rfl,rfl,
   _,_,rfl,⟨t1,_,rfl,nf.s _ _ f3,rfl,by simp⟩,_,_,rfl,⟨gi,_,rfl,nf.s _ _ eB,rfl,by simp⟩,_,_,rfl,⟨rfl,by decide+kernel⟩,
   _,_,rfl,⟨t3,_,rfl,nf.s _ _ m9,⟨_,_,rfl,rfl,_,_,rfl,rfl,rfl⟩,by simp⟩,_,_,rfl,⟨mH,_,rfl,nf.s _ _ n5,⟨_,_,rfl,rfl,_,_,rfl,rfl,rfl⟩,by simp⟩,_,_,rfl,⟨lZ,_,rfl,nf.s _ _ n6,⟨_,_,rfl,rfl,_,_,rfl,rfl,rfl⟩,by simp⟩,_,_,rfl,⟨mI,_,rfl,nf.s _ _ n7,⟨_,_,rfl,rfl,_,_,rfl,rfl,rfl⟩,by simp⟩,_,_,rfl,⟨pY,_,rfl,nf.s _ _ n8,⟨_,_,rfl,rfl,_,_,rfl,rfl,rfl⟩,by simp⟩,rfl⟩)
 have i6:∀d∈[eW,hr,rH,rI,Dl,D.aK,.int 0,.aC au,.tup [],.lst [],.str (af.ofString ""),.tup [.int 1,.int 0],.tup [.int 2,.int 4],.tup [.int 0,.int 1],.tup [.int 0,.int 2],.tup [.int 3,.int (-1)]],iR d/\bu d<=15000000:=fun d hd=>by
  have aq:=Gd.w
  have az:=Ge.w
  simp only[dy,List.mem_nil_iff,or_false]at hd
  rcases hd with rfl|rfl|rfl|rfl|rfl|rfl|rfl|rfl|rfl|rfl|rfl|rfl|rfl|rfl|rfl|rfl
  .exact⟨rD _ qi.s,by omega⟩
  .exact⟨V8,by omega⟩
  .exact⟨rD _ Gd.o,by omega⟩
  .exact⟨rD _ yy.s,by omega⟩
  .exact⟨rD _ Ge.o,by omega⟩
  .exact⟨trivial,by rw[bu];omega⟩
  .exact⟨show Int.natAbs 0<2^390 by decide,by rw[bu,show bp (Int.natAbs 0)=0 from rfl];omega⟩
  .exact⟨trivial,by rw[bu];omega⟩
  .exact⟨trivial,by rw[bu,cK];omega⟩
  .exact⟨trivial,by rw[bu,cK];omega⟩
  .exact⟨trivial,by rw[bu];omega⟩
  .exact xR (by decide) (by decide)
  .exact xR (by decide) (by decide)
  .exact xR (by decide) (by decide)
  .exact xR (by decide) (by decide)
  .exact xR (by decide) (by decide)
 have Gp:=NB.ext oV
 have E6:∀b u,b∉[p]->bL b=J u->_:=fun b u nb e=>oV.s _ _ (((Go.trans (x6.trans (vC.trans (tb.trans (tc.trans q7))))).k b u (fun z=>nb (by rw[z];exact lX)) e))
 have D3:=dn.weak (X:=[]) (fun x av=>nomatch av) _ (dn.keep E6 _ D2)
 have Ko:=cd.keep E6 _ (T.d.same fW.s)
 have JS:=cd.at _ ((cd.grow lX (x6.trans (vC.trans (tb.trans (tc.trans q7)))) zT).same oV.s)
 have GY:=Ve _ Gp
 generalize upd _ ti _=Gv at j5 cJ Gp D3 Ko JS GY ⊢
 generalize [v1,v2,sM,v4,sN]++[V.aK,.int 0,.aC au,.ref t1,.ref gi,.str (af.ofString ""),.ref t3,.ref mH,.ref lZ,.ref mI,.ref pY]=ws at j5 cJ ⊢
 generalize [eW,hr,rH,rI,Dl,D.aK,.int 0,.aC au,.tup [],.lst [],.str (af.ofString ""),.tup [.int 1,.int 0],.tup [.int 2,.int 4],.tup [.int 0,.int 1],.tup [.int 0,.int 2],.tup [.int 3,.int (-1)]]=ds at cJ i6
 clear oV nf dm ee eu nc jE rF Dg ba bg eZ ht rK Ju Jv Dp f3 eB m9 n5 n6 n7 n8 E6 Bi D6
 refine⟨ti,I,⟨_,bA j5⟩,RH (K:=K) (a:=ti) (xs:=ws) (fun i ae q8=>Ext Gv q8/\∃l4 vc vd ve vb,ae=[J (.ref a),J (.ref p),J jw,J (.ref o),J v1,J (.ref L),l4,vc,vd,ve,vb]) ⟨⟨c2 _,fun c=>c⟩,_,_,_,_,_,I⟩ (fun i ae bL _ h=>bA (h.1.s _ _ j5)) ?_ ?_⟩
 ·rintro i x ae td av ⟨ql,l4,vc,vd,ve,vb,rfl⟩
  clear b9
  obtain⟨d,hd,Kr⟩:=cU.get ds cJ av
  obtain⟨wA,Vg⟩:=i6 d (iL hd)
  have z3:=dI.same ql.s _ Kr
  have zJ:dn c [] td g o:=dn.keep (fun b u _ e=>ql.s b u e) _ D3
  obtain⟨g6,g8,gn,li⟩:=dn.fits g zJ
  refine hM fun N b9=>⟨_,I,_,I,jw,x,g,d,[p],I,cd.same ql.s Ko,T.o,T.h,z3,wA,b9 _ _ ?_⟩
  clear b9
  refine hM fun N b9=>⟨_,I,o,slot g,g6,g8,I,gn,li,_,I,o,g,x,d,I,I,zJ,aU,T.h,z3,wA,b9 _ _ ?_⟩
  clear b9
  have aba:∀(b:Bool)(ai:ar),iy K ai (.aC b) (.type "bool"):=fun b ai=>(show dI ai (.aC b) (.aC b)from rfl).ty
  refine hM fun N b9=>⟨_,I,.inl ⟨_,_,_,_,I,aba _ _,bO K (.aC (br dw g d)) (by decide),au,I,bT ⟨_,I,_,I,.inl ⟨I,_,I,la I (b9 _ _ ?_)⟩⟩⟩⟩
  clear b9
  have K3:∀(ai:ar)(ve vb:Option V)(vc vd:Option V),Ext td ai->Ext Gv ai/\∃aa6 aa7 aa8 aa9 aa5,[J (.ref a),J (.ref p),J jw,J (.ref o),J v1,J (.ref L),J x,vc,vd,ve,vb]=[J (V.ref a),J (.ref p),J jw,J (.ref o),J v1,J (.ref L),aa6,aa7,aa8,aa9,aa5]:=fun ai ve vb vc vd X=>⟨ql.trans X,_,_,_,_,_,rfl⟩
  cases J3:br dw g d with
  |true =>
   have J2:=tT g d wA J3
   refine hM fun N b9=>⟨_,I,_,I,o,x,g,d,I,zJ,aU,T.h,z3,wA,.inl ⟨J2,dp (t4 g d T.o J2) Vg,fun t FO q9 BV aO=>⟨_,_,I,ck aO,I,_,_,I,_,_,I,I,b9 _ _ ?_⟩⟩⟩
   clear b9
   have aM:iy K q9 (.str FO) (.type "str") :=.str FO
   refine hM fun N b9=>⟨_,I,au,I,bN ⟨_,I,I,_,I,la I ⟨_,I,.inl ⟨_,_,_,_,I,aM,bO K (.str FO) (by decide),au,I,bT (b9 _ _ ?_)⟩⟩⟩⟩
   clear b9
   exact⟨_,I,au,I,bT (bT (K3 _ _ _ _ _ BV))⟩
  |false =>
   refine hM fun N b9=>⟨_,I,_,I,o,x,g,d,I,zJ,aU,T.h,z3,wA,.inr ⟨J3,fun t ex q9 BV aO hex=>⟨_,_,I,ck aO,I,_,_,I,_,_,I,I,b9 _ _ ?_⟩⟩⟩
   clear b9
   refine hM fun N b9=>⟨_,I,ay,I,bT (bT (b9 _ _ ?_))⟩
   clear b9
   refine⟨_,I,ay,I,bN ⟨_,I,.ref ex,I,.inr ⟨ex,gX,aw,ub,I,hex,.inl I,Fb,fun qQ k5=>?_⟩⟩⟩
   have xN:=Ext.lst (xs:=ub.map V.aC) k5
   refine⟨pb,fun cA E5=>⟨pb,fun cc z5 =>.inr ⟨cc,9,_,I,I,aP,by decide,by decide,(by show 1*9<=bW;decide),fun fx WT=>?_⟩⟩⟩
   have h6:=Ext.lst (xs:=[V.aC au]) E5
   have dR:=Ext.lst (xs:=[V.aC ay]) z5
   have MD:=Ext.lst (xs:=(List.replicate (9:Int).toNat [V.aC ay]).flatten) WT
   refine .inr ⟨cA,fx,_,_,I,I,MD.s _ _ (dR.s _ _ aP),aP,(by show 1+9<=bW;decide),fun Fu WU=>⟨pb,fun pR WV=>?_⟩⟩
   have aaG:=Ext.lst (xs:=[V.aC au]++(List.replicate (9:Int).toNat [V.aC ay]).flatten) WU
   have ME:=Ext.lst (xs:=[V.aC au]) WV
   refine .inr ⟨Fu,pR,_,_,I,I,ME.s _ _ aP,aP,(by show 10+1<=bW;decide),fun Aq WW=>?_⟩
   have aaH:=Ext.lst (xs:=([V.aC au]++(List.replicate (9:Int).toNat [V.aC ay]).flatten)++[V.aC au]) WW
   have mI:=((((h6.trans dR).trans MD).trans aaG).trans ME).trans aaH
   refine .inr ⟨_,_,IZ (bs:=ub) (mI.s _ _ aP) (by decide),IZ (bs:=ub) aP (by decide),SG _,_,I,?_⟩
   rw[HS]
   exact bT (K3 _ _ _ _ _ (BV.trans (xN.trans mI)))
 ·rintro ae td ⟨ql,l4,vc,vd,ve,vb,rfl⟩
  refine b9 _ _ ?_
  clear b9
  have SB:=GY.trans ql.s
  refine hM fun N b9=>⟨_,I,a,sm,I,SB.seq fu,aH,fun cm Kh=>b9 _ _ ?_⟩
  clear b9
  rw[<-r1]
  have gd:=Ext.lst (xs:=ms.map V.int) Kh
  have EJ:=aP (H:=td) (a:=cm) (o :=.lst (ms.map V.int))
  generalize upd td cm (.lst (ms.map V.int))=q9 at gd EJ ⊢
  have Vc:mb cm q9:=⟨ms,EJ,k7⟩
  have Lb:cm∈[cm]:=hq.mpr rfl
  have KH:∀ai,cY cm q9 ai->lz [cm] ai:=fun ai G x av=>by rw[hq.mp av];obtain⟨n,e,_⟩:=G.l;exact⟨_,e⟩
  have Vl:∀ai,cY cm q9 ai->hP [cm] ai:=fun ai G x av=>by obtain⟨l,e⟩:=KH _ G x av;exact⟨_,e⟩
  have NJ:∀ai,cY cm q9 ai->dJ td ai:=fun ai G b u e=>G.k _ _ (gv e Kh) (gd.s _ _ e)
  refine hM fun N b9=>⟨_,I,cm,[cm],ms,I,EJ,k7,Lb,KH _ (cY.refl Vc),fun wf aby Bq kU TD=>b9 _ _ ?_⟩
  clear b9
  rw[JY]at kU TD
  refine⟨_,I,_,I,_,I,cm,wf,g,[cm],jr,I,Lb,kU,qy Bq kU,Vl _ Bq,TD.d,TD.o,TD.h,fun l1 ND GE ab4 JW=>?_⟩
  rw[z1]at JW
  have NC:=Bq.trans GE
  have BK:=NJ _ NC
  have JR:=dI.same (ql.s.trans BK) _ JS
  have JL:dn c [] ND g o:=dn.keep (fun b u _ e=>BK _ _ (ql.s b u e)) _ D3
  obtain⟨g6,g8,gn,li⟩:=dn.fits g JL
  refine⟨v1,l1,eW,I,JR,cd.at _ JW,uu,au,I,bN ⟨_,I,o,slot g,g6,g8,I,gn,li,_,I,o,g,v1,eW,I,I,JL,aU,T.h,JR,rD _ qi.s,?_⟩⟩
  rw[qi.fit]
  exact⟨au,I,I,H,.refl (SB.trans BK),q _⟩
def sX(x q:af)(st:bG)(aI:List af):Prop:=∀(gq doc pm:al)(an:Option ah)(bD ct:al)(us:List al),us.length=aI.length->bindArgs (nN x q (oc st) (jF st) (b4 st) .none gq doc pm an bD ct) ⟨us,[]⟩=pure (aI.zip us)
theorem iC{a:af}{st:bG}(h:∀(gq doc pm:al)(an:Option ah)(bD ct u:al),bindArgs (nN x q (oc st) (jF st) (b4 st) .none gq doc pm an bD ct) ⟨[u],[]⟩=pure [(a,u)]:=by intros;rfl):sX x q st [a]:=fun _ _ _ _ _ _ us aH=>by
 rcases us with _|⟨_,_|⟨_,_⟩⟩<;>first|exact h .. |cases aH
theorem dP{a b:af}{st:bG}(h:∀(gq doc pm:al)(an:Option ah)(bD ct u v:al),bindArgs (nN x q (oc st) (jF st) (b4 st) .none gq doc pm an bD ct) ⟨[u,v],[]⟩=pure [(a,u),(b,v)]:=by intros;rfl):sX x q st [a,b]:=fun _ _ _ _ _ _ us aH=>by
 rcases us with _|⟨_,_|⟨_,_|⟨_,_⟩⟩⟩<;>first|exact h .. |cases aH
theorem TO{a b c:af}{st:bG}(h:∀(gq doc pm:al)(an:Option ah)(bD ct u v y:al),bindArgs (nN x q (oc st) (jF st) (b4 st) .none gq doc pm an bD ct) ⟨[u,v,y],[]⟩=pure [(a,u),(b,v),(c,y)]:=by intros;rfl):sX x q st [a,b,c]:=fun _ _ _ _ _ _ us aH=>by
 rcases us with _|⟨_,_|⟨_,_|⟨_,_|⟨_,_⟩⟩⟩⟩<;>first|exact h .. |cases aH
structure lx(K:bH)(x:af)(C:ah):Prop where
 a:e8 K d3 x=J (J (.ref C))
 cl:h8 K C
 xh:xV K C=au
 xd:oO K (.ref C)=au
theorem cpMk{K:bH}{C:ah}(a:e8 K d3 x=J (J (.ref C)))(da:A4 K C af.empty=au)(cm:F7 K C=au)(X3:PySem.W.plainOver K C=au)(X4:gc K (.ref C) "__setattr__"=J (J (.builtin "object.__setattr__")))(X5:xV K C=au)(X6:oO K (.ref C)=au):lx K x C:=⟨a,⟨da,cm,X3,X4⟩,X5,X6⟩
def ey(K:bH)(C:ah)(x q:af)(st:bG):Prop:=∃f fd,dV K x q st f fd/\tB K C x f
def e9(K:bH)(x:af)(st:bG):Prop:=∃f fd,dV K x x st f fd/\e8 K d3 x=J (J (.ref f))
theorem mpMk{K:bH}{C f:ah}{st:bG}{gq:al}(a:gc K (.ref C) x=J (J (.ref f)))(i:F8 K (.ref f)=au)(l:K.lookup f=J ⟨h2,od,.func (nN x q (oc st) (jF st) (b4 st) .none gq doc pm an bD ct),lW⟩)(c:A3 K bD q=au)(k:oO K (.ref f)=au):ey K C x q st:=⟨f,_,Jc l c k,a,i,k⟩
theorem fpMk{K:bH}{f:ah}{st:bG}{gq:al}(a:e8 K d3 x=J (J (.ref f)))(l:K.lookup f=J ⟨h2,od,.func (nN x x (oc st) (jF st) (b4 st) .none gq doc pm an bD ct),lW⟩)(c:A3 K bD x=au)(k:oO K (.ref f)=au):e9 K x st:=⟨f,_,Jc l c k,a⟩
theorem ey.at{K:bH}{C:ah}{st:bG}(p:ey K C x q st)(cl:h8 K C)(b:sX x q st aI):MethAt K C x q st aI:=by
 obtain⟨f,fd,F,m⟩:=p
 exact⟨⟨f,fd,F,F.binds b,m⟩,cl⟩
theorem e9.at{K:bH}{st:bG}{mg:af->Option al}(X:K.In h)(G:h.Ns d3 mg)(p:e9 K x st)(b:sX x x st aI):∃f fd,ed K mg x st aI f fd:=by
 obtain⟨f,fd,F,a⟩:=p
 exact⟨f,fd,F,F.binds b,fZ X G a⟩
theorem ey.mk{C:ah}{st:bG}{sp:cT}(p:ey K C "__init__" q st)(c:lx K x C)(m:mg x=J (.ref C))(b:sX "__init__" q st aI)(h:∀f fd,dV K "__init__" q st f fd->di P w K mg base eb k f fd aI sp):jX P w K mg base k x C aI sp:=by
 obtain⟨f,fd,F,jN⟩:=p
 exact⟨f,fd,⟨c.xh,jN.at_,jN.fn,c.xd⟩,h f fd F,F.binds b,m⟩
set_option maxHeartbeats 16000000 in
theorem Zxo{w:cD}{K:bH}{mg:af->Option al}(X:K.In h)(G:h.Ns d3 mg)(VE:mg "law"=J (.ref fa))
  {p5 p6 p7 p4 nQ mO oS oR oT nP nO hp vt vv vo vp vq vr vm vu vn:ah} {aav:Tok} {aau:Tok} {aax:Tok} {aat:Tok} {aay:Tok} {aaw:Tok} {aas:Tok} {aaz:Tok} {aar:Tok}
  (uS:lx K "Nothing" p5)
  (uV:lx K "Truth" p6)
  (uX:lx K "Whole" p7)
  (uP:lx K "Fraction" p4)
  (uU:lx K "Span" nQ)
  (sv:lx K "Letters" mO)
  (uR:lx K "Maybe" oS)
  (uQ:lx K "Many" oR)
  (uW:lx K "Turned" oT)
  (uT:lx K "Record" nP)
  (uO:lx K "Choice" nO)
  (TC:e8 K d3 "RiseError"=J (J (.ref jV)))
  (Tx:e8 K d3 "NoFit"=J (J (.ref hp)))
  (TF:e8 K d3 "Short"=J (J (.ref vt)))
  (TH:e8 K d3 "Wrong"=J (J (.ref vv)))
  (Tw:e8 K d3 "Left"=J (J (.ref vo)))
  (Tz:e8 K d3 "NoForm"=J (J (.ref vp)))
  (TA:e8 K d3 "NoText"=J (J (.ref vq)))
  (TB:e8 K d3 "NotAhead"=J (J (.ref vr)))
  (Tu:e8 K d3 "BadPage"=J (J (.ref vm)))
  (TG:e8 K d3 "Twice"=J (J (.ref vu)))
  (Tv:e8 K d3 "Lacking"=J (J (.ref vn)))
  (WJ:gc K (.ref p5) "__init__"=J (J (.builtin "object.__init__")))
  (YB:ey K p5 "fits" "Nothing.fits" yc)
  (YD:ey K p5 "written" "Nothing.written" yL)
  (YC:ey K p5 "row" "Form.row" j0)
  (WK:gc K (.ref p6) "__init__"=J (J (.builtin "object.__init__")))
  (YM:ey K p6 "fits" "Truth.fits" yk)
  (YO:ey K p6 "written" "Truth.written" yG)
  (YN:ey K p6 "row" "Form.row" j0)
  (WL:gc K (.ref p7) "__init__"=J (J (.builtin "object.__init__")))
  (YT:ey K p7 "fits" "Whole.fits" yj)
  (YV:ey K p7 "written" "Whole.written" yF)
  (YU:ey K p7 "row" "Form.row" j0)
  (WI:gc K (.ref p4) "__init__"=J (J (.builtin "object.__init__")))
  (Yl:ey K p4 "fits" "Fraction.fits" yI)
  (Yn:ey K p4 "written" "Fraction.written" yJ)
  (Ym:ey K p4 "row" "Form.row" j0)
  (XJ:gc K (.ref nQ) "low"=J aw)
  (XI:gc K (.ref nQ) "high"=J aw)
  (YJ:ey K nQ "__init__" "Span.__init__" Cd)
  (YI:ey K nQ "fits" "Span.fits" yr)
  (YL:ey K nQ "written" "Span.written" yb)
  (YK:ey K nQ "row" "Form.row" j0)
  (XD:gc K (.ref mO) "signs"=J aw)
  (Yp:ey K mO "__init__" "Letters.__init__" BG)
  (Yo:ey K mO "fits" "Letters.fits" ye)
  (Ys:ey K mO "written" "Letters.written" yM)
  (Yq:ey K mO "places" "Letters.places" yD)
  (Yr:ey K mO "row" "Form.row" j0)
  (XF:gc K (.ref oS) "inner"=J aw)
  (Yy:ey K oS "__init__" "Maybe.__init__" B3)
  (Yx:ey K oS "fits" "Maybe.fits" yl)
  (YA:ey K oS "written" "Maybe.written" yH)
  (Yz:ey K oS "row" "Form.row" j0)
  (XE:gc K (.ref oR) "inner"=J aw)
  (Yu:ey K oR "__init__" "Many.__init__" Ce)
  (Yt:ey K oR "fits" "Many.fits" ys)
  (Yw:ey K oR "written" "Many.written" yd)
  (Yv:ey K oR "row" "Form.row" j0)
  (XK:gc K (.ref oT) "inner"=J aw)
  (YQ:ey K oT "__init__" "Turned.__init__" BW)
  (YP:ey K oT "fits" "Turned.fits" yf)
  (YS:ey K oT "written" "Turned.written" yB)
  (YR:ey K oT "row" "Form.row" j0)
  (XH:gc K (.ref nP) "names"=J aw)
  (XG:gc K (.ref nP) "forms"=J aw)
  (YF:ey K nP "__init__" "Record.__init__" BX)
  (YE:ey K nP "fits" "Record.fits" yg)
  (YH:ey K nP "written" "Record.written" yC)
  (YG:ey K nP "row" "Form.row" j0)
  (XC:gc K (.ref nO) "names"=J aw)
  (XB:gc K (.ref nO) "forms"=J aw)
  (Yi:ey K nO "__init__" "Choice.__init__" BY)
  (Yh:ey K nO "fits" "Choice.fits" yh)
  (Yk:ey K nO "written" "Choice.written" yE)
  (Yj:ey K nO "row" "Form.row" j0)
  (xT:PySem.W.excIn K hp rE "ValueError.__new__"=au)
  (W7:fD K (.ref hp) (.ref vt)=J ay)
  (Xa:fD K (.ref hp) (.ref vv)=J ay)
  (W3:fD K (.ref hp) (.ref vo)=J ay)
  (W4:fD K (.ref hp) (.ref vp)=J ay)
  (W5:fD K (.ref hp) (.ref vq)=J ay)
  (W6:fD K (.ref hp) (.ref vr)=J ay)
  (W0:fD K (.ref hp) (.ref vm)=J ay)
  (W8:fD K (.ref hp) (.ref vu)=J ay)
  (W2:fD K (.ref hp) (.ref vn)=J ay)
  (W9:fD K (.ref hp) (.type "ValueError")=J au)
  (aaW:gc K (.ref jV) "__getattribute__"=J (J (.builtin "BaseException.__getattribute__")))
  (aaY:gc K (.ref jV) "__getattr__"=J aw)
  (aaU:gc K (.ref jV) "__class__"=J (J (.builtin "object.__class__")))
  (aa2:vi K jV (.type "object")=J au)
  (aaR:vi K jV (.type "BaseException")=J au)
  (aa0:PySem.W.isClsIn K jV=au)
  (MN:PySem.W.specialIn K (.builtin "object.__class__") "__get__"=J (J (.builtin "getset_descriptor.__get__")))
  (MO:PySem.W.takesIn K (.builtin "object.__class__")=J au)
  (F4:Ga K (.ref jV)=J (.type "type"))
  (aaV:gc K (.ref hp) "__getattribute__"=J (J (.builtin "BaseException.__getattribute__")))
  (aaX:gc K (.ref hp) "__getattr__"=J aw)
  (aaT:gc K (.ref hp) "__class__"=J (J (.builtin "object.__class__")))
  (aa1:vi K hp (.type "object")=J au)
  (aaQ:vi K hp (.type "BaseException")=J au)
  (aaZ:PySem.W.isClsIn K hp=au)
  (acF:Ga K (.ref hp)=J (.type "type"))
  (Xx:vi K hp (.ref jV)=J au)
  (Zu:e9 K "turned_row" B0)
  (Zp:e9 K "lower_digits" BE)
  (Y1:e9 K "is_count" Ck)
  (Y0:e9 K "has_whole_row" Wp)
  (YX:e9 K "count_row" Cc)
  (Zv:e9 K "whole_row" B4)
  (YY:e9 K "fixed_row" Cb)
  (Zt:e9 K "steps_of" Cf)
  (YW:e9 K "common_divisor" Bu)
  (Y2:e9 K "is_fraction" BI)
  (YZ:e9 K "has_fraction_row" BS)
  (Zs:e9 K "row_of_steps" BD)
  (Y4:e9 K "is_number" Ca)
  (Zq:e9 K "made_of" Cs)
  (Y3:e9 K "is_name" Ct)
  (Zr:e9 K "names_of" Cg)
  (Zj:e9 K "_law_pool" Ch)
  (Zi:e9 K "_law_next" Ci)
  (Zm:e9 K "_law_signs" B5)
  (Zg:e9 K "_law_names" B6)
  (Zn:e9 K "_law_simple" B1)
  (Zb:e9 K "_law_form" yQ)
  (Zf:e9 K "_law_made" yP)
  (Zh:e9 K "_law_near" Cj)
  (Zl:e9 K "_law_signed" B2)
  (Zc:e9 K "_law_fraction" BF)
  (Zo:e9 K "_law_value" yq)
  (Y9:e9 K "_law_drawn" B8)
  (Ze:e9 K "_law_kinds" B7)
  (Zk:e9 K "_law_same" yO)
  (Y6:e9 K "_law_any" yX)
  (Y8:e9 K "_law_bent" yS)
  (Zd:e9 K "_law_is_fraction" Bt)
  (Za:e9 K "_law_fits" yR)
  (Y7:e9 K "_law_asked" B9)
  (Y5:e9 K "law" C7)
  (abj:e8 K d3 "len"=J aw)
  (abn:e8 K d3 "range"=J aw)
  (abh:e8 K d3 "int"=J aw)
  (abq:e8 K d3 "str"=J aw)
  (abf:e8 K d3 "bool"=J aw)
  (abr:e8 K d3 "tuple"=J aw)
  (abi:e8 K d3 "isinstance"=J aw)
  (abm:e8 K d3 "min"=J aw)
  (abl:e8 K d3 "max"=J aw)
  (abk:e8 K d3 "list"=J aw)
  (abe:e8 K d3 "all"=J aw)
  (abo:e8 K d3 "reversed"=J aw)
  (abg:e8 K d3 "enumerate"=J aw)
  (abt:e8 K d3 "zip"=J aw)
  (abp:e8 K d3 "set"=J aw)
  (abd:e8 K d3 "abs"=J aw)
  (abc:e8 K d3 "ValueError"=J aw)
  (UH:e8 K d3 "MOST_DIGITS"=J (J (.int 255 aav)))
  (UG:e8 K d3 "MOST_AHEAD"=J (J (.int 7 aau)))
  (UJ:e8 K d3 "MOST_SIGNS"=J (J (.int 60 aax)))
  (UE:e8 K d3 "LONGEST_TEXT"=J (J (.int 200 aat)))
  (UK:e8 K d3 "MOST_VALUES"=J (J (.int 60 aay)))
  (UI:e8 K d3 "MOST_PARTS"=J (J (.int 20 aaw)))
  (UD:e8 K d3 "LONGEST_NAME"=J (J (.int 12 aas)))
  (UL:e8 K d3 "SMALL_LETTERS"=J (J (.str "abcdefghijklmnopqrstuvwxyz" aaz)))
  (UC:e8 K d3 "LETTERS_AND_FIGURES"=J (J (.str "abcdefghijklmnopqrstuvwxyzABCDEFGHIJKLMNOPQRSTUVWXYZ0123456789" aar)))
  : ∃fd:hB,(∀(s:aJ)(v:al),BindsTo s fd ⟨[v],[]⟩ [("_law_script",v)])/\∀base:bb,K.In base->base.Ns d3 mg->di l.prog w K mg base eb 23 fa fd ["_law_script"] (AD K):=by
 obtain⟨_,fd,Gn,TI⟩:=Y5
 have e:=VE.symm.trans (fZ X G TI)
 cases e
 have Dr:=Gn.ex
 have uH:=fZ X G uS.a
 have uI:=fZ X G uV.a
 have uJ:=fZ X G uX.a
 have uG:=fZ X G uP.a
 have Xs:=fZ X G uU.a
 have Xo:=fZ X G sv.a
 have Xq:=fZ X G uR.a
 have Xp:=fZ X G uQ.a
 have Xt:=fZ X G uW.a
 have Xr:=fZ X G uT.a
 have Xn:=fZ X G uO.a
 have zC:=fZ X G TC
 have abV:eT mg "RiseError" (.ref jV):=⟨_,zC,rfl⟩
 have ug:=fZ X G Tx
 have DP:eT mg "NoFit" (.ref hp):=⟨_,ug,rfl⟩
 have UX:=fZ X G TF
 have DT:eT mg "Short" (.ref vt):=⟨_,UX,rfl⟩
 have UZ:=fZ X G TH
 have DV:eT mg "Wrong" (.ref vv):=⟨_,UZ,rfl⟩
 have US:=fZ X G Tw
 have DO:eT mg "Left" (.ref vo):=⟨_,US,rfl⟩
 have UT:=fZ X G Tz
 have DQ:eT mg "NoForm" (.ref vp):=⟨_,UT,rfl⟩
 have UU:=fZ X G TA
 have DR:eT mg "NoText" (.ref vq):=⟨_,UU,rfl⟩
 have UW:=fZ X G TB
 have DS:eT mg "NotAhead" (.ref vr):=⟨_,UW,rfl⟩
 have UQ:=fZ X G Tu
 have DM:eT mg "BadPage" (.ref vm):=⟨_,UQ,rfl⟩
 have UY:=fZ X G TG
 have DU:eT mg "Twice" (.ref vu):=⟨_,UY,rfl⟩
 have UR:=fZ X G Tv
 have DN:eT mg "Lacking" (.ref vn):=⟨_,UR,rfl⟩
 have tm:kJ K p5:=⟨uS.xh,WJ,uS.xd⟩
 have tn:kJ K p6:=⟨uV.xh,WK,uV.xd⟩
 have tp:kJ K p7:=⟨uX.xh,WL,uX.xd⟩
 have tl:kJ K p4:=⟨uP.xh,WI,uP.xd⟩
 have aak:MethAt K mO "places" "Letters.places" yD ["self","text"]:=Yq.at sv.cl dP
 have F3:ExcC K jV:=⟨aaW,aaY,aaU,aa2,aaR,aa0,MN,MO⟩
 have aaS:ExcC K hp:=⟨aaV,aaX,aaT,aa1,aaQ,aaZ,MN,MO⟩
 obtain⟨_,_,Ny⟩:=Zu.at X G iC
 obtain⟨_,_,Nt⟩:=Zp.at X G dP
 obtain⟨_,_,M3⟩:=Y1.at X G iC
 obtain⟨_,_,Gm⟩:=Y0.at X G iC
 obtain⟨_,_,MZ⟩:=YX.at X G iC
 obtain⟨_,_,Nz⟩:=Zv.at X G iC
 obtain⟨_,_,M0⟩:=YY.at X G dP
 obtain⟨_,_,Nx⟩:=Zt.at X G iC
 obtain⟨_,_,MY⟩:=YW.at X G dP
 obtain⟨_,_,M4⟩:=Y2.at X G iC
 obtain⟨_,_,M1⟩:=YZ.at X G iC
 obtain⟨_,_,Nw⟩:=Zs.at X G iC
 obtain⟨_,_,M6⟩:=Y4.at X G iC
 obtain⟨_,_,Nu⟩:=Zq.at X G dP
 obtain⟨_,_,M5⟩:=Y3.at X G iC
 obtain⟨_,_,Nv⟩:=Zr.at X G iC
 obtain⟨_,_,Nl⟩:=Zj.at X G iC
 obtain⟨_,_,Nk⟩:=Zi.at X G iC
 obtain⟨_,_,Np⟩:=Zm.at X G iC
 obtain⟨_,_,Ni⟩:=Zg.at X G dP
 obtain⟨_,_,Nq⟩:=Zn.at X G dP
 obtain⟨_,_,Nc⟩:=Zb.at X G dP
 obtain⟨_,_,Nh⟩:=Zf.at X G iC
 obtain⟨_,_,Nj⟩:=Zh.at X G iC
 obtain⟨_,_,Nn⟩:=Zl.at X G iC
 obtain⟨_,_,Nd⟩:=Zc.at X G dP
 obtain⟨_,_,Nr⟩:=Zo.at X G dP
 obtain⟨_,_,Na⟩:=Y9.at X G iC
 obtain⟨_,_,Ng⟩:=Ze.at X G iC
 obtain⟨_,_,Nm⟩:=Zk.at X G dP
 obtain⟨_,_,M7⟩:=Y6.at X G dP
 obtain⟨_,_,M9⟩:=Y8.at X G dP
 obtain⟨_,_,Nf⟩:=Zd.at X G iC
 obtain⟨_,_,Nb⟩:=Za.at X G dP
 obtain⟨_,_,M8⟩:=Y7.at X G dP
 have nb:et mg:=⟨jD X G abj,jD X G abn,jD X G abh,jD X G abq,jD X G abf,jD X G abr,jD X G abi,jD X G abm,jD X G abl,jD X G abk,jD X G abe,jD X G abo,jD X G abg,jD X G abt,jD X G abp,jD X G abd⟩
 have Fj:=jD X G abc
 have DI:eT mg "MOST_DIGITS" (.int 255):=⟨_,fZ X G UH,⟨_,rfl⟩⟩
 have DH:eT mg "MOST_AHEAD" (.int 7):=⟨_,fZ X G UG,⟨_,rfl⟩⟩
 have DK:eT mg "MOST_SIGNS" (.int 60):=⟨_,fZ X G UJ,⟨_,rfl⟩⟩
 have wy:eT mg "LONGEST_TEXT" (.int 200):=⟨_,fZ X G UE,⟨_,rfl⟩⟩
 have wz:eT mg "MOST_VALUES" (.int 60):=⟨_,fZ X G UK,⟨_,rfl⟩⟩
 have DJ:eT mg "MOST_PARTS" (.int 20):=⟨_,fZ X G UI,⟨_,rfl⟩⟩
 have DG:eT mg "LONGEST_NAME" (.int 12):=⟨_,fZ X G UD,⟨_,rfl⟩⟩
 have DL:eT mg "SMALL_LETTERS" (.str ji):=⟨_,fZ X G UL,⟨_,rfl⟩⟩
 have DF:eT mg "LETTERS_AND_FIGURES" (.str nS):=⟨_,fZ X G UC,⟨_,rfl⟩⟩
 refine⟨fd,fun s v=>?_,fun base _ _=>?_⟩
 ·obtain⟨_,_,_,_,_,_,_,_,_,rfl,_⟩:=Dr
  exact .of_eq I
 have mT:=O7 (P:=l.prog) (w:=w) (base:=base) Ny
 have q5:=OB (P:=l.prog) (w:=w) (base:=base) nb Nt
 have mQ:=PC M0 q5
 have l7:=P4 (P:=l.prog) (w:=w) (base:=base) DI M3
 have q2:=Oj Gm l7
 have MX:=N6 Gm l7
 have q1:=PD DH MZ l7 q5
 have p9:=Pu Nz q1 mT
 have p8:=PX (P:=l.prog) (w:=w) (base:=base) Nx
 have Bc:=N7 (P:=l.prog) (w:=w) (base:=base) MY
 have Bd:=OU M4 Bc
 have vw:=NX nb M1 Bd p8 q2 l7
 have vA:=OA nb Nw p9 q1 mT
 have l8:=Pc (P:=l.prog) (w:=w) (base:=base) nb M6
 have mS:=Qq (P:=l.prog) (w:=w) (base:=base) nb Nu
 have Be:=Qr nb DG DL M5 mS
 have s9:=PZ nb DJ Nv Be
 have eG:vK K nQ:=⟨uU.cl,XJ,XI⟩
 have BM:tj K mO:=⟨sv.cl,XD⟩
 have NT:o3 K nP:=⟨uT.cl,XH,XG⟩
 have NR:o3 K nO:=⟨uO.cl,XC,XB⟩
 have NS:lA K oS:=⟨uR.cl,XF⟩
 have NU:lA K oR:=⟨uQ.cl,XE⟩
 have gH:lA K oT:=⟨uW.cl,XK⟩
 have tx:=YJ.mk (P:=l.prog) (w:=w) (base:=base) uU Xs (TO fun _ _ _ _ _ _ _ _ _=>rfl) fun _ _ G=>Pw eG G
 have ts:=Yp.mk (P:=l.prog) (w:=w) (base:=base) sv Xo (dP fun _ _ _ _ _ _ _ _=>rfl) fun _ _ G=>P0 nb DK DF BM G mS
 have tw:=YF.mk (P:=l.prog) (w:=w) (base:=base) uT Xr (dP fun _ _ _ _ _ _ _ _=>rfl) fun _ _ G=>PY nb NT G s9
 have tr:=Yi.mk (P:=l.prog) (w:=w) (base:=base) uO Xn (dP fun _ _ _ _ _ _ _ _=>rfl) fun _ _ G=>P5 nb NR G s9
 have tv:=Yy.mk (P:=l.prog) (w:=w) (base:=base) uR Xq (dP fun _ _ _ _ _ _ _ _=>rfl) fun _ _ G=>O8 NS G
 have tu:=Yu.mk (P:=l.prog) (w:=w) (base:=base) uQ Xp (dP fun _ _ _ _ _ _ _ _=>rfl) fun _ _ G=>Px NU G
 have tA:=YQ.mk (P:=l.prog) (w:=w) (base:=base) uW Xt (dP fun _ _ _ _ _ _ _ _=>rfl) fun _ _ G=>OS gH G
 obtain⟨c,hc⟩:∃c:fX,c=⟨fun k=>[p5,p6,p7,p4][k],nQ,mO,fun k=>[oS,oR,oT][k],fun k=>[nP,nO][k]⟩:=⟨_,rfl⟩
 have T9:c.b 0=p5:=by rw[hc];rfl
 have Uc:c.b 1=p6:=by rw[hc];rfl
 have Ue:c.b 2=p7:=by rw[hc];rfl
 have T5:c.b 3=p4:=by rw[hc];rfl
 have Ub:c.s=nQ:=by rw[hc]
 have T6:c.l=mO:=by rw[hc]
 have T8:c.o 0=oS:=by rw[hc];rfl
 have T7:c.o 1=oR:=by rw[hc];rfl
 have Ud:c.o 2=oT:=by rw[hc];rfl
 have Ua:c.t 0=nP:=by rw[hc];rfl
 have T4:c.t 1=nO:=by rw[hc];rfl
 clear hc
 subst T9
 subst Uc
 subst Ue
 subst T5
 subst Ub
 subst T6
 subst T8
 subst T7
 subst Ud
 subst Ua
 subst T4
 have G1:BO K c:=⟨eG,BM,fun k=>by rcases og k with rfl|rfl|rfl<;>assumption,fun k=>by rcases rM k with rfl|rfl<;>assumption⟩
 have NO:tE K c "fits" C3 C5 ["self","value"]:=v7 (p:=fun i=>MethAt K (g5 c i) "fits" (C3 i) (C5 i) ["self","value"]) (YB.at uS.cl dP) (YM.at uV.cl dP) (YT.at uX.cl dP) (Yl.at uP.cl dP) (YI.at uU.cl dP) (Yo.at sv.cl dP) (Yx.at uR.cl dP) (Yt.at uQ.cl dP) (YP.at uW.cl dP) (YE.at uT.cl dP) (Yh.at uO.cl dP)
 have NQ:tE K c "written" Cu Cz ["self","value"]:=v7 (p:=fun i=>MethAt K (g5 c i) "written" (Cu i) (Cz i) ["self","value"]) (YD.at uS.cl dP) (YO.at uV.cl dP) (YV.at uX.cl dP) (Yn.at uP.cl dP) (YL.at uU.cl dP) (Ys.at sv.cl dP) (YA.at uR.cl dP) (Yw.at uQ.cl dP) (YS.at uW.cl dP) (YH.at uT.cl dP) (Yk.at uO.cl dP)
 have NP:tE K c "row" (fun _=>"Form.row") (fun _=>j0) ["self","value"]:=v7 (p:=fun i=>MethAt K (g5 c i) "row" ("Form.row") (j0) ["self","value"]) (YC.at uS.cl dP) (YN.at uV.cl dP) (YU.at uX.cl dP) (Ym.at uP.cl dP) (YK.at uU.cl dP) (Yr.at sv.cl dP) (Yz.at uR.cl dP) (Yv.at uQ.cl dP) (YR.at uW.cl dP) (YG.at uT.cl dP) (Yj.at uO.cl dP)
 have vH:=(hV (P:=l.prog) (w:=w) (mg:=mg) (base:=base) aak fun _ _ G=>Ob BM G).1
 have iX:=Rd (P:=l.prog) (w:=w) (base:=base) nb G1 NO wz wy l8 MX mS vw 8
 have kg:=Qc nb G1 NQ vH p9 mQ mT p8 vA 8
 have A6:=RV xT ug NP iX kg
 have x4:=P1 (P:=l.prog) (w:=w) (base:=base) nb Nl
 have fP:=Pz (P:=l.prog) (w:=w) (base:=base) nb Nk
 have Bh:=Py (P:=l.prog) (w:=w) (base:=base) nb Np
 have s7:=PA (P:=l.prog) (w:=w) (base:=base) nb Ni
 have s8:=O9 Nq fP Bh
 have s4:=Ha nb Nc fP s7 s8 8
 have oU:=G9 nb Nh tm uH tn uI tp uJ tl uG tx ts tw tr tv tu tA 8
 have x3:=P2 (P:=l.prog) (w:=w) (base:=base) nb Nj
 have q4:=Pa Nn x3
 have s5:=OC (P:=l.prog) (w:=w) (base:=base) nb Nd
 have NM:GL mg ⟨hp,vt,vv,vo,vp,vq,vr,vm,vu,vn⟩:=⟨DP,DT,DV,DO,DQ,DR,DS,DM,DU,DN⟩
 have Fb:Bx K ⟨hp,vt,vv,vo,vp,vq,vr,vm,vu,vn⟩ hp ub:=⟨aaS,_,_,_,_,_,_,_,_,_,_,rfl,Ii ..,W7,Xa,W3,W4,W5,W6,W0,W8,W2,W9⟩
 have Bg:=Pb (P:=l.prog) (w:=w) (base:=base) nb Fj NM Ng
 have mR:=G7 nb Nr fP q4 s5 8
 have vy:=PB Na fP s4
 have vz:=Hg (P:=l.prog) (w:=w) (base:=base) nb Nm 9
 have s3:=Hs nb M7 fP 3
 have vx:=Hi nb M9 fP 9
 have s6:=N0 (P:=l.prog) (w:=w) (base:=base) nb Nf
 have q3:=Hh nb Nb s6 8
 have Bf:=OT zC F3 F4 Xx M8 A6
 exact Rw nb Gn Fb x4 vy oU mR vx s3 q3 iX Bf Bg vz
theorem walk{q:cW}{d:DefRec}{K:Params->bH}(bf:l.most=J 63)(wK:d.params.defaults=[])
  (Ec:∀(w:cD)(h:bb),qn w h->(K w.params).In h)
  (F:∀(w:cD)(mg:af->Option al)(fa:ah)(h:bb),(K w.params).In h->h.Ns d3 mg->mg d.name=J (.ref fa)->
   ∃fd:hB,(∀(s:aJ)(u:al),BindsTo s fd ⟨[u],[]⟩ [("_law_script",u)])/\∀base:bb,(K w.params).In base->base.Ns d3 mg->di l.prog w (K w.params) mg base eb 23 fa fd ["_law_script"] (AD (K w.params))) :
  PySem.W.WalkO q loose tP qn l.row.toRowW d [] (fun f vs=>PySem.call f vs) :=
 cM.R2 (n:=63) (k:=23) (x:="_law_script") (CX:=fun _=>eb) (sp:=fun w=>AD (K w.params)) bf (by decide) wK ⟨rfl,by decide,by decide⟩ Ec F (fun _ _ a ns aH _ fu=>⟨a,ns,rfl,fu,aH,fun _=>rfl⟩) fun _ _ _ _ _ z=>z
end
end KR
end
open PySem PySem.W PyProof.Rows
set_option maxRecDepth 100000 in
set_option maxHeartbeats 0 in
theorem PySem.Challenge.cw_keyrise_k21_fits_holds : PySem.Challenge.rw_keyrise_k21_fits.Holds := by
 refine KR.GG.2 ?_
 delta KR.GG
 dsimp only
 k_fill
 refine KR.walk (l:=PySem.Challenge.rw_keyrise_k21_fits) rfl rfl (fun w h Y=>PySem.W.kIn_of Y) ?F
 case F =>
  intro w mg fa h KX G hmg
  refine' KR.Zxo KX G hmg ?a0 ?a1 ?a2 ?a3 ?a4 ?a5 ?a6 ?a7 ?a8 ?a9 ?a10 ?a11 ?a12 ?a13 ?a14 ?a15 ?a16 ?a17 ?a18 ?a19 ?a20 ?a21 ?a22 ?a23 ?a24 ?a25 ?a26 ?a27 ?a28 ?a29 ?a30 ?a31 ?a32 ?a33 ?a34 ?a35 ?a36 ?a37 ?a38 ?a39 ?a40 ?a41 ?a42 ?a43 ?a44 ?a45 ?a46 ?a47 ?a48 ?a49 ?a50 ?a51 ?a52 ?a53 ?a54 ?a55 ?a56 ?a57 ?a58 ?a59 ?a60 ?a61 ?a62 ?a63 ?a64 ?a65 ?a66 ?a67 ?a68 ?a69 ?a70 ?a71 ?a72 ?a73 ?a74 ?a75 ?a76 ?a77 ?a78 ?a79 ?a80 ?a81 ?a82 ?a83 ?a84 ?a85 ?a86 ?a87 ?a88 ?a89 ?a90 ?a91 ?a92 ?a93 ?a94 ?a95 ?a96 ?a97 ?a98 ?a99 ?a100 ?a101 ?a102 ?a103 ?a104 ?a105 ?a106 ?a107 ?a108 ?a109 ?a110 ?a111 ?a112 ?a113 ?a114 ?a115 ?a116 ?a117 ?a118 ?a119 ?a120 ?a121 ?a122 ?a123 ?a124 ?a125 ?a126 ?a127 ?a128 ?a129 ?a130 ?a131 ?a132 ?a133 ?a134 ?a135 ?a136 ?a137 ?a138 ?a139 ?a140 ?a141 ?a142 ?a143 ?a144 ?a145 ?a146 ?a147 ?a148 ?a149 ?a150 ?a151 ?a152 ?a153 ?a154 ?a155 ?a156 ?a157 ?a158 ?a159 ?a160 ?a161 ?a162 ?a163 ?a164 ?a165 ?a166
  (case a0 | a1 | a2 | a3 | a4 | a5 | a6 | a7 | a8 | a9 | a10=>apply KR.cpMk<;>k_is)
  (case a11 | a12 | a13 | a14 | a15 | a16 | a17 | a18 | a19 | a20 | a21 | a22=>k_is)
  (case a23 | a24 | a25=>apply KR.mpMk<;>k_is)
  (case a26=>k_is)
  (case a27 | a28 | a29=>apply KR.mpMk<;>k_is)
  (case a30=>k_is)
  (case a31 | a32 | a33=>apply KR.mpMk<;>k_is)
  (case a34=>k_is)
  (case a35 | a36 | a37=>apply KR.mpMk<;>k_is)
  (case a38 | a39=>k_is)
  (case a40 | a41 | a42 | a43=>apply KR.mpMk<;>k_is)
  (case a44=>k_is)
  (case a45 | a46 | a47 | a48 | a49=>apply KR.mpMk<;>k_is)
  (case a50=>k_is)
  (case a51 | a52 | a53 | a54=>apply KR.mpMk<;>k_is)
  (case a55=>k_is)
  (case a56 | a57 | a58 | a59=>apply KR.mpMk<;>k_is)
  (case a60=>k_is)
  (case a61 | a62 | a63 | a64=>apply KR.mpMk<;>k_is)
  (case a65 | a66=>k_is)
  (case a67 | a68 | a69 | a70=>apply KR.mpMk<;>k_is)
  (case a71 | a72=>k_is)
  (case a73 | a74 | a75 | a76=>apply KR.mpMk<;>k_is)
  (case a77=>k_exc)
  (case a78 | a79 | a80 | a81 | a82 | a83 | a84 | a85 | a86 | a87=>kit_is)
  (case a88 | a89 | a90 | a91 | a92 | a93 | a94 | a95 | a96 | a97 | a98 | a99 | a100 | a101 | a102 | a103 | a104=>k_is)
  (case a105 | a106 | a107 | a108 | a109 | a110 | a111 | a112 | a113 | a114 | a115 | a116 | a117 | a118 | a119 | a120 | a121 | a122 | a123 | a124 | a125 | a126 | a127 | a128 | a129 | a130 | a131 | a132 | a133 | a134 | a135 | a136 | a137 | a138 | a139 | a140=>apply KR.fpMk<;>k_is)
  (case a141 | a142 | a143 | a144 | a145 | a146 | a147 | a148 | a149 | a150 | a151 | a152 | a153 | a154 | a155 | a156 | a157 | a158 | a159 | a160 | a161 | a162 | a163 | a164 | a165 | a166=>k_is)
