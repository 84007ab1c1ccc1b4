import PyProof.Rows.All
import Wide.Line
import Wide.Once
import Wide.FinOn
import OpenK.KLine
import OpenK.KOwn
import Open.Pieces
import KE.RegKIsAll
import KE.KIntText
import KE.KFromBytes
import KE.KItem
import KE.KxBytes
import KE.KRevIter
import KE.KUnpack
import KE.KIsAll
import KE.BitLaws
import PyProof.EqAt
import PyProof.EqKinds
import PyProof.TupleCall
import PyProof.Rows.SortStr
import PySem.Challenge.RW_keyrise_k73_refused_values
set_option Elab.async false
set_option compiler.extract_closed false
set_option linter.all false
section KRGG
namespace PySem.W.Fast
abbrev N:=Nat
def tw9060691092404425886:=N
def tw7347029497692464434:=N
def tw4377796739810814904:=N
def tw4842046402587597418:=N
def tw8143245760387306573:=N
def tw13003861499783253248:=N
def tw12176634488416654693:=N
def tw15221356573953635632:=N
def tw4210279587345264495:=N
def tw7740457478382488547:=N
def tw11375397204414390104:=N
def tw13001729193155990022:=N
def tw3468280096674682527:=N
def tw4982380842031824420:=N
def tw9752715208664976440:=N
def tw16756160407241000680:=N
def tw15167037725776151354:=N
def tw17527709794185761711:=N
def tw4727687788402744362:=N
def tw2748281033721510175:=N
def tw15632092000759084696:=N
def tw4080867525882056291:=N
def tw1100888106301612729:=N
def tw15169478245819152308:=N
def tw12338731306399610732:=N
def tw4491618654965065638:=N
def tw16152597676742336084:=N
def tw5648489958724953144:=N
def tw15533998144886071929:=N
def tw12582712669163675217:=N
def tw11181704950555187462:=N
def tw8667270058508895643:=N
def tw8776824803471081383:=N
def tw16147437075745093082:=N
def tw363084935823045115:=N
def tw15910941506268454745:=N
def tw10589895672166167321:=N
def tw5978751950395429814:=N
def tw17464368548865840442:=N
def tw2767560431810904921:=N
def tw17419498919005568336:=N
def tw10523096160501485240:=N
def tw7932079643575695470:=N
def tw9266806322183982389:=N
def tw4662783460083576117:=N
def tw12295976438304774567:=N
def tw1626862263513390308:=N
def tw59811380343621150:=N
def tw3967614042749497994:=N
def tw3151220729681740994:=N
def tw10459804482560722591:=N
def tw17120498824481485391:=N
def tw17607120464655951754:=N
def tw6390948533421927175:=N
def tw13028857157572905579:=N
def tw16484119908903571367:=N
def tw156149520175217139:=N
def tw7284162543557964647:=N
def tw2168364763308362422:=N
def tw1134655106439458485:=N
def tw13876088278780356385:=N
def tw6860461710019951264:=N
def tw17616338392604889931:=N
def tw8388922687962770720:=N
def tw67406586872617160:=N
def tw11550287128774932125:=N
def tw16952133794870281701:=N
def tw2612798139559752852:=N
def tw3798184086160737800:=N
def tw18446714602270003655:=N
def tw17727182371947804315:=N
def tw5619161020702665785:=N
def tw9648316306815926608:=N
def tw13955634912675928384:=N
def tw16425126262301598627:=N
def tw4576315731270293460:=N
def tw13588645552305048559:=N
def tw10442144552470483292:=N
def tw7318715738153841418:=N
def tw910581422850064623:=N
def tw13785631942656374702:=N
def tw16898535065356312611:=N
def tw9758656536943085202:=N
def tw5487931154079388545:=N
def tw1763411672433251912:=N
def tw1736146874752168655:=N
def tw4641394605618007983:=N
def tw9625141578538018331:=N
def tw3691978746555784895:=N
def tw4186992821242245296:=N
def tw4227695563549641563:=N
def tw5887721364580149307:=N
def tw9538779685996785805:=N
def tw6857345925398412229:=N
def tw8357698792682681021:=N
def tw9753993077850775713:=N
def tw17945978012991258357:=N
def tw15713461617544865694:=N
def tw16098297178733410801:=N
def tw14449353081591539509:=N
def tw18200283393036968579:=N
def tw600094365901446370:=N
def tw15098504102513207355:=N
def tw6686654764211167731:=N
def tw7274716971740867674:=N
def tw3301051832626021737:=N
def tw5428722359339429757:=N
def tw8122002547685245051:=N
def tw4606617000839895423:=N
def tw1742812687610674024:=N
def tw979095866598319235:=N
def tw6500090671323327410:=N
def tw9566490970318289016:=N
def tw17084728044919191291:=N
def tw8276171030340466950:=N
def tw13277887224411729549:=N
def tw16301991351855385982:=N
def tw11665902751623663616:=N
def tw6098659767726216361:=N
def tw4976572293424302378:=N
def tw4308588477966451417:=N
def tw11897515941300561919:=N
def tw5719801896669120749:=N
def tw7217249279796847936:=N
def tw14641339888127758868:=N
def tw6871276426354219617:=N
def tw11585820088235539203:=N
def tw9765147763995856214:=N
def tw16838272940492964509:=N
def tw18388189172343605309:=N
def tw816734528976144541:=N
def tw3324379312574851677:=N
def tw7308547379783275242:=N
def tw3719888233041684198:=N
def tw14242560256056461168:=N
def tw5482354944553638106:=N
def tw5522783929872431188:=N
def tw3008913778080488652:=N
def tw6872114993801400214:=N
def tw7285346259865308067:=N
def tw8817192047158859978:=N
def tw4747768754058777414:=N
def tw8198348009711851909:=N
def tw7123498627849649531:=N
def tw9350186808880309483:=N
def tw9883805332369111915:=N
def tw5247053746619838622:=N
def tw11133438181240629187:=N
def tw6201339668011388419:=N
def tw2800585891069229834:=N
def tw10513268369172877236:=N
def tw1275257110926951038:=N
def tw15086960929366060980:=N
def tw4409281312679245962:=N
def tw14518810652206154297:=N
def tw14139846279560748415:=N
def tw7905302937485968860:=N
def tw1703405274936547888:=N
def tw4970587566243318818:=N
def tw15095628436726586926:=N
def tw13681822730537243968:=N
def tw13580950089111385650:=N
def tw17299388237897513563:=N
def tw12873611715896670451:=N
def tw14638889180106054329:=N
def tw17850173974805905482:=N
def tw1380846671116394420:=N
def tw3005220699597455267:=N
def tw13662227704465424337:=N
def tw4219902721350324374:=N
def tw5419849810686911744:=N
def tw4818913205879617479:=N
def tw4930923093125057211:=N
def tw6035763669239987994:=N
def tw1810377461874654782:=N
def tw14999110250244190938:=N
def tw7641655053804212922:=N
def tw1975577276892351770:=N
def tw10927012228346408387:=N
def tw4351482846669877855:=N
def tw1893180900136571975:=N
def tw6071942007055993045:=N
def tw5475056159660899074:=N
def tw5925971950823716569:=N
def tw17321570714813742201:=N
def tw11168179901394604869:=N
def tw16259544666408414002:=N
def tw10778787267180771653:=N
def tw8335384988005576139:=N
def tw787527674274854660:=N
def tw167458290919640474:=N
def tw18366721202695111488:=N
def tw13921122628923294719:=N
def tw11517462308131404032:=N
def tw2510307305192219500:=N
def tw10047506461416862307:=N
def tw9192277505359059759:=N
def tw6337713443890597172:=N
def tw8939485117305501957:=N
def tw2215496166454336605:=N
def tw4520213468680950720:=N
def tw14050698129869525258:=N
def tw10158336275623736203:=N
def tw12280679657130569303:=N
def tw9076782597863702263:=N
def tw4186730007351689598:=N
def tw8412283242119140128:=N
def tw8888416945669570296:=N
def tw688874846632351730:=N
def tw10112420771419729407:=N
def tw2338737941685589406:=N
def tw5374606955664723296:=N
def tw15588205095233233077:=N
def tw14078645116044926508:=N
def tw11219020470312370625:=N
def tw592467075874626222:=N
def tw13886555343375192851:=N
def tw17112542740825578585:=N
def tw5691514696495470491:=N
def tw13307943328657033795:=N
def tw10802145475942141591:=N
def tw13283503453711509244:=N
def tw16659497228760137281:=N
def tw10414354464274599081:=N
def tw9711470040948127819:=N
def tw2578170860629377882:=N
def tw8386617910859450585:=N
def tw18167427246844881695:=N
def tw9597278942339295915:=N
def tw8703407867313422419:=N
def tw16472916588937435213:=N
def tw15923608028967281112:=N
def tw12318685703403614474:=N
def tw14746202844245116054:=N
def tw15102856682250456572:=N
def tw307999330539363400:=N
def tw16923895863266855850:=N
def tw7878770984980282356:=N
def tw7493996154002994169:=N
def tw1003149137011667297:=N
def tw5174226388960520170:=N
def tw3024263904950289956:=N
def tw12486050373300252547:=N
def tw8621317247060433837:=N
def tw1182114722231220499:=N
def tw11402974833285460077:=N
def tw9620705151605917508:=N
def tw10753135177541634534:=N
def tw5010497432521878995:=N
def tw9803114728891638789:=N
def tw2718285584478994749:=N
def tw15574360059542611966:=N
def tw13125263547112173446:=N
def tw779942709315496868:=N
def tw6367764892505456789:=N
def tw13520827445979581888:=N
def tw13801227716348152048:=N
def tw8271353462625366252:=N
def tw11150490072903442251:=N
def tw9579416360768656751:=N
def tw9826546625141217055:=N
def tw14230275996196522006:=N
def tw2972111521326798826:=N
def tw5170958262818132753:=N
def tw5822436449353180372:=N
def tw100798088378390084:=N
def tw12543672211948628030:=N
def tw11862118076589711337:=N
def tw12266725156936384947:=N
def tw17871124736394266738:=N
def tw15870710386854363096:=N
def tw18228334858345538506:=N
def tw6397855274030963072:=N
def tw11040889805774676696:=N
def tw18373042941175376860:=N
def tw11541354546285360923:=N
def tw3574387170936441329:=N
def tw9460176623380664215:=N
def tw6213527012700526873:=N
def tw8389789286539519038:=N
def tw2230059553479939978:=N
def tw11662415655306234687:=N
def tw14960582979261259815:=N
def tw5966552685120622305:=N
def tw3004425059709038798:=N
def tw918859620620758905:=N
def tw2755113537372302902:=N
def tw17153750386481938683:=N
def tw7091010090385736588:=N
def tw8405495039745342860:=N
def tw16711357431634272400:=N
def tw2611257597888772518:=N
def tw1744729047450273221:=N
def tw14410754344454446675:=N
def tw7451852833576886472:=N
def tw14493444461128485499:=N
def tw13032363166590408091:=N
def tw4603138725126698966:=N
def tw5426791105708701701:=N
def tw15669449428810770344:=N
def tw3621199119798838764:=N
def tw9583891939944680207:=N
def tw5196571294324148231:=N
def tw8296829768672560329:=N
def tw1952033518263371900:=N
def tw8083762859954685763:=N
def tw15622618165169982945:=N
def tw8069550894762769096:=N
def tw6804708784231499328:=N
def tw16267289327600288432:=N
def tw865383717961641771:=N
def tw8156058656153023530:=N
def tw15427728950514136953:=N
def tw17054272909408094977:=N
def tw6554162301221471647:=N
def tw14320370996805796159:=N
def tw15038175829335665188:=N
def tw13506178423422554491:=N
def tw13814925961453674011:=N
def tw5301597959401532501:=N
def tw10250282241524925770:=N
def tw17086452943708960654:=N
def tw6182810032598951256:=N
def tw7173941513611111938:=N
def tw545694091170230544:=N
def tw12174880794736873308:=N
def tw6338767469802934988:=N
def tw3688482757296409856:=N
def tw15684369583256266333:=N
def tw17736870672931732487:=N
def tw9088653932521492465:=N
def tw14767093692687825724:=N
def tw12508157939111785315:=N
def tw5868471191974999324:=N
def tw17080913723084128808:=N
def tw10598918385338248321:=N
def tw9585503120782033261:=N
def tw18154886300135633729:=N
def tw3410883945061593800:=N
def tw9905309056465499203:=N
def tw2339302741944197588:=N
def tw17364153854445751430:=N
def tw5876046195037782208:=N
def tw4994165712736455737:=N
def tw12819475122750050310:=N
def tw4622184844143317426:=N
def tw4673674355661221612:=N
def tw16284063107998194767:=N
def tw1481096749480145279:=N
def tw663874864441383083:=N
def tw14358508515638068354:=N
def tw4790876236763424128:=N
def tw14262057899353484803:=N
def tw3253009079431714487:=N
def tw12556626980593034391:=N
def tw4996744375845929692:=N
def tw4854614600241232282:=N
def tw17679914534594612874:=N
def tw8384627691495929323:=N
def tw17811459885418963503:=N
def tw3004133718110596237:=N
def tw4625087306586311813:=N
def tw13341459520901514397:=N
def tw10476848886335871533:=N
def tw5857324816172056594:=N
def tw18198497722935045927:=N
def tw15640997312728440644:=N
def tw8538783234635623263:=N
def tw2615724900306367522:=N
def tw17404323321398668454:=N
def tw583529700378162008:=N
def tw1339800756775419369:=N
def tw6875064437359988900:=N
def tw9408438521046710718:=N
def tw10651346142352792667:=N
def tw8511000120112713901:=N
def tw17837685765009922398:=N
def tw13211948107722105406:=N
def tw3657432456943387068:=N
def tw2817057100412788862:=N
def tw5560505710024145231:=N
def tw17317701880320526256:=N
def tw7846696577272434524:=N
def tw6227144357259257822:=N
def tw3248518227374567338:=N
def tw6047365563440725995:=N
def tw16028206069690098778:=N
def tw12939109266567907517:=N
def tw13129246335879660292:=N
def tw11027099917682085862:=N
def tw10955000621894857645:=N
def tw11947710737887398020:=N
def tw11374688868214678212:=N
def tw13797597059912455681:=N
def tw14643422397578818263:=N
def tw2810738922951890913:=N
def tw16077111964291814735:=N
def tw17332772269390453123:=N
def tw13129039268555917738:=N
def tw17591334716521158057:=N
def tw11182743537742748127:=N
def tw18294366780566654445:=N
def tw1637925381571468267:=N
def tw91669134438186925:=N
def tw16648134937706268778:=N
def tw2703296314775548925:=N
def tw12902971461651080511:=N
def tw15647223806808119926:=N
def tw12680321045046194154:=N
def tw15868514606335890740:=N
def tw15527354920134424983:=N
def tw15667407400155148432:=N
def tw13769963041230472250:=N
def tw3245945380238426713:=N
def tw9292938760831656154:=N
def tw7522298405516248640:=N
def tw4189817837058066142:=N
def tw12039447747258871975:=N
def tw7660669157457225853:=N
def tw18210239727384044819:=N
def tw6892704869417354911:=N
def tw5572739267495530028:=N
def tw10953808662954112860:=N
def tw3949414701339205955:=N
def tw10100761419291335208:=N
def tw11702609862152744402:=N
def tw13528607096364979331:=N
def tw5200655645281074041:=N
def tw4361216740525674223:=N
def tw3061525793939889061:=N
def tw5802692131324389157:=N
def tw17260468763849885766:=N
def tw13544216107996279232:=N
def tw13876677068707418433:=N
def tw2548765905597629124:=N
def tw6155672485113672935:=N
def tw7078482656081952796:=N
def tw17579133096032489793:=N
def tw15041709281646791633:=N
def tw16509436510223861176:=N
def tw13927593359582651390:=N
def tw7374328954933208216:=N
def tw7591010384188692707:=N
def tw6797845994565971972:=N
def tw14012168891128000251:=N
def tw7468273711332074344:=N
def tw9800307579766259036:=N
def tw1573561428423211625:=N
def tw12043623347634212221:=N
def tw13588561820411570963:=N
def tw648222273322864865:=N
def tw4999732139247144656:=N
def tw13441299419454870634:=N
def tw10112532522902597213:=N
def tw8890686966309901619:=N
def tw3735632711852036394:=N
def tw8615362643284489445:=N
def tw4857428018390631631:=N
def tw1109581682223159220:=N
def tw213659481757357023:=N
def tw8988689811685476287:=N
def tw9437761156204692261:=N
def tw2314970905242281209:=N
def tw904113871397063810:=N
def tw9054662325665689622:=N
def tw7108571479440204893:=N
def tw7263168193567996609:=N
def tw17530066289364983234:=N
def tw399178502347227471:=N
def tw12233575507938454776:=N
def tw464401457136662524:=N
def tw9833077695379936569:=N
def tw1463621254008839983:=N
def tw2456828797039359063:=N
def tw14459743502021417964:=N
def tw5096652759602350242:=N
def tw8753408649774026001:=N
def tw14333587435439405887:=N
def tw9979343769789745053:=N
def tw17078115314212131868:=N
def tw13955121062881812861:=N
def tw17716783065658325425:=N
def tw10278444759952635615:=N
def tw5563434280631898639:=N
def tw6560831341857405188:=N
def tw2957610391716988187:=N
def tw2906411361143026621:=N
def tw17634687179499029151:=N
def tw13646796312282829174:=N
def tw18230730500156482402:=N
def tw12046717356344364200:=N
def tw6286770148483206755:=N
def tw8444026507587452794:=N
def tw582514216201808304:=N
def tw8581601229135160683:=N
def tw11510448295517971925:=N
def tw4929986449012584819:=N
def tw2067323549077388404:=N
def tw17538397194584653577:=N
def tw224699819037663685:=N
def tw7448722249883384235:=N
def tw12098942765511562078:=N
def tw6998213161938522900:=N
def tw4326610084274348958:=N
def tw500264313278707665:=N
def tw7550994457270199423:=N
def tw8107812869155963119:=N
def tw5059717943422549806:=N
def tw2805262401423216358:=N
def tw14078468628056549199:=N
def tw13993301158048199439:=N
def tw7448958730700202012:=N
def tw12132233692589687852:=N
def tw9188348782090363411:=N
def tw2337358290234106804:=N
def tw17511720933109403388:=N
def tw3420983218328878144:=N
def tw3362710214939488542:=N
def tw13111808831187420105:=N
def tw18373710971657219128:=N
def tw15931482030086905401:=N
def tw8842269932181521606:=N
def tw459511253726657811:=N
def tw7069800380616614578:=N
def tw12701133670860617530:=N
def tw4158992602462401241:=N
def tw18021965825034534713:=N
def tw12269505714010271457:=N
def tw15164148665579101172:=N
def tw5964635586218475779:=N
def tw7134813355022243634:=N
def tw13789403778097080889:=N
def tw15862007220055102708:=N
def tw5497800362559160020:=N
def tw8672561264062896372:=N
def tw18198888816517795396:=N
def tw4358565590974353068:=N
def tw14294035148547663238:=N
def tw12185258897099281719:=N
def tw3882034941659532078:=N
def tw1815682602482062989:=N
def tw11898332335971079515:=N
def tw14322279581885105354:=N
def tw7743186908624475474:=N
def tw4190569376387409655:=N
def tw16527489470595277796:=N
def tw16123982690064747684:=N
def tw8462886300437884662:=N
def tw8047446833730659992:=N
def tw17027689684337937673:=N
def tw12121202963626943655:=N
def tw10174590756279268134:=N
def tw10628764727999259870:=N
def tw16178946059861808372:=N
def tw10133396611602707605:=N
def tw15208580336717222264:=N
def tw5736512806383798623:=N
def tw1824554848002302309:=N
def tw7105366617641684569:=N
def tw17386352565408714812:=N
def tw13480357493076294493:=N
def tw2526469039258553063:=N
def tw2045060781173590224:=N
def tw5560259449715100679:=N
def tw7268284582052399196:=N
def tw15979864177956746166:=N
def tw12472250882228931938:=N
def tw10448524509423960937:=N
def tw4190311713925731062:=N
def tw6509975396172466417:=N
def tw5905286947574413289:=N
def tw5701255106099306050:=N
def tw1091091303178163748:=N
def tw508075586028171355:=N
def tw9582087359850456495:=N
def tw15158552974777916586:=N
def tw10512294984984993137:=N
def tw921317336057122304:=N
def tw1524005133238918559:=N
def tw6028266773615531204:=N
def tw4479592329572115768:=N
def tw16795871792338483165:=N
def tw4681019145591326456:=N
def tw2828588286600598667:=N
def tw387827332641408909:=N
def tw18381104174377153674:=N
def tw4320472122146082050:=N
def tw7259985438533458440:=N
def tw7141624208154999189:=N
def tw15913506877699003418:=N
def tw11759327689984386947:=N
def tw8330085448033618806:=N
def tw14286331109891190077:=N
def tw4469125762781307192:=N
def tw15472867694328970971:=N
def tw5453223609955664266:=N
def tw3724744785439384091:=N
def tw15162926072850965159:=N
def tw4641582201713315045:=N
def tw2680865047131953590:=N
def tw5994684331937527369:=N
def tw16071080251189393581:=N
def tw12573346877448769170:=N
def tw1984902579716283286:=N
def tw8046835009148069343:=N
def tw5997419971334671823:=N
def tw4725929788801361432:=N
def tw17760976073967452093:=N
def tw16036781868990451057:=N
def tw2371096712172120119:=N
def tw15844524063230519634:=N
def tw13801390525527750239:=N
def tw12098585196044787596:=N
def tw15592975627571476468:=N
def tw6676719871731928856:=N
def tw5156755168053986824:=N
def tw2247836410817055445:=N
def tw12024721771578041517:=N
def tw6274999848731035244:=N
def tw8373112287167972867:=N
def tw9693927262274845679:=N
def tw11516013501997735286:=N
def tw14016077925794100948:=N
def tw10686885503460674277:=N
def tw4061077487453956855:=N
def tw847313969998217118:=N
def tw1617080565462713869:=N
def tw5409529122524549651:=N
def tw6055888479169201355:=N
def tw4716010135325677215:=N
def tw16881965283324733064:=N
def tw7837726169097371360:=N
def tw11784968669742351399:=N
def tw1450804371557022064:=N
def tw409204755122330365:=N
def tw9377868011802345338:=N
def tw7556898640887410492:=N
def tw5659045528833179970:=N
def tw3444120816966035124:=N
def tw10372223938963170680:=N
def tw12897999774961528697:=N
def tw9548098706868647723:=N
def tw4891695780009816298:=N
def tw3111434803037931979:=N
def tw11008215195473078809:=N
def tw8162471356493224114:=N
def tw15786042982653418144:=N
def tw6339234522221171901:=N
def tw6113064460759774997:=N
def tw2534874433586660358:=N
def tw5105101979040554145:=N
def tw7346845486541174555:=N
def tw10133578096267568170:=N
def tw9144377942991122172:=N
def tw16404211833539216600:=N
def tw8589798970158192905:=N
def tw15812157963002547977:=N
def tw10563427844632195498:=N
def tw10129147000763743623:=N
def tw17894273356272673395:=N
def tw9714933536607092876:=N
def tw10163691430736294714:=N
def tw320424620841066448:=N
def tw12594488240037905245:=N
def tw4756286275375306377:=N
def tw6728589716699561297:=N
def tw14726202185129308621:=N
def tw14604035597513782624:=N
def tw9231317475302567606:=N
def tw12397081740008094995:=N
def tw6771092188161812869:=N
def tw75201182070074883:=N
def tw14571174642705885520:=N
def tw15131063527250869514:=N
def tw10583840195713265866:=N
def tw14001025553167179772:=N
def tw9954726010325826161:=N
def tw6463001881697687860:=N
def tw10881543602385495940:=N
def tw7446499572085334658:=N
def tw182808291194091155:=N
def tw6770007307098955102:=N
def tw14406599974565239766:=N
def tw14748629417386118103:=N
def tw14933559853624519671:=N
def tw3174849204519472354:=N
def tw1441722060164921042:=N
def tw16055892861650129573:=N
def tw3811007826317078804:=N
def tw12615686369584142623:=N
def tw17317105283661751559:=N
def tw2179740769267492435:=N
def tw8912673900658571059:=N
def tw14207206061555126573:=N
def tw7654539787312603059:=N
def tw1280781523901410495:=N
def tw3786836310519754435:=N
def tw1159516342962975995:=N
def tw9540936698529228801:=N
def tw15413484284285294293:=N
def tw1060067606563671668:=N
def tw576437894364537234:=N
def tw16251399458616712548:=N
def tw3559751388021001121:=N
def tw12903921221014155290:=N
def tw8241414290369838734:=N
def tw7451914778677147680:=N
def tw1327415967910556768:=N
def tw4684317719430989086:=N
def tw5805848659672292634:=N
def tw2590524081261994668:=N
def tw9029489946810282403:=N
def tw18190185204631001880:=N
def tw5955726635297372163:=N
def tw8158073586244320848:=N
def tw3544379311049912519:=N
def tw15493487831443393472:=N
def tw17982380966025259097:=N
def tw1121331771855970681:=N
def tw7264271350526374916:=N
def tw1969032208239417933:=N
def tw452480869414430431:=N
def tw5205491068060713431:=N
def tw9394217582556762757:=N
def tw6294919561818538912:=N
end PySem.W.Fast
theorem KR.absorb{G P:Prop}(_ _:G)(m:P):P:=m
open PySem PySem.W PyProof.Rows
set_option maxRecDepth 100000 in
set_option maxHeartbeats 0 in
noncomputable def KR.GG:{G:Prop // G→PySem.Challenge.rw_keyrise_k73_refused_values.Holds}:=⟨_,fun hG=>by
 refine KR.absorb hG ?hc ?main
 case main =>
  w_on;o_law;k_head
  case hw=>w_witness2
 case hc=>exact hG⟩
end KRGG
section
open Option renaming some → J,none → av
open PySem renaming Addr → ag,Str → ah,Value → ar,Shared → aM,Heap → br,Stmt → bz,Obj → bH,wpAny → bP,sizeLine → bU,wpAny_bind → b3,Expr → cu,World → cM,Builtin → cO,Program → c6,Around → dq,starEach → dr,mainGlobals → ei,wpAny_pure → ey,FuncData → ho,compareOp → hS,PassesOwn → h5,wpAny_field → jB,NameKind → jS,bootBuiltins → jT,binaryOp → kI,wpAny_mono → kJ,codeAny → mr,codeAny_mono → m3,keywordEach → rW,wpAny_Call_Name_kw → rX,wpAny_seqItems → rY,wpAny_call → ux,wpAny_passesOwn → uy,wpAny_setField → uz,wpAny_setField_rec → wW,wpAny_truthy_bool → zu,wpAny_getItem_str_slice → Dw,codeAny_call_builtin → Jy,wpAny_loadPart_at → ajf
open Bool renaming true → au,false → aA
open PySem.W renaming findIn → e2,kitOne → fp,nsIn → fq,emptyDict → mn,instObj → mq,fnOf → oS,keepIn → pJ,kia_one → pK,mroIn → pL,callWith_K → wV,makesIn → zr,typeIn → zt,codeIn → Ds,excIn → Dt,methodCall_KW → Du,plainGet → Dv,hasDictIn → Jv,isFn → Jw,lookIn → Jx
theorem I{α:Sort _}{a:α}:a=a:=rfl
set_option maxHeartbeats 4000000
abbrev bK:=@PySem.W.Frag
abbrev gy:=@Option.some.inj
abbrev fN:=@PySem.W.mg_of
abbrev ku:=@PySem.W.mg_none_of
abbrev na:=@List.mem_append_right
abbrev Uf:=@Option.map_eq_some_iff
abbrev nc:=@Bool.and_eq_true_iff
abbrev d1:=@Ne.symm
abbrev c4:=@List.getElem?_eq_getElem
abbrev cq:=@List.length_map
abbrev eL:=@List.getD_eq_getElem?_getD
abbrev dP:=@List.mem_cons_of_mem
abbrev cR:=@List.mem_cons
abbrev ee:=@List.length_append
abbrev cE:=@Nat.le_refl
abbrev eA:=@List.length_cons
abbrev e4:=@List.getElem?_map
abbrev fO:=@PySem.Heap.get?_push_of_some
abbrev fu:=@decide_eq_true
abbrev eH:=@List.size_toArray
abbrev hY:=@List.mem_of_getElem?
abbrev i4:=@List.getElem?_eq_some_iff
abbrev eI:=@List.mem_cons_self
abbrev e3:=@Nat.lt_of_lt_of_le
abbrev gd:=@decide_eq_false
abbrev dj:=@Nat.le_trans
abbrev ft:=@List.mem_singleton
abbrev gf:=@List.map_append
abbrev UF:=@Nat.zero_le
abbrev hi:=@PySem.Heap.get?_push_size
abbrev h9:=@List.append_assoc
abbrev ht:=@Bool.false_ne_true
abbrev lr:=@of_decide_eq_true
abbrev hL:=@Int.emod_lt_of_pos
abbrev eu:=@PySem.Heap.lt_size
abbrev i3:=@Array.length_toList
abbrev jD:=@Bool.and_eq_true
abbrev hu:=@Int.emod_nonneg
abbrev gF:=@List.map_cons
abbrev kQ:=@List.length_singleton
abbrev fU:=@Nat.ne_of_lt
abbrev jn:=@List.length_take
abbrev Ab:=@List.idxOf_lt_length_of_mem
abbrev fV:=@List.map_map
abbrev UV:=@List.take_of_length_le
abbrev n5:=@decide_eq_true_eq
abbrev lu:=@List.take_add_one
abbrev q4:=@List.drop_eq_getElem_cons
abbrev hv:=@Nat.lt_or_ge
abbrev kv:=@List.length_drop
abbrev kx:=@List.length_range
abbrev jE:=@List.getElem_map
abbrev p4:=@List.cons_ne_nil
abbrev i5:=@List.all_eq_true
abbrev lx:=@List.flatten_cons
abbrev nd:=@List.map_congr_left
abbrev Ad:=@List.getElem?_eq_none
local macro_rules | `(tactic| omega) => `(tactic| first | (with_reducible first | assumption | exact Nat.le_of_succ_le_succ ‹_› | exact Nat.le_of_lt_succ ‹_› | exact Nat.le_of_lt ‹_› | exact Nat.sub_succ_lt_self _ _ ‹_› | exact Nat.succ_le_of_lt ‹_› | exact Nat.lt_of_lt_of_eq ‹_› ‹_› | exact Nat.lt_of_lt_of_eq ‹_› (Eq.symm ‹_›) | exact dj ‹_› (by decide) | exact Nat.add_le_add_right ‹_› _ | exact dj ‹_› ‹_› | exact Nat.lt_trans ‹_› ‹_› | exact Nat.le_add_right .. | exact Nat.le_add_left .. | exact e3 ‹_› ‹_› | exact dj (Nat.sub_le ..) ‹_› | exact dj (dj (Nat.min_le_right ..) (Nat.sub_le ..)) ‹_› | exact dj (Nat.min_le_right ..) (Nat.sub_le ..) | exact e3 ‹_› (Nat.min_le_right ..) | exact e3 ‹_› (Nat.min_le_left ..) | exact Nat.max_le.mpr ⟨dj (Nat.le_max_left ..) ‹_›, ‹_›⟩ | exact (Int.toNat_of_nonneg ‹_›).symm | exact dj (Nat.le_max_right ..) ‹_› | exact Nat.sub_lt_sub_right ‹_› ‹_› | exact Nat.add_sub_of_le ‹_› | exact Nat.le_add_right_of_le ‹_› | exact dj (Nat.le_add_right ..) ‹_› | exact Nat.le_antisymm ‹_› (Nat.not_lt.mp ‹_›) | exact Nat.le_of_eq ‹_› | exact dj ‹_› (Nat.le_max_right ..) | exact Int.ofNat_lt.mpr ‹_› | exact Nat.lt_of_le_of_lt ‹_› (by decide) | exact Int.natCast_nonneg _ | exact dj (Nat.le_of_eq ‹_›) ‹_›) | lia | omega (config := {}))
set_option Elab.async false
set_option linter.all false
set_option maxRecDepth 100000
open PySem
variable {us bj:List ar} {a it f C:ag} {P prog:c6} {w:cM} {h base:br} {g':Array GenState} {t' i j k n:Nat} {d':Drawn} {ch b9:List ag} {e c eD iter:cu} {N ns aI:List ah} {M:Model} {A:dq} {E Q:ar->aM->Prop} {u doc pm bl ct iB:ar} {aX s:aM} {α:Type} {aV pos':Pos} {ak:List (ag×bH)} {K:bK} {aK:List cu} {body:List bz} {lo:Int} {op:CmpOp} {fz mg:ah->Option ar} {expr:Bool} {kw:List (ah×ar)} {env:Env} {fd:ho} {outer:List Env} {sc c7:Scope} {d0:ah} {an od:Option ag} {mV:Array (Option ar)}
namespace cN
open PySem PySem.Spec PyProof.Rows
noncomputable abbrev Key:=Sum Int ah
noncomputable def Oq:Key->ar->Bool
 |.inl k,v=>ar.isInt k v
 |.inr x,v=>ar.isStrOf x v
noncomputable def adw(w:cM):Key->Int
 |.inl k=>hashInt k
 |.inr x=>hashStr w x
theorem p7:∀{k:Key}{v:ar},Oq k v=au->(∃i t,k=Sum.inl i/\v=ar.int i t)\/(∃x t,k=Sum.inr x/\v=ar.str x t)
 |.inl i,v,h=>by
  obtain⟨t,e⟩:=ar.isInt_shape (k:=i) (v:=v) h
  exact .inl ⟨i,t,I,e⟩
 |.inr x,v,h=>by
  obtain⟨t,e⟩:=ar.isStrOf_shape (x:=x) (v:=v) h
  exact .inr ⟨x,t,I,e⟩
theorem Ua(a b:Int):decide ((Sum.inl a:Key)=Sum.inl b)=(a == b):=by
 by_cases e:a=b
 .subst e;simp
 ·have h:¬(Sum.inl a:Key)=Sum.inl b:=fun q=>e (Sum.inl.inj q)
  rw[gd h]
  exact(beq_eq_false_iff_ne.mpr e).symm
theorem T7(a b:ah):decide ((Sum.inr a:Key)=Sum.inr b)=decide (a=b):=by
 by_cases e:a=b
 .subst e;simp
 ·have h:¬(Sum.inr a:Key)=Sum.inr b:=fun q=>e (Sum.inr.inj q)
  rw[gd h,gd e]
theorem T9(a:Int)(b:ah):decide ((Sum.inl a:Key)=Sum.inr b)=aA:=gd (fun q=>nomatch q)
theorem T8(a:ah)(b:Int):decide ((Sum.inr a:Key)=Sum.inl b)=aA:=gd (fun q=>nomatch q)
noncomputable def OC(prog:c6)(w:cM):PySem.KeyKind prog w Key where
 is:=Oq
 hash:=adw w
 inj:=fun v a b bh aj=>by
  rcases p7 bh with⟨i,t,rfl,rfl⟩|⟨x,t,rfl,rfl⟩
  ·rcases p7 aj with⟨j,u,rfl,e⟩|⟨y,u,rfl,e⟩
   .injection e with aU _;rw[aU]
   .exact nomatch e
  ·rcases p7 aj with⟨j,u,rfl,e⟩|⟨y,u,rfl,e⟩
   .exact nomatch e
   .injection e with aU _;rw[aU]
 byValue:=fun k v h=>by
  rcases p7 h with⟨i,t,rfl,rfl⟩|⟨x,t,rfl,rfl⟩<;>rfl
 pyHash:=fun b5 h=>by
  rcases p7 b5 with⟨i,t,rfl,rfl⟩|⟨x,t,rfl,rfl⟩
  .exact wpAny_pyHash_int h
  .exact wpAny_pyHash_str h
 eqBool:=fun da b5 h=>by
  rcases p7 da with⟨i,t,rfl,rfl⟩|⟨x,t,rfl,rfl⟩
  ·rcases p7 b5 with⟨j,u,rfl,rfl⟩|⟨y,u,rfl,rfl⟩
   .rw[Ua]at h;exact wpAny_eqBool_int h
   .rw[T9]at h;exact SeqAt.EqAt.int_str i t y u _ _ _ _ h
  ·rcases p7 b5 with⟨j,u,rfl,rfl⟩|⟨y,u,rfl,rfl⟩
   .rw[T8]at h;exact SeqAt.EqAt.str_int x t j u _ _ _ _ h
   .rw[T7]at h;exact wpAny_eqBool_str h
 «strs» := fun k x t v h=>by
  rcases p7 h with⟨i,u,rfl,e⟩|⟨y,u,rfl,e⟩
  .exact nomatch e
  ·injection e with aU _
   subst aU
   cases v<;>rfl
inductive V where
 |bc|aE (b:Bool)|int (i:Int)|str (x:ah)|kS (b:Array UInt8)|s9 (b:UInt64)|ref (a:ag)|ty (n:String)
 deriving DecidableEq
noncomputable def RelV:V->ar->Prop
 |.bc,u=>u=ar.none
 |.aE b,u=>u=ar.bool b
 |.int i,u=>∃t,u=ar.int i t
 |.str x,u=>∃t,u=ar.str x t
 |.kS b,u=>∃t,u=ar.bytes b t
 |.s9 b,u=>∃t,u=ar.float b t
 |.ref a,u=>u=ar.ref a
 |.ty n,u=>u=ar.type n
noncomputable abbrev Vals:List V->List ar->Prop:=Paired RelV
theorem Vals.length{xs:List V}(r:Vals xs us):xs.length=us.length:=Paired.length r
theorem Vals.get:∀{xs:List V}{us:List ar}{i:Nat}{x:V},Vals xs us->xs[i]?=J x->∃u,us[i]?=J u/\RelV x u
 |_,_,_,_,.nil,e=>by simp at e
 |_,_,0,_,.cons r _,e=>by simp at e;subst e;exact⟨_,I,r⟩
 |_,_,i+1,x,.cons _ t,e=>by
  obtain⟨u,al,aw⟩:=Vals.get (i:=i) (x:=x) t (by simpa using e)
  exact⟨u,by simpa using al,aw⟩
theorem Vals.append:∀{xs aN:List V}{us ws:List ar},Vals xs us->Vals aN ws->Vals (xs++aN) (us++ws)
 |_,_,_,_,.nil,s=>s
 |_,_,_,_,.cons r t,s =>.cons r (Vals.append t s)
theorem Vals.take:∀{xs:List V}{us:List ar}(n:Nat),Vals xs us->Vals (xs.take n) (us.take n)
 |_,_,0,_ =>.nil
 |_,_,_+1,.nil =>.nil
 |_,_,n+1,.cons r t =>.cons r (Vals.take n t)
theorem Vals.drop:∀{xs:List V}{us:List ar}(n:Nat),Vals xs us->Vals (xs.drop n) (us.drop n)
 |_,_,0,r=>r
 |_,_,_+1,.nil =>.nil
 |_,_,n+1,.cons _ t=>Vals.drop n t
noncomputable def o2:Option V->Option ar->Prop
 |some v,J u=>RelV v u
 |none,av=>True
 |_,_=>False
noncomputable def D0{uv:Type}:List (uv×V)->List (uv×ar)->Prop:=Paired fun(p:uv×V)(q:uv×ar)=>p.1=q.1/\RelV p.2 q.2
noncomputable def gK:Key->V
 |.inl i =>.int i
 |.inr x =>.str x
inductive cZ where
  |lst (xs:List V)
  |tup (xs:List V)
  |mD (fY:List (Key×V))|o9 (fY:List (List Key×V))
  |set (S:Int->Bool) (n:Nat)
  |ins (C ai:ag) (fs:List (ah×V))
  |own (x:ag)
  |kG (fs:List (ah×V))
  |met (f x:ag)
  |y0 (lo aJ:Int)
  |iP (o:bH) (u:cZ)
  |qI (aI:Array ar)
  |ext (uw:br->Prop)
noncomputable abbrev aq:=ag->Option cZ
noncomputable def upd(H:aq)(a:ag)(o:cZ):aq:=fun b=>if b=a then J o else H b
variable {H:aq}
theorem aG{o:cZ}:upd H a o a=J o:=by unfold upd;rw[if_pos rfl]
theorem bt{b:ag}{o:cZ}(h:b≠a):upd H a o b=H b:=by unfold upd;rw[if_neg h]
theorem eB{b:ag}{o:cZ}(h:H a=J o)(h':H b=av):a≠b:=by
 intro e;subst e;rw[h]at h';cases h'
section
variable (P:c6) (w:cM)
noncomputable def hV(H:aq)(h:br)(a:ag):cZ->Prop
 |.lst xs=>xs.length<=bU/\∃(bj:List ar)(n:Nat),Vals xs bj/\h.get? a=J {cls :=.type "list",data :=.seq bj.toArray n}
 |.tup xs=>xs.length<=bU/\∃bj:List ar,Vals xs bj/\IsTup h a bj.toArray
 |.mD fY=>fY.length<=bU/\(a == sysModules)=aA/\∃vs,D0 fY vs/\h.DictOf (OC P w) a vs
 |.o9 _=>False
 |.set S n=>h.SetOf (intKind P w) a S n
 | .ins C ai fs=>H ai=J (.own a)/\fs.length<=1000/\ai≠a/\h.get? a=J (mq C ai)/\
   ∃fz,h.Ns1 ai fz/\(∀f,o2 (fs.lookup f) (fz f))/\PySem.Within fz (fs.map (·.1))
 |.own _=>∃o,h.get? a=J o
 |.kG fs=>∃fz,h.Ns1 a fz/\∀f,o2 (fs.lookup f) (fz f)
 |.y0 lo aJ=>∃t u v,h.get? a=J {cls :=.type "range",data :=.fields #[.int lo t,.int aJ u,.int 1 v]}
 |.iP o u=>h.get? a=J o/\hV H h a u
 |.qI aI=>h.get? a=J {cls :=.none,data :=.fields aI}
 |.met f x=>h.get? a=J (PySem.W.methodObj (.ref f) (.ref x))
 |.ext uw=>uw h/\(∃o,h.get? a=J o)/\∀al aw:br,uw al->(∀o,al.get? a=J o->aw.get? a=J o)->uw aw
def fG(H:aq)(h:br):Prop:=∀a o,H a=J o->hV P w H h a o
end
section
variable {P:c6} {w:cM} {H H':aq} {h h':br} {a:ag} {o:cZ}
theorem hV.lt(x:hV P w H h a o):a<h.objs.size:=by
 cases o with
 |lst xs=>obtain⟨_,_,_,_,e⟩:=x;exact eu e
 |tup xs=>obtain⟨_,_,_,p⟩:=x;exact p.lt
 |mD fY=>obtain⟨_,_,_,_,o,_,_,e,_⟩:=x;exact eu e
 |o9 fY=>exact(show False from x).elim
 |set S n=>obtain⟨o,_,_,_,e,_⟩:=x;exact eu e
 |ins C ai fs=>obtain⟨_,_,_,e,_⟩:=x;exact eu e
 |own y=>obtain⟨_,e⟩:=x;exact eu e
 |kG fs=>obtain⟨_,⟨_,_,_,e,_⟩,_⟩:=x;exact eu e
 |y0 lo aJ=>obtain⟨_,_,_,e⟩:=x;exact eu e
 |iP dX u=>obtain⟨e,_⟩:=x;exact eu e
 |qI aI=>exact eu (show h.get? a=J _ from x)
 |met f y=>exact eu (show h.get? a=J _ from x)
 |ext uw=>obtain⟨_,⟨_,e⟩,_⟩:=x;exact eu e
theorem hV.oN(x:hV P w H h a o)(k:∀b u,(b=a\/H b=J (.own a))->h.get? b=J u->h'.get? b=J u)
  (aL:∀b,H b=J (.own a)->H' b=J (.own a)) (bo:∀b xs,H b=J (.tup xs)->H' b=J (.tup xs)):hV P w H' h' a o:=by
 induction o with
 |lst xs=>obtain⟨z,bj,n,r,e⟩:=x;exact⟨z,bj,n,r,k _ _ (.inl I) e⟩
 |tup xs=>obtain⟨z,bj,r,dX,e,c⟩:=x;exact⟨z,bj,r,dX,k _ _ (.inl I) e,c⟩
 |mD fY=>obtain⟨z,y,vs,r,dX,aK,fK,e,c⟩:=x;exact⟨z,y,vs,r,dX,aK,fK,k _ _ (.inl I) e,c⟩
 |o9 fY=>exact(show False from x).elim
 |set S n=>obtain⟨dX,aK,fK,t,e,c⟩:=x;exact⟨dX,aK,fK,t,k _ _ (.inl I) e,c⟩
 |ins C ai fs =>
  obtain⟨d,z,ne,e,fz,⟨od,aK,fK,ba,c⟩,r⟩:=x
  exact⟨aL _ d,z,ne,k _ _ (.inl I) e,fz,⟨od,aK,fK,k _ _ (.inr d) ba,c⟩,r⟩
 |own y=>obtain⟨dX,e⟩:=x;exact⟨dX,k _ _ (.inl I) e⟩
 |kG fs=>obtain⟨fz,⟨od,aK,fK,e,c⟩,r⟩:=x;exact⟨fz,⟨od,aK,fK,k _ _ (.inl I) e,c⟩,r⟩
 |y0 lo aJ=>obtain⟨t,u,v,e⟩:=x;exact⟨t,u,v,k _ _ (.inl I) e⟩
 |iP dX u bQ=>obtain⟨e,q⟩:=x;exact⟨k _ _ (.inl I) e,bQ q⟩
 |qI aI =>
  have e:h.get? a=J {cls :=.none,data :=.fields aI}:=x
  show h'.get? a=J {cls :=.none,data :=.fields aI}
  exact k a _ (.inl I) e
 |met f y =>
  have e:h.get? a=J (PySem.W.methodObj (.ref f) (.ref y)):=x
  show h'.get? a=J (PySem.W.methodObj (.ref f) (.ref y))
  exact k a _ (.inl I) e
 |ext uw=>obtain⟨p,⟨o,e⟩,st⟩:=x;exact⟨st _ _ p fun o q=>k _ _ (.inl I) q,⟨o,k _ _ (.inl I) e⟩,st⟩
theorem fG.lt(x:fG P w H h)(e:H a=J o):a<h.objs.size:=(x a o e).lt
theorem fG.fresh(x:fG P w H h)(e:h.objs.size<=a):H a=av:=by
 cases q:H a with
 |none=>rfl
 |some u=>exact absurd (e3 (x.lt q) e) (Nat.lt_irrefl _)
theorem fG.kept(x:fG P w H h)(k:∀b u,h.get? b=J u->h'.get? b=J u):fG P w H h':=fun a o e =>
 (x a o e).oN (fun b u _ q=>k b u q) (fun _ q=>q) fun _ _ q=>q
theorem fG.laid(x:fG P w H h)(k:∀b u,h.get? b=J u->h'.get? b=J u)(aO:h.objs.size<=a)(new:hV P w (upd H a o) h' a o):fG P w (upd H a o) h':=fun b u e=>by
 have aZ:=x.fresh aO
 by_cases aj:b=a
 .subst aj;rw[aG]at e;cases e;exact new
 ·rw[bt aj]at e
  exact(x b u e).oN (fun c v _ q=>k c v q) (fun c q=>by rw[bt (eB q aZ)];exact q) fun c xs q=>by rw[bt (eB q aZ)];exact q
end
def z5(H:aq)(a:ag)(u:cZ):Prop:=H a=J u\/∃o,H a=J (.iP o u)
theorem z5.ok{u:cZ}(r:z5 H a u)(x:fG P w H h):hV P w H h a u:=by
 rcases r with r|⟨o,r⟩
 .exact x a u r
 ·obtain⟨_,q⟩:=x a _ r
  exact q
noncomputable def zR:Option cZ->Prop
 |some (.lst _)=>True
 |some (.mD _)=>True
 |some (.o9 _)=>True
 |some (.set _ _)=>True
 |some (.ins _ _ _)=>True
 |some (.ext _)=>True
 |_=>False
section
variable {P:c6} {w:cM} {H:aq} {h h':br} {x e:ag} {o':cZ}
theorem fG.write(ok:fG P w H h)(nG:zR (H x))(he:e=x\/H e=J (.own x))(k:∀b u,b≠e->h.get? b=J u->h'.get? b=J u)(vY:∃u,h'.get? e=J u)
  (new:hV P w (upd H x o') h' x o'):fG P w (upd H x o') h':=fun b u q=>by
 have OK:∀c y,H c=J (.own y)->c≠x:=fun c y r z=>by subst z;rw[r]at nG;exact nG
 have aeR:∀c xs,H c=J (.tup xs)->c≠x:=fun c xs r z=>by subst z;rw[r]at nG;exact nG
 by_cases aj:b=x
 .subst aj;rw[aG]at q;cases q;exact new
 ·rw[bt aj]at q
  by_cases mI:b=e
  ·have hF:H b=J (.own x):=by
    rcases he with z|z
    .exact absurd (mI.trans z) aj
    .rw[mI];exact z
   rw[q]at hF;cases hF
   obtain⟨v,b5⟩:=vY
   exact⟨v,by rw[mI];exact b5⟩
  ·refine(ok b u q).oN (fun c v hc r=>k c v ?_ r) (fun c r=>by rw[bt (OK c b r)];exact r) fun c xs r=>by rw[bt (aeR c xs r)];exact r
   rcases hc with rfl|hc
   .exact mI
   ·rintro rfl
    rcases he with z|z
    .exact OK c b hc z
    .rw[hc]at z;cases z;exact aj I
end
structure fW(fs ex:List ag)(H H':aq)(h h':br):Prop where
 keep:∀b o,h.get? b=J o->H b=av->b∉fs->b∉ex->h'.get? b=J o
 slot:∀b o,h.get? b=J o->H b=av->b∈fs->b∉ex->∃dU,h'.get? b=J {o with slots:=dU}
 free:∀b o,h.get? b=J o->H b=av->b∉ex->H' b=av
 there:∀b o,h.get? b=J o->b∉ex->∃o',h'.get? b=J o'
 mm:∀b xs,H b=J (.tup xs)->H' b=J (.tup xs)
 lH:∀b o u,H b=J (.iP o u)->H' b=J (.iP o u)
 ml:∀b aI,H b=J (.qI aI)->∃more,H' b=J (.qI (aI++more))
section
variable {fs oh ex rd:List ag} {H H1 ax:aq} {h al aw h':br} {a x e:ag} {o:cZ}
theorem fW.any(u:fW fs ex H H1 h al){b:ag}{dX:bH}(q:h.get? b=J dX)(n:H b=av)(ay:b∉ex):∃dU,al.get? b=J {dX with slots:=dU}:=by
 by_cases aj:b∈fs
 .exact u.slot b dX q n aj ay
 .exact⟨dX.slots,u.keep b dX q n aj ay⟩
theorem fW.kept(k:∀b u,h.get? b=J u->h'.get? b=J u):fW fs ex H H h h' :=
 ⟨fun b dX q _ _ _=>k b dX q,fun b dX q _ _ _=>⟨dX.slots,k b dX q⟩,fun _ _ _ n _=>n,fun b dX q _=>⟨dX,k b dX q⟩,fun _ _ q=>q,fun _ _ _ q=>q,fun _ aI q=>⟨#[],by rw[q];simp⟩⟩
theorem fW.refl:fW fs ex H H h h:=fW.kept fun _ _ q=>q
theorem fW.laid(k:∀b u,h.get? b=J u->h'.get? b=J u)(aO:h.objs.size<=a)(aZ:H a=av):fW fs ex H (upd H a o) h h' where
 keep:=fun b u q _ _ _=>k b u q
 slot:=fun b u q _ _ _=>⟨u.slots,k b u q⟩
 free:=fun b u q n _=>by rw[bt (fU (e3 (eu q) aO))];exact n
 there:=fun b u q _=>⟨u,k b u q⟩
 mm:=fun b xs q=>by rw[bt (eB q aZ)];exact q
 lH:=fun b u xs q=>by rw[bt (eB q aZ)];exact q
 ml:=fun b aI q=>⟨#[],by rw[bt (eB q aZ),q];simp⟩
theorem fW.write(nG:zR (H x))(he:e=x\/H e=J (.own x))(k:∀b u,b≠e->h.get? b=J u->h'.get? b=J u)(vY:∃u,h'.get? e=J u):fW fs ex H (upd H x o) h h':=by
 have ay:∀b,H b=av->b≠x:=fun b n z=>by subst z;rw[n]at nG;exact nG
 have aj:∀b,H b=av->b≠e:=fun b n z=>by
  subst z
  rcases he with r|r
  .exact ay b n r
  .rw[n]at r;cases r
 have hm:∀b u,H b=J u->¬zR (J u)->b≠x:=fun b u q nm z=>by subst z;rw[q]at nG;exact nm nG
 refine⟨fun b u q n _ _=>k b u (aj b n) q,fun b u q n _ _=>⟨u.slots,k b u (aj b n) q⟩,fun b u q n _=>by rw[bt (ay b n)];exact n,fun b u q _=>?_,
  fun b xs q=>by rw[bt (hm b _ q fun z=>z)];exact q,fun b u xs q=>by rw[bt (hm b _ q fun z=>z)];exact q,fun b aI q=>⟨#[],by rw[bt (hm b _ q fun z=>z),q];simp⟩⟩
 by_cases mI:b=e
 .subst mI;exact vY
 .exact⟨u,k b u mI q⟩
end
noncomputable def Dc(h:br)(H:aq):List ag:=(List.range h.objs.size).filter fun a=>(H a).isSome
noncomputable def qn(h:br)(H:aq):br:=PySem.W.hideAll h (Dc h H)
theorem Yr(h:br)(H:aq):(qn h H).objs.size=h.objs.size:=PySem.W.hideAll_size _ _
variable {o:bH}
theorem Ze{b:ag}(e:h.get? b=J o)(n:H b=av):(qn h H).get? b=J o :=
 PySem.W.hideAll_get _ e fun hm=>by
  have q:(H b).isSome=au:=(List.mem_filter.mp hm).2
  rw[n]at q;simp at q
theorem Tp{b:ag}(e:(qn h H).get? b=J o):h.get? b=J o/\H b=av:=by
 have e':h.get? b=J o:=PySem.W.of_hideAll (Dc h H) e
 refine⟨e',?_⟩
 cases q:H b with
 |none=>rfl
 |some x =>
  have hm:b∈Dc h H:=List.mem_filter.mpr ⟨List.mem_range.mpr (eu e'),by simp[q]⟩
  have z:(qn h H).get? b=av:=PySem.W.hideAll_none (Dc h H) hm
  rw[z]at e;cases e
noncomputable def ZL(g h:br)(L:ag):List (ag×bH):=(List.range h.objs.size).filterMap fun a=>if a=L\/(g.get? a).isSome=au then av else(h.get? a).map fun o=>(a,o)
noncomputable def rest(g h:br)(L d:ag):List (ag×bH):=(ZL g h L).filter fun p=>decide (p.1≠d)
structure Mod(K:bK)(mg:ah->Option ar)(base:br):Prop where
 pk:K.In base
 glob:base.Ns ei mg
 blt:∃nF,base.Ns builtinsNs nF/\∀x:ah,x≠"__name__"->nF x=jT x
 nolimit:base.NoLimit
structure bA where
 prog:c6
 w:cM
 K:bK
 mg:ah->Option ar
 base:br
 A:dq
 N:List ah
 dV:aM
 i0:aq
 env:Env
 outer:List Env
 stack:List Env
 ex:List ag
 fn:ah->Bool
 calm:Bool
 pn:List (ag×bH)
 xe:ar->aM->Prop
noncomputable def iO(l:List Env):List ag:=l.filterMap (·.frame)
noncomputable abbrev bA.fs(X:bA):List ag:=iO X.outer
def Ae(sc:Scope)(x:ah):Prop:=sc.names.lookup x=J .local\/sc.names.lookup x=J .cell\/sc.names.lookup x=J .free
def Loc(sc:Scope)(x:ah):Prop:=sc.names.lookup x=J .local\/sc.names.lookup x=J .cell
def Look(env:Env)(h:br)(m:ah->Option ar)(x:ah)(u:ar):Prop :=
 (env.kindOf x=J .local/\m x=J u)\/((env.kindOf x=J .cell\/env.kindOf x=J .free)/\∃c,env.cells.lookup x=J c/\h.IsCell c (J u))
structure bA.Ok(X:bA):Prop where
 mod:Mod X.K X.mg X.base
 kind:X.env.scope.kind=.function
 glob:X.env.globals=ei
 blt:X.env.builtins=builtinsNs
 above:X.dV.heap.objs.size<=X.env.locals
 inj:∀x y c,X.env.cells.lookup x=J c->X.env.cells.lookup y=J c->x=y
 has:∀x,(X.env.kindOf x=J .cell\/X.env.kindOf x=J .free)->∃c,X.env.cells.lookup x=J c
 sZ:∀x c,X.fn x=au->X.env.cells.lookup x=J c->X.dV.heap.objs.size<=c
 hd:X.calm=au->X.A.handled=av
 frames:X.A.frames=J X.stack
 wH:X.stack=X.outer\/(X.stack=X.env::X.outer/\X.env.frame=J X.env.locals)
 BY:∀b∈X.ex,b≠X.env.locals/\∀x c,X.env.cells.lookup x=J c->c≠b
 bs:∀b o,X.base.get? b=J o->X.dV.heap.get? b=J o/\X.i0 b=av
 oe:X.base.objs.size<=X.dV.heap.objs.size
 tL:∀b o,X.base.get? b=J o->b∉X.ex
 vH:∀b∈X.ex,b∉X.fs
 l6:X.dV.heap.FunFrames X.base X.outer
 qh:∀b∈X.fs,X.i0 b=av
structure Inv(X:bA)(ak:List (ag×bH))(ae:List (Option V))(H:aq)(s:aM):Prop where
 ok:X.Ok
 os:s.os=X.dV.os
 bare:AllBare s.gens
 base:fW X.fs X.ex X.i0 H X.dV.heap s.heap
 loc:∃m,s.heap.Ns X.env.locals m/\∀(i:Nat)(x:ah)(v:V),X.N[i]?=J x->ae[i]?=J (J v)->Ae X.env.scope x->∃u,RelV v u/\Look X.env s.heap m x u
 cell:∀x c,X.env.cells.lookup x=J c->∃v,s.heap.IsCell c v
 free:H X.env.locals=av
 kT:∀x c,X.env.cells.lookup x=J c->H c=av
 pin:∀p∈X.pn++ak,s.heap.get? p.1=J p.2/\H p.1=av/\p.1≠X.env.locals/\p.1∉X.fs/\∀v,p.2.data≠.cell v
 aT:fG X.prog X.w H s.heap
 len:ae.length=X.N.length
variable {Q:Unit->aM->Prop}
section
variable {X:bA} {ak:List (ag×bH)} {ae:List (Option V)} {H H':aq} {s:aM} {h':br}
theorem bA.Ok.aeF(ok:X.Ok){b:ag}(e:X.base.get? b=J o):b∉X.fs:=fun aj=>by
 have:=(ok.l6.mem aj).1
 rw[e]at this;cases this
theorem Inv.bs(aa:Inv X ak ae H s):∀b o,X.base.get? b=J o->s.heap.get? b=J o/\H b=av:=fun b o e =>
 ⟨aa.base.keep b o (aa.ok.bs b o e).1 (aa.ok.bs b o e).2 (aa.ok.aeF e) (aa.ok.tL b o e),aa.base.free b o (aa.ok.bs b o e).1 (aa.ok.bs b o e).2 (aa.ok.tL b o e)⟩
theorem Inv.bk(aa:Inv X ak ae H s):∀b o,X.base.get? b=J o->s.heap.get? b=J o:=fun b o e=>(aa.bs b o e).1
theorem Inv.mod(aa:Inv X ak ae H s):Mod X.K X.mg X.base:=aa.ok.mod
theorem Inv.fT(aa:Inv X ak ae H s):X.K.In s.heap:=aa.ok.mod.pk.keeps aa.bk
theorem Inv.lt(aa:Inv X ak ae H s):X.env.locals<s.heap.objs.size:=let ⟨_,aZ,_⟩:=aa.loc;aZ.lt
theorem Inv.dI(aa:Inv X ak ae H s):X.dV.heap.objs.size<=s.heap.objs.size:=dj aa.ok.above (Nat.le_of_lt aa.lt)
theorem Inv.aeH(aa:Inv X ak ae H s)(h:s.heap.objs.size<=a):a∉X.fs:=fun aj=>by
 obtain⟨_,o,aL,_⟩:=aa.ok.l6.mem aj
 exact absurd (e3 (eu aL) (dj aa.dI h)) (Nat.lt_irrefl _)
theorem Inv.qe(aa:Inv X ak ae H s):∀x c,X.env.cells.lookup x=J c->c≠X.env.locals:=fun x c e z=>by
 obtain⟨v,o,aL,hd⟩:=aa.cell x c e
 obtain⟨m,⟨o',aK,fK,mO,yd,_⟩,_⟩:=aa.loc
 rw[z,mO]at aL;cases aL;rw[yd]at hd;cases hd
theorem Inv.l6(aa:Inv X ak ae H s):s.heap.FunFrames X.base X.outer:=by
 have all:∀(l:List Env),(∀b∈iO l,b∈X.fs)->X.dV.heap.FunFrames X.base l->s.heap.FunFrames X.base l:=by
  intro l
  induction l with
  |nil=>intro _ _;trivial
  |cons env r bQ =>
   intro hs aC
   obtain⟨hk,⟨L,o,aH,aZ,aL,hd⟩,az⟩:=aC
   have iQ:L∈X.fs:=hs L (by unfold iO;rw[List.filterMap_cons,aH];exact eI)
   obtain⟨dU,e⟩:=aa.base.slot L o aL (aa.ok.qh L iQ) iQ fun z=>aa.ok.vH L z iQ
   exact⟨hk,⟨L,_,aH,aZ,e,hd⟩,bQ (fun b aj=>hs b (by unfold iO;rw[List.filterMap_cons,aH];exact dP _ aj)) az⟩
 exact all X.outer (fun _ aj=>aj) aa.ok.l6
theorem Inv.stack(aa:Inv X ak ae H s):s.heap.FunFrames X.base X.stack:=by
 rcases aa.ok.wH with e|⟨e,aH⟩
 .rw[e];exact aa.l6
 ·rw[e]
  obtain⟨m,aZ,_⟩:=aa.loc
  refine .cons (by rw[aa.ok.kind];decide) aH aZ ?_ aa.l6
  exact br.get?_none_of_le (dj aa.ok.oe aa.ok.above)
theorem Inv.rP(aa:Inv X ak ae H s):∀b∈iO X.stack,b∈X.env.locals::X.fs:=fun b aj=>by
 rcases aa.ok.wH with e|⟨e,aH⟩
 .rw[e]at aj;exact dP _ aj
 ·rw[e]at aj
  unfold iO at aj
  rw[List.filterMap_cons,aH]at aj
  exact aj
theorem Inv.zj(aa:Inv X ak ae H s):∀b∈iO X.stack,H b=av:=fun b aj=>by
 rcases cR.mp (aa.rP b aj)with e|aj
 .rw[e];exact aa.free
 ·obtain⟨_,o,aL,_⟩:=aa.ok.l6.mem aj
  exact aa.base.free b o aL (aa.ok.qh b aj) fun z=>aa.ok.vH b z aj
theorem Inv.step(aa:Inv X ak ae H s)
  (nz:∀b∈ch,(b∈X.ex\/X.dV.heap.objs.size<=b)/\b≠X.env.locals/\(∀x c,X.env.cells.lookup x=J c->c≠b)/\∀p∈X.pn++ak,p.1≠b)
  (keep:∀b o,b≠X.env.locals->b∉X.fs->b∉ch->s.heap.get? b=J o->H b=av->h'.get? b=J o)
  (slot:∀b o,b≠X.env.locals->b∈X.fs->b∉ch->s.heap.get? b=J o->H b=av->∃dU,h'.get? b=J {o with slots:=dU}) (free:∀b o,b∉ch->s.heap.get? b=J o->H b=av->H' b=av)
  (there:∀b o,b∉ch->s.heap.get? b=J o->∃o',h'.get? b=J o')
  (mm:∀b xs,H b=J (.tup xs)->H' b=J (.tup xs)) (lH:∀b o u,H b=J (.iP o u)->H' b=J (.iP o u)) (ml:∀b aI,H b=J (.qI aI)->∃more,H' b=J (.qI (aI++more)))
  (ns:∀m,s.heap.Ns X.env.locals m->h'.Ns X.env.locals m) (aT:fG X.prog X.w H' h') (bb:AllBare g') :
  Inv X ak ae H' {s with heap:=h',gens:=g',drawn:=d',toks:=t'}:=by
 have rC:∀b o,X.dV.heap.get? b=J o->b≠X.env.locals:=fun b o e=>fU (e3 (eu e) aa.ok.above)
 have CD:∀b o,X.dV.heap.get? b=J o->b∉X.ex->b∉ch:=fun b o e ay aj=>by
  rcases(nz b aj).1 with z|z
  .exact ay z
  .exact absurd (e3 (eu e) z) (Nat.lt_irrefl _)
 have cellK:∀x c,X.env.cells.lookup x=J c->∀v,s.heap.IsCell c v->h'.IsCell c v:=fun x c e v ⟨o,aL,hd⟩=>by
  have jO:c∉ch:=fun z=>(nz c z).2.2.1 x c e rfl
  by_cases hc:c∈X.fs
  ·obtain⟨dU,q⟩:=slot c o (aa.qe x c e) hc jO aL (aa.kT x c e)
   exact⟨_,q,hd⟩
  .exact⟨o,keep c o (aa.qe x c e) hc jO aL (aa.kT x c e),hd⟩
 refine⟨aa.ok,aa.os,bb,⟨fun b o e n aj ay=>?_,fun b o e n aj ay=>?_,fun b o e n ay=>?_,fun b o e ay=>?_,fun b xs e=>mm b xs (aa.base.mm b xs e),fun b o xs e=>lH b o xs (aa.base.lH b o xs e),fun b aI e=>?_⟩,?_,fun x c e=>?_,?_,fun x c e=>?_,fun p aO=>?_,aT,aa.len⟩
 .exact keep b o (rC b o e) aj (CD b o e ay) (aa.base.keep b o e n aj ay) (aa.base.free b o e n ay)
 ·obtain⟨dU,aU⟩:=aa.base.slot b o e n aj ay
  obtain⟨lQ,ba⟩:=slot b _ (rC b o e) aj (CD b o e ay) aU (aa.base.free b o e n ay)
  exact⟨lQ,ba⟩
 ·obtain⟨o',aU⟩:=aa.base.there b o e ay
  exact free b o' (CD b o e ay) aU (aa.base.free b o e n ay)
 ·obtain⟨o',aU⟩:=aa.base.there b o e ay
  exact there b o' (CD b o e ay) aU
 ·obtain⟨gr,aU⟩:=aa.base.ml b aI e
  obtain⟨pv,ba⟩:=ml b _ aU
  exact⟨gr++pv,by rw[ba,Array.append_assoc]⟩
 ·obtain⟨m,aZ,aC⟩:=aa.loc
  refine⟨m,ns m aZ,fun i x v aU ba eM=>?_⟩
  obtain⟨u,r,l⟩:=aC i x v aU ba eM
  refine⟨u,r,?_⟩
  rcases l with l|⟨k,c,e,z⟩
  .exact .inl l
  .exact .inr ⟨k,c,e,cellK x c e _ z⟩
 ·obtain⟨v,z⟩:=aa.cell x c e
  exact⟨v,cellK x c e v z⟩
 ·obtain⟨m,⟨o,_,_,aL,_⟩,_⟩:=aa.loc
  exact free _ o (fun z=>(nz _ z).2.1 I) aL aa.free
 ·obtain⟨v,o,aL,hd⟩:=aa.cell x c e
  exact free c o (fun z=>(nz c z).2.2.1 x c e I) aL (aa.kT x c e)
 ·obtain⟨e,n,ne,mT,d⟩:=aa.pin p aO
  have jO:p.1∉ch:=fun z=>(nz p.1 z).2.2.2 p aO rfl
  exact⟨keep p.1 p.2 ne mT jO e n,free p.1 p.2 jO e n,ne,mT,d⟩
theorem Inv.un(aa:Inv X ak ae H s)(u:fW X.fs [] H H' s.heap h')(aT:fG X.prog X.w H' h'):Inv X ak ae H' {s with heap:=h',toks:=t'}:=by
 obtain⟨m,⟨o,aK,fK,aL,r⟩,_⟩:=id aa.loc
 obtain⟨dU,iQ⟩:=u.any aL aa.free (by simp)
 exact aa.step (g':=s.gens) (d':=s.drawn) (ch:=[]) (fun _ z=>nomatch z) (fun b o _ aj _ e n=>u.keep b o e n aj (by simp)) (fun b o _ aj _ e n=>u.slot b o e n aj (by simp)) (fun b o _ e n=>u.free b o e n (by simp)) (fun b o _ e=>u.there b o e (by simp)) u.mm u.lH u.ml (fun bY hm=>by
  obtain⟨o',BX,Gr,mO,e1⟩:=hm
  rw[aL]at mO;cases mO
  exact⟨_,BX,Gr,iQ,e1⟩) aT aa.bare
theorem Inv.call(aa:Inv X ak ae H s)(u:fW (iO X.stack) ch H H' s.heap h')(aT:fG X.prog X.w H' h')(bb:AllBare g')
  (nz:∀b∈ch,(b∈X.ex\/X.dV.heap.objs.size<=b)/\b≠X.env.locals/\(∀x c,X.env.cells.lookup x=J c->c≠b)/\∀p∈X.pn++ak,p.1≠b) :
  Inv X ak ae H' {s with heap:=h',gens:=g',drawn:=d',toks:=t'}:=by
 obtain⟨m,⟨o,aK,fK,aL,r⟩,_⟩:=id aa.loc
 obtain⟨dU,iQ⟩:=u.any aL aa.free fun z=>(nz _ z).2.1 rfl
 exact aa.step (ch:=ch) nz (fun b o iQ aj hc e n=>u.keep b o e n (fun z=>(cR.mp (aa.rP b z)).elim iQ aj) hc) (fun b o _ _ hc e n=>u.any e n hc) (fun b o hc e n=>u.free b o e n hc) (fun b o hc e=>u.there b o e hc) u.mm u.lH u.ml (fun bY hm=>by
  obtain⟨o',BX,Gr,mO,e1⟩:=hm
  rw[aL]at mO;cases mO
  exact⟨_,BX,Gr,iQ,e1⟩) aT bb
theorem Inv.turned(aa:Inv X ak ae H s)(k:∀b o,b≠it->s.heap.get? b=J o->h'.get? b=J o)(aZ:H it=av)(iQ:it≠X.env.locals)
  (al:it∈X.ex\/X.dV.heap.objs.size<=it) (aw:∀x c,X.env.cells.lookup x=J c->c≠it) (bq:∀p∈X.pn++ak,p.1≠it):Inv X ak ae H {s with heap:=h',toks:=t'}:=by
 have OI:∀b u,H b=J u->b≠it:=fun b u e z=>by rw[z,aZ]at e;cases e
 refine aa.step (g':=s.gens) (d':=s.drawn) (ch:=[it]) (fun b aj=>?_) (fun b o _ _ hc e _=>k b o (fun z=>hc (by simp[z])) e) (fun b o _ _ hc e _=>⟨o.slots,k b o (fun z=>hc (by simp[z])) e⟩) (fun _ _ _ _ n=>n)
  (fun b o hc e=>⟨o,k b o (fun z=>hc (by simp[z])) e⟩) (fun _ _ e=>e) (fun _ _ _ e=>e) (fun b aI e=>⟨#[],by rw[e];simp⟩) (fun m hm=>?_) (fun b u e=>?_) aa.bare
 ·have e:b=it:=by simpa using aj
  subst e
  exact⟨al,iQ,aw,bq⟩
 ·obtain⟨o,aK,fK,aL,r⟩:=hm
  exact⟨o,aK,fK,k _ o (d1 iQ) aL,r⟩
 ·refine(aa.aT b u e).oN (fun c v hc q=>k c v ?_ q) (fun _ q=>q) fun _ _ q=>q
  rcases hc with z|z
  .rw[z];exact OI b u e
  .exact OI c _ z
theorem Inv.tok(aa:Inv X ak ae H s)(t:Nat):Inv X ak ae H {s with toks:=t}:=aa.un (h':=s.heap) (t':=t) fW.refl aa.aT
theorem Inv.kept(aa:Inv X ak ae H s)(k:∀b u,s.heap.get? b=J u->h'.get? b=J u):Inv X ak ae H {s with heap:=h',toks:=t'}:=aa.un (fW.kept k) (aa.aT.kept k)
theorem Inv.laid{o:cZ}(aa:Inv X ak ae H s)(k:∀b u,s.heap.get? b=J u->h'.get? b=J u)(aO:s.heap.objs.size<=a)(new:hV X.prog X.w (upd H a o) h' a o):
  Inv X ak ae (upd H a o) {s with heap:=h',toks:=t'}:=aa.un (fW.laid k aO (aa.aT.fresh aO)) (aa.aT.laid k aO new)
theorem Inv.write{x e:ag}{o:cZ}(aa:Inv X ak ae H s)(nG:zR (H x))(he:e=x\/H e=J (.own x))(k:∀b u,b≠e->s.heap.get? b=J u->h'.get? b=J u)(vY:∃u,h'.get? e=J u)
  (new:hV X.prog X.w (upd H x o) h' x o):Inv X ak ae (upd H x o) {s with heap:=h',toks:=t'}:=aa.un (fW.write nG he k vY) (aa.aT.write nG he k vY new)
theorem Inv.Iw{pins':List (ag×bH)}(aa:Inv X ak ae H s)(h:∀p∈pins',s.heap.get? p.1=J p.2/\H p.1=av/\p.1≠X.env.locals/\p.1∉X.fs/\∀v,p.2.data≠.cell v):Inv X pins' ae H s :=
 ⟨aa.ok,aa.os,aa.bare,aa.base,aa.loc,aa.cell,aa.free,aa.kT,fun p aO=>(List.mem_append.mp aO).elim (fun z=>aa.pin p (List.mem_append_left _ z)) (h p),aa.aT,aa.len⟩
theorem FJ(cK:N.Nodup){x:ah}(a:N[i]?=J x)(b:N[j]?=J x):i=j:=by
 obtain⟨al,aU⟩:=i4.mp a
 obtain⟨aw,ba⟩:=i4.mp b
 exact(List.getElem_inj cK).mp (aU.trans ba.symm)
theorem K9{x:ah}{v:V}(aa:Inv X ak ae H s)(cK:X.N.Nodup)(aJ:X.N[i]?=J x)(ay:Loc X.env.scope x)(r:RelV v u)
  (h:∀aX,Inv X ak (ae.set i (J v)) H aX->(∃a,br.SameBut a s.heap aX.heap/\(a=X.env.locals\/X.env.cells.lookup x=J a))->Q () aX) (aH:X.fn x=au\/X.env.scope.names.lookup x=J .local:=by first|exact .inl I|exact .inr I|assumption):bP M A (storeName X.env x u) Q E s:=by
 obtain⟨m,aZ,aC⟩:=id aa.loc
 have G6:(X.env.scope.kind ==.class||(X.env.scope.kind ==.module&&X.env.locals != X.env.globals))=aA:=by rw[aa.ok.kind];rfl
 have Ci:i<ae.length:=by rw[aa.len];exact(i4.mp aJ).1
 have qe:=aa.qe
 have tracked:∀{a:ag}{h':br},(∃o,s.heap.get? a=J o/\H a=av)->br.SameBut a s.heap h'->fG X.prog X.w H h':=fun{a h'}bh hs b dX e=>by
  obtain⟨_,_,yi⟩:=bh
  refine(aa.aT b dX e).oN (fun c iu hc q=>(hs.2 c ?_).trans q) (fun _ q=>q) fun _ _ q=>q
  rintro rfl
  rcases hc with rfl|hc
  .rw[yi]at e;cases e
  .rw[yi]at hc;cases hc
 rcases ay with hk|hk
 ·refine wpAny_storeName_local hk aZ (fun h' nC hs=>?_) G6
  obtain⟨ON,_,_,N7,_⟩:=id aZ
  refine h _ ⟨aa.ok,aa.os,aa.bare,⟨fun b o e n aj ay=>?_,fun b o e n aj ay=>?_,aa.base.free,fun b o e ay=>?_,aa.base.mm,aa.base.lH,aa.base.ml⟩,⟨_,nC,fun j y jA aU ba eM=>?_⟩,fun y c e=>?_,aa.free,aa.kT,fun p aO=>?_,tracked ⟨ON,N7,aa.free⟩ hs,by simpa using aa.len⟩ ⟨_,hs,.inl rfl⟩
  .exact(hs.2 b (fU (e3 (eu e) aa.ok.above))).trans (aa.base.keep b o e n aj ay)
  ·obtain⟨dU,aU⟩:=aa.base.slot b o e n aj ay
   exact⟨dU,(hs.2 b (fU (e3 (eu e) aa.ok.above))).trans aU⟩
  ·obtain⟨o',aU⟩:=aa.base.there b o e ay
   exact⟨o',(hs.2 b (fU (e3 (eu e) aa.ok.above))).trans aU⟩
  ·by_cases cw:j=i
   ·subst cw
    rw[aJ]at aU;cases aU
    rw[List.getElem?_set_self Ci]at ba
    cases ba
    exact⟨u,r,.inl ⟨hk,by simp⟩⟩
   ·rw[List.getElem?_set_ne (d1 cw)]at ba
    obtain⟨u',e1,q⟩:=aC j y jA aU ba eM
    refine⟨u',e1,?_⟩
    rcases q with⟨k,e⟩|⟨k,c,e,z⟩
    ·refine .inl ⟨k,?_⟩
     have:y≠x:=fun e=>cw (FJ cK aU (e ▸ aJ))
     simp[this,e]
    .exact .inr ⟨k,c,e,z.sameBut hs (qe y c e)⟩
  ·obtain⟨iu,z⟩:=aa.cell y c e
   exact⟨iu,z.sameBut hs (qe y c e)⟩
  ·obtain⟨e,n,ne,mT,d⟩:=aa.pin p aO
   exact⟨(hs.2 p.1 ne).trans e,n,ne,mT,d⟩
 ·have Ch:X.fn x=au:=by
   rcases aH with z|z
   .exact z
   .rw[z]at hk;cases hk
  obtain⟨c,hc⟩:=aa.ok.has x (.inl hk)
  obtain⟨iu,z⟩:=aa.cell x c hc
  refine wpAny_storeName_cell aa.ok.kind hk hc z (fun h' mb hs=>?_)
  obtain⟨iB,Cn,Hs⟩:=id z
  refine h {s with heap:=h'} ⟨aa.ok,aa.os,aa.bare,⟨fun b o e n aj ay=>?_,fun b o e n aj ay=>?_,aa.base.free,fun b o e ay=>?_,aa.base.mm,aa.base.lH,aa.base.ml⟩,⟨m,aZ.sameBut hs (d1 (qe x c hc)),fun j y jA aU ba eM=>?_⟩,fun y jt e=>?_,aa.free,aa.kT,fun p aO=>?_,tracked ⟨iB,Cn,aa.kT x c hc⟩ hs,by simpa using aa.len⟩ ⟨c,hs,.inr hc⟩
  .exact(hs.2 b (fU (e3 (eu e) (aa.ok.sZ x c Ch hc)))).trans (aa.base.keep b o e n aj ay)
  ·obtain⟨dU,aU⟩:=aa.base.slot b o e n aj ay
   exact⟨dU,(hs.2 b (fU (e3 (eu e) (aa.ok.sZ x c Ch hc)))).trans aU⟩
  ·obtain⟨o',aU⟩:=aa.base.there b o e ay
   exact⟨o',(hs.2 b (fU (e3 (eu e) (aa.ok.sZ x c Ch hc)))).trans aU⟩
  ·by_cases cw:j=i
   ·subst cw
    rw[aJ]at aU;cases aU
    rw[List.getElem?_set_self Ci]at ba
    cases ba
    exact⟨u,r,.inr ⟨.inl hk,c,hc,mb⟩⟩
   ·rw[List.getElem?_set_ne (d1 cw)]at ba
    obtain⟨u',e1,q⟩:=aC j y jA aU ba eM
    refine⟨u',e1,?_⟩
    rcases q with q|⟨k,jt,e,oR⟩
    .exact .inl q
    ·refine .inr ⟨k,jt,e,oR.sameBut hs ?_⟩
     rintro rfl
     exact cw (FJ cK aU (aa.ok.inj _ _ _ e hc ▸ aJ))
  ·by_cases Cf:jt=c
   .subst Cf;exact⟨_,mb⟩
   ·obtain⟨lR,dy⟩:=aa.cell y jt e
    exact⟨lR,dy.sameBut hs Cf⟩
  ·obtain⟨e,n,ne,mT,d⟩:=aa.pin p aO
   refine⟨(hs.2 p.1 ?_).trans e,n,ne,mT,d⟩
   intro q
   rw[q,Cn]at e
   have hF:iB=p.2:=gy e
   exact d iu (by rw[<-hF];exact Hs)
theorem FC{x:ah}{v:V}(aa:Inv X ak ae H s)(cK:X.N.Nodup)(aJ:X.N[i]?=J x)(ay:Loc X.env.scope x)(r:RelV v u)
  (h:∀aX,Inv X ak (ae.set i (J v)) H aX->Q () aX) (aH:X.fn x=au\/X.env.scope.names.lookup x=J .local:=by first|exact .inl I|exact .inr I|assumption):bP M A (storeName X.env x u) Q E s :=
 K9 aa cK aJ ay r (fun aX hK _=>h aX hK) aH
theorem Inv.xO(aa:Inv X ak ae H s)(aL:aX.os=s.os)(u:fW (iO X.stack) ch H H' s.heap aX.heap)(aT:fG X.prog X.w H' aX.heap)(bb:AllBare aX.gens)
  (nz:∀b∈ch,(b∈X.ex\/X.dV.heap.objs.size<=b)/\b≠X.env.locals/\(∀x c,X.env.cells.lookup x=J c->c≠b)/\∀p∈X.pn++ak,p.1≠b):Inv X ak ae H' aX:=by
 obtain⟨h',g',d',t',o'⟩:=aX
 have e:o'=s.os:=aL
 subst e
 exact aa.call (g':=g') (t':=t') (d':=d') u aT bb nz
end
noncomputable abbrev bT:=ar->Option ag->aq->Prop
noncomputable abbrev St:=List (Option V)
noncomputable abbrev bG:=V->aq->Prop
noncomputable abbrev TE:=St->aq->bG->Prop
noncomputable abbrev gO:=St->aq->(Bool->aq->Prop)->Prop
noncomputable abbrev gx:=St->aq->(List V->aq->Prop)->Prop
structure Ends where
 nx:St->aq->Prop
 rt:bG
 bk:St->aq->Prop:=fun _ _=>False
 ct:St->aq->Prop:=fun _ _=>False
noncomputable abbrev eW:=Ends->St->aq->Prop
def iv(X:bA)(ak:List (ag×bH))(ae:St)(Q:bG)(u:ar)(aX:aM):Prop:=∃v H',Inv X ak ae H' aX/\RelV v u/\Q v H'
def z8(X:bA)(ak:List (ag×bH))(ae:St)(Q:Bool->aq->Prop)(b:Bool)(aX:aM):Prop:=∃H',Inv X ak ae H' aX/\Q b H'
def Rj(X:bA)(ak:List (ag×bH))(ae:St)(Q:List V->aq->Prop)(us:List ar)(aX:aM):Prop:=∃vs H',Inv X ak ae H' aX/\Vals vs us/\Q vs H'
def vc(X:bA)(ak:List (ag×bH))(D:Ends)(f:Flow)(aX:aM):Prop :=
 match f with
 |.next=>∃bR H',Inv X ak bR H' aX/\D.nx bR H'
 |.brk=>∃bR H',Inv X ak bR H' aX/\D.bk bR H'
 |.cont=>∃bR H',Inv X ak bR H' aX/\D.ct bR H'
 |.ret u=>∃v bR H',Inv X ak bR H' aX/\RelV v u/\D.rt v H'
def ck(X:bA)(e:cu)(t:TE):Prop :=
 ∀(ak:List (ag×bH))(s:aM)(ae:St)(H:aq)(Q:bG),Inv X ak ae H s->t ae H Q->bP (model X.prog X.w) X.A (eval e X.env) (iv X ak ae Q) X.xe s
def kO(X:bA)(e:cu)(t:gO):Prop :=
 ∀(ak:List (ag×bH))(s:aM)(ae:St)(H:aq)(Q:Bool->aq->Prop),Inv X ak ae H s->t ae H Q->bP (model X.prog X.w) X.A (isTrue e X.env (eval e X.env)) (z8 X ak ae Q) X.xe s
def gi(X:bA)(e:cu)(t:gO):Prop :=
 ∀(whole:Sem ar)(ak:List (ag×bH))(s:aM)(ae:St)(H:aq)(Q:Bool->aq->Prop),Inv X ak ae H s->t ae H Q->bP (model X.prog X.w) X.A (isTrue e X.env whole) (z8 X ak ae Q) X.xe s
variable {X:bA}
theorem gi.pt{t:gO}(h:gi X e t):kO X e t:=h _
def hr(X:bA)(aK:List cu)(t:gx):Prop :=
 ∀(aV:Pos)(ak:List (ag×bH))(s:aM)(ae:St)(H:aq)(Q:List V->aq->Prop),Inv X ak ae H s->t ae H Q->bP (model X.prog X.w) X.A (spliced (backTo aV (dr aK X.env))) (Rj X ak ae Q) X.xe s
def kq(X:bA)(st:bz)(t:eW):Prop :=
 ∀(ak:List (ag×bH))(s:aM)(ae:St)(H:aq)(D:Ends),Inv X ak ae H s->t D ae H->bP (model X.prog X.w) X.A (exec st X.env) (vc X ak D) X.xe s
def h7(X:bA)(st:List bz)(t:eW):Prop :=
 ∀(ak:List (ag×bH))(s:aM)(ae:St)(H:aq)(D:Ends),Inv X ak ae H s->t D ae H->bP (model X.prog X.w) X.A (execs st X.env) (vc X ak D) X.xe s
theorem cU{t:Sem α}{Q jX:α->aM->Prop}(h:bP M A t Q E s)(gh:∀a s,Q a s->jX a s):bP M A t jX E s:=kJ h gh fun _ _ x=>x
section
variable {X:bA}
inductive J1(o:Option (Option V))(Q:V->Prop):Prop where
 |mk (v:V) (e:o=J (J v)) (h:Q v):J1 o Q
def wK(i:Nat):TE:=fun ae H Q=>J1 ae[i]? fun v=>Q v H
def pD(v:V):TE:=fun _ H Q=>Q v H
theorem TX{x:ah}(cK:X.N[i]?=J x)(b5:Ae X.env.scope x)(hd:(x == ("__debug__":ah))=aA:=by decide)(mK:(x == ("__classdict__":ah))=aA:=by decide):ck X (.Name x aV) (wK i):=by
 intro ak s ae H Q aa h
 obtain⟨v,e,h⟩:=h
 obtain⟨m,aZ,aC⟩:=aa.loc
 obtain⟨u,r,l⟩:=aC i x v cK e b5
 have cY:iv X ak ae Q u s:=⟨v,H,aa,r,h⟩
 rcases l with⟨hk,hm⟩|⟨hk,c,hc,NH⟩
 .exact wpAny_Name (wpAny_loadName_local aa.ok.kind hk aZ hm cY) hd
 ·rcases hk with hk|hk
  .exact wpAny_Name (wpAny_loadName_cell aa.ok.kind hk hc NH cY) hd
  .exact wpAny_Name (wpAny_loadName_free aa.ok.kind hk hc NH cY mK) hd
theorem aD{i j aV}:ck X (.Constant (.int i) j aV) (pD (.int i)):=fun _ _ _ H _ aa h=>wpAny_Constant_int ⟨.int i,H,aa.tok _,⟨_,rfl⟩,h⟩
theorem gg{b j aV}:ck X (.Constant (.bool b) j aV) (pD (.aE b)):=fun _ _ _ H _ aa h=>Constant_bool ⟨.aE b,H,aa,rfl,h⟩
theorem mv{j aV}:ck X (.Constant .none j aV) (pD .bc):=fun _ _ _ H _ aa h=>Constant_none ⟨.bc,H,aa,rfl,h⟩
theorem cT{x j aV}:ck X (.Constant (.str x) j aV) (pD (.str x)):=fun _ _ _ H _ aa h=>Calls.Constant_str ⟨.str x,H,aa.tok _,⟨_,rfl⟩,h⟩
def h6(X:bA)(x:ah):Prop:=X.env.kindOf x=J .globalImplicit
theorem sP{ae:St}{x:ah}{Q:ar->aM->Prop}(aa:Inv X ak ae H s)(bb:h6 X x)(hm:X.mg x=J u)(h:Q u s)
  (hd:(x == ("__debug__":ah))=aA:=by decide):bP (model X.prog X.w) X.A (eval (.Name x aV) X.env) Q E s :=
 Calls.Name_function_global aa.ok.kind bb (Calls.loadGlobal_global (by rw[aa.ok.glob];exact aa.mod.glob.keeps aa.bk) hm h) hd
theorem nj{ae:St}{x:ah}{Q:ar->aM->Prop}(aa:Inv X ak ae H s)(bb:h6 X x)(hm:X.mg x=av)(b5:jT x=J u)(h:Q u s)
  (aZ:x≠"__name__":=by decide) (hd:(x == ("__debug__":ah))=aA:=by decide):bP (model X.prog X.w) X.A (eval (.Name x aV) X.env) Q E s:=by
 obtain⟨nF,al,aw⟩:=aa.mod.blt
 exact Calls.Name_function_global aa.ok.kind bb (Calls.loadGlobal_builtin (by rw[aa.ok.glob];exact aa.mod.glob.keeps aa.bk) hm (by rw[aa.ok.blt];exact al.keeps aa.bk) ((aw x aZ).trans b5) h) hd
theorem Tb{x:ah}{v:V}(bb:h6 X x)(hm:X.mg x=J u)(r:RelV v u)(hd:(x == ("__debug__":ah))=aA:=by decide):ck X (.Name x aV) (pD v) :=
 fun _ _ _ H _ aa h=>sP aa bb hm ⟨v,H,aa,r,h⟩ hd
theorem jr{x:ah}{v:V}(bb:h6 X x)(hm:X.mg x=av)(b5:jT x=J u)(r:RelV v u)(aZ:x≠"__name__":=by decide)(hd:(x == ("__debug__":ah))=aA:=by decide):ck X (.Name x aV) (pD v) :=
 fun _ _ _ H _ aa h=>nj aa bb hm b5 ⟨v,H,aa,r,h⟩ aZ hd
variable {a b:cu} {cf dp:TE} {aV:Pos}
def Sp(X:bA)(op:CmpOp)(a b:cu)(t:TE):Prop :=
 ∀(ak:List (ag×bH))(s:aM)(ae:St)(H:aq)(Q:bG),Inv X ak ae H s->t ae H Q->
  bP (model X.prog X.w) X.A (eval a X.env) (fun v eh=>bP (model X.prog X.w) X.A (eval b X.env) (fun u nM=>bP (model X.prog X.w) X.A (hS op v u) (iv X ak ae Q) X.xe nM) X.xe eh) X.xe s
def pC(t:TE):gO:=fun ae H Q=>t ae H fun x H1=>∃c,x=.aE c/\Q c H1
variable {nN C6:gO} {rest:List cu}
def ahw(t u:gO):gO:=fun ae H Q=>t ae H fun c H1=>if c=au then u ae H1 Q else Q aA H1
def ahL(t u:gO):gO:=fun ae H Q=>t ae H fun c H1=>if c=au then Q au H1 else u ae H1 Q
def ahK(t:gO):gO:=fun ae H Q=>t ae H fun c H1=>Q (!c) H1
theorem p8(bh:kO X a nN):gi X (.BoolOp .And [a] aV) nN:=by
 intro rU ak s ae H Q aa h
 refine isTrue_and (cU (bh ak s ae H Q aa h) fun c s1 e=>?_)
 cases c with
 |true=>exact isTrue_and_nil e
 |false=>exact e
theorem lk(bh:kO X a nN):gi X (.BoolOp .Or [a] aV) nN:=by
 intro rU ak s ae H Q aa h
 refine isTrue_or (cU (bh ak s ae H Q aa h) fun c s1 e=>?_)
 cases c with
 |false=>exact isTrue_or_nil e
 |true=>exact e
theorem o4(bh:kO X a nN)(aj:gi X (.BoolOp .And (b::rest) aV) C6):gi X (.BoolOp .And (a::b::rest) aV) (ahw nN C6):=by
 intro rU ak s ae H Q aa h
 refine isTrue_and (cU (bh ak s ae H _ aa h) fun c s1 bM=>?_)
 obtain⟨H1,bf,cg⟩:=bM
 cases c with
 |true=>exact aj rU ak s1 ae H1 Q bf cg
 |false=>exact⟨H1,bf,cg⟩
theorem ks(bh:kO X a nN)(aj:gi X (.BoolOp .Or (b::rest) aV) C6):gi X (.BoolOp .Or (a::b::rest) aV) (ahL nN C6):=by
 intro rU ak s ae H Q aa h
 refine isTrue_or (cU (bh ak s ae H _ aa h) fun c s1 bM=>?_)
 obtain⟨H1,bf,cg⟩:=bM
 cases c with
 |true=>exact⟨H1,bf,cg⟩
 |false=>exact aj rU ak s1 ae H1 Q bf cg
theorem i6(bh:kO X a nN):kO X (.UnaryOp .Not a aV) (ahK nN):=by
 intro ak s ae H Q aa h
 exact isTrue_not (bh ak s ae H (fun c H1=>Q (!c) H1) aa h)
def ahx(cf dp:TE):TE:=fun ae H Q=>cf ae H fun x H1=>∃c,x=.aE c/\if c=au then dp ae H1 Q else Q (.aE aA) H1
def ahM(cf dp:TE):TE:=fun ae H Q=>cf ae H fun x H1=>∃c,x=.aE c/\if c=au then Q (.aE au) H1 else dp ae H1 Q
theorem ky{op}{t:TE}(h:ck X a t):ck X (.BoolOp op [a] aV) t:=fun ak s ae H Q aa hw=>BoolOp_one (h ak s ae H Q aa hw)
theorem i7(bh:ck X a cf)(aj:ck X (.BoolOp .And (b::rest) aV) dp):ck X (.BoolOp .And (a::b::rest) aV) (ahx cf dp):=by
 intro ak s ae H Q aa h
 refine BoolOp_and (cU (bh ak s ae H _ aa h) fun v s1 bM=>?_)
 obtain⟨x,H1,bf,cd,cg⟩:=bM
 obtain⟨c,rfl,cg⟩:=cg
 cases cd
 refine zu ?_
 cases c with
 |true=>exact aj ak s1 ae H1 Q bf cg
 |false=>exact⟨.aE aA,H1,bf,I,cg⟩
theorem J9(bh:ck X a cf)(aj:ck X (.BoolOp .Or (b::rest) aV) dp):ck X (.BoolOp .Or (a::b::rest) aV) (ahM cf dp):=by
 intro ak s ae H Q aa h
 refine BoolOp_or (cU (bh ak s ae H _ aa h) fun v s1 bM=>?_)
 obtain⟨x,H1,bf,cd,cg⟩:=bM
 obtain⟨c,rfl,cg⟩:=cg
 cases cd
 refine zu ?_
 cases c with
 |false=>exact aj ak s1 ae H1 Q bf cg
 |true=>exact⟨.aE au,H1,bf,I,cg⟩
def ahE(t:gO)(cf dp:TE):TE:=fun ae H Q=>t ae H fun c H1=>if c=au then cf ae H1 Q else dp ae H1 Q
theorem n7(hc:kO X c nN)(bh:ck X a cf)(aj:ck X b dp):ck X (.IfExp c a b aV) (ahE nN cf dp):=by
 intro ak s ae H Q aa h
 refine wpAny_IfExp (cU (hc ak s ae H _ aa h) fun d s1 bM=>?_)
 obtain⟨H1,bf,cg⟩:=bM
 cases d with
 |true=>exact bh ak s1 ae H1 Q bf cg
 |false=>exact aj ak s1 ae H1 Q bf cg
end
def c3(K:bK)(H:aq)(a:ag)(xs:List V):Prop :=
 z5 H a (.lst xs)\/
  ∃(o:bH)(bj:Array ar)(n:Nat),K.lookup a=J o/\o.cls=.type "list"/\o.dict=av/\o.data=.seq bj n/\bj.size<=bU/\Vals xs bj.toList
def gY(K:bK)(H:aq)(a:ag)(xs:List V):Prop :=
 z5 H a (.tup xs)\/
  ∃(o:bH)(bj:Array ar)(n:Nat),K.lookup a=J o/\o.cls=.type "tuple"/\o.data=.seq bj n/\bj.size<=bU/\Vals xs bj.toList
noncomputable def ZJ:ar->Option V
 |.none=>J .bc
 |.bool b=>J (.aE b)
 |.int i _=>J (.int i)
 |.str x _=>J (.str x)
 |.bytes b _=>J (.kS b)
 |.float b _=>J (.s9 b)
 |.ref a=>J (.ref a)
 |.type n=>J (.ty n)
 |_=>av
theorem RelV.abs{x:V}(r:RelV x u):ZJ u=J x:=by
 cases x with
 |bc=>cases r;rfl
 |aE _=>cases r;rfl
 |int _=>obtain⟨t,rfl⟩:=r;rfl
 |str _=>obtain⟨t,rfl⟩:=r;rfl
 |kS _=>obtain⟨t,rfl⟩:=r;rfl
 |s9 _=>obtain⟨t,rfl⟩:=r;rfl
 |ref _=>cases r;rfl
 |ty _=>cases r;rfl
variable {y:V}
theorem RelV.inj{x:V}(r:RelV x u)(q:RelV y u):x=y:=gy (r.abs.symm.trans q.abs)
theorem Vals.inj:∀{xs aN:List V}{us:List ar},Vals xs us->Vals aN us->xs=aN
 |_,_,_,.nil,.nil=>rfl
 |_,_,_,.cons r t,.cons e1 t'=>by rw[r.inj e1,Vals.inj t t']
section
variable {X:bA} {ak:List (ag×bH)} {ae:St} {H:aq} {s:aM} {a:ag} {xs aN:List V}
theorem c3.of(h:H a=J (.lst xs)):c3 K H a xs :=.inl (.inl h)
theorem gY.of(h:H a=J (.tup xs)):gY K H a xs :=.inl (.inl h)
theorem Inv.list(aa:Inv X ak ae H s)(h:c3 X.K H a xs):∃bj:List ar,Vals xs bj/\PlainL s.heap a bj.toArray/\xs.length<=bU:=by
 rcases h with h|⟨o,bj,n,hk,hc,hd,hs,bL,r⟩
 ·obtain⟨z,bj,n,r,e⟩:=h.ok aa.aT
  exact⟨bj,r,⟨_,n,e,I,I,I⟩,z⟩
 ·refine⟨bj.toList,r,⟨o,n,aa.fT a o hk,hc,hd,by simpa using hs⟩,?_⟩
  have e:=r.length
  simp only[i3]at e
  omega
theorem Inv.tuple(aa:Inv X ak ae H s)(h:gY X.K H a xs):∃bj:List ar,Vals xs bj/\IsTup s.heap a bj.toArray/\xs.length<=bU:=by
 rcases h with h|⟨o,bj,n,hk,hc,hs,bL,r⟩
 ·obtain⟨z,bj,r,p⟩:=h.ok aa.aT
  exact⟨bj,r,p,z⟩
 ·refine⟨bj.toList,r,⟨o,aa.fT a o hk,hc,n,by simpa using hs⟩,?_⟩
  have e:=r.length
  simp only[i3]at e
  omega
theorem Inv.ad0(aa:Inv X ak ae H s)(h:c3 X.K H a xs)(h':c3 X.K H a aN):xs=aN:=by
 obtain⟨bj,r,⟨o,n,e,_,_,d⟩,_⟩:=aa.list h
 obtain⟨its',e1,⟨o',akl,e',_,_,d'⟩,_⟩:=aa.list h'
 rw[e]at e';cases e'
 rw[d]at d'
 injection d' with hl _
 have:bj=its':=by simpa using congrArg Array.toList hl
 subst this
 exact r.inj e1
end
noncomputable abbrev bA.nQ(X:bA)(E:ar->aM->Prop):bA:={X with xe:=E}
noncomputable abbrev bA.rE(X:bA):bA:=X.nQ fun _ _=>False
theorem bA.Ok.nQ(ok:X.Ok)(E:ar->aM->Prop):(X.nQ E).Ok :=
 ⟨ok.mod,ok.kind,ok.glob,ok.blt,ok.above,ok.inj,ok.has,ok.sZ,ok.hd,ok.frames,ok.wH,ok.BY,ok.bs,ok.oe,ok.tL,ok.vH,ok.l6,ok.qh⟩
theorem bA.Ok.m1(ok:(X.nQ E).Ok):X.Ok :=
 ⟨ok.mod,ok.kind,ok.glob,ok.blt,ok.above,ok.inj,ok.has,ok.sZ,ok.hd,ok.frames,ok.wH,ok.BY,ok.bs,ok.oe,ok.tL,ok.vH,ok.l6,ok.qh⟩
section
variable {X:bA} {ak:List (ag×bH)} {ae:St} {H:aq} {s:aM} {E:ar->aM->Prop}
theorem Inv.nQ(aa:Inv X ak ae H s)(E:ar->aM->Prop):Inv (X.nQ E) ak ae H s:=⟨aa.ok.nQ E,aa.os,aa.bare,aa.base,aa.loc,aa.cell,aa.free,aa.kT,aa.pin,aa.aT,aa.len⟩
theorem Inv.m1(aa:Inv (X.nQ E) ak ae H s):Inv X ak ae H s:=⟨aa.ok.m1,aa.os,aa.bare,aa.base,aa.loc,aa.cell,aa.free,aa.kT,aa.pin,aa.aT,aa.len⟩
theorem vc.m1{D:Ends}{f:Flow}(h:vc (X.nQ E) ak D f aX):vc X ak D f aX:=by
 cases f with
 |next=>obtain⟨bR,H',aa,q⟩:=h;exact⟨bR,H',aa.m1,q⟩
 |brk=>obtain⟨bR,H',aa,q⟩:=h;exact⟨bR,H',aa.m1,q⟩
 |cont=>obtain⟨bR,H',aa,q⟩:=h;exact⟨bR,H',aa.m1,q⟩
 |ret u=>obtain⟨v,bR,H',aa,r,q⟩:=h;exact⟨v,bR,H',aa.m1,r,q⟩
theorem h7.rE{st:List bz}{t:eW}(h:h7 X.rE st t):h7 X st t:=fun ak s ae H D aa hw =>
 kJ (h ak s ae H D (aa.nQ _) hw) (fun _ _ q=>q.m1) fun _ _ z=>False.elim z
end
section
variable {X:bA} {st:bz} {rest:List bz} {t u:eW} {e:cu} {cL:TE} {aV:Pos}
def Jc:eW:=fun D ae H=>D.nx ae H
def mj(t u:eW):eW:=fun D ae H=>t {D with nx:=u D} ae H
theorem cy:h7 X [] Jc:=fun _ _ ae H _ aa h=>wpAny_execs_nil ⟨ae,H,aa,h⟩
theorem aP(al:kq X st t)(aw:h7 X rest u):h7 X (st::rest) (mj t u):=by
 intro ak s ae H D aa h
 refine wpAny_execs_cons (cU (al ak s ae H {D with nx:=u D} aa h) fun f s1 q=>?_)
 cases f with
 |next =>
  obtain⟨bR,H',hK,q⟩:=q
  exact aw ak s1 bR H' D hK q
 |ret v=>exact q
 |brk=>exact q
 |cont=>exact q
theorem aQ(al:kq X st t):h7 X [st] t:=by
 intro ak s ae H D aa h
 refine wpAny_execs_cons (cU (al ak s ae H D aa h) fun f s1 q=>?_)
 cases f with
 |next=>exact wpAny_execs_nil q
 |ret v=>exact q
 |brk=>exact q
 |cont=>exact q
theorem Inv.quiet{ae:St}(aa:Inv X ak ae H s):interactive X.env=aA:=by simp[interactive,aa.ok.kind]
def ahB(cL:TE):eW:=fun D ae H=>cL ae H fun _ H1=>D.nx ae H1
theorem ih(he:ck X e cL)(hs:swapsWith e av aV.line X.env=pure aA:=by rfl):kq X (.Expr e aV) (ahB cL):=by
 intro ak s ae H D aa h
 refine wpAny_Expr_any (cU (he ak s ae H _ aa h) fun v s1 bM=>?_) aa.quiet hs
 obtain⟨x,H1,bf,cd,cg⟩:=bM
 exact ⟨ae,H1,bf,cg⟩
def ahP(cL:TE):eW:=fun D ae H=>cL ae H D.rt
theorem bx(he:ck X e cL):kq X (.Return (J e) aV) (ahP cL):=by
 intro ak s ae H D aa h
 refine wpAny_Return_some (cU (he ak s ae H _ aa h) fun v s1 bM=>?_)
 obtain⟨x,H1,bf,cd,cg⟩:=bM
 exact ⟨x,ae,H1,bf,cd,cg⟩
def Ja(c:gO)(t u:eW):eW:=fun D ae H=>c ae H fun b H1=>if b=au then t D ae H1 else u D ae H1
theorem cz{a b:List bz}{gu:gO}(hc:kO X c gu)(bh:h7 X a t)(aj:h7 X b u):kq X (.If c a b aV) (Ja gu t u):=by
 intro ak s ae H D aa h
 refine wpAny_If (cU (hc ak s ae H _ aa h) fun d s1 bM=>?_)
 obtain⟨H1,bf,cg⟩:=bM
 cases d with
 |true=>exact bh ak s1 ae H1 D bf cg
 |false=>exact aj ak s1 ae H1 D bf cg
def ahI:eW:=fun _ _ _=>False
theorem lB:kq X st ahI:=fun _ _ _ _ _ _ h=>h.elim
end
noncomputable abbrev gE:=V->St->aq->(St->aq->Prop)->Prop
noncomputable abbrev sC:=List V->St->aq->(St->aq->Prop)->Prop
def p2(X:bA)(iY:cu)(t:gE):Prop :=
 ∀(ak:List (ag×bH))(s:aM)(ae:St)(H:aq)(v:V)(u:ar)(Q:St->aq->Prop),Inv X ak ae H s->RelV v u->t v ae H Q->
  bP (model X.prog X.w) X.A (assign iY X.env u) (fun _ aX=>∃bR H',Inv X ak bR H' aX/\Q bR H') X.xe s
def xg(X:bA)(iW:List cu)(t:sC):Prop :=
 ∀(ak:List (ag×bH))(s:aM)(ae:St)(H:aq)(vs:List V)(us:List ar)(Q:St->aq->Prop),Inv X ak ae H s->Vals vs us->t vs ae H Q->
  bP (model X.prog X.w) X.A (assignInOrder ((assignEach iW X.env).map (·.2)) us) (fun _ aX=>∃bR H',Inv X ak bR H' aX/\Q bR H') X.xe s
section
variable {X:bA} {aV:Pos}
def vJ(i:Nat):gE:=fun v ae H Q=>Q (ae.set i (J v)) H
theorem eo{x:ah}(cK:X.N.Nodup)(aJ:X.N[i]?=J x:=by rfl)(ay:Loc X.env.scope x:=by first|exact Or.inl I|exact Or.inr I)(aH:X.fn x=au\/X.env.scope.names.lookup x=J .local:=by first|exact .inl I|exact .inr I|assumption):p2 X (.Name x aV) (vJ i):=by
 intro ak s ae H v u Q aa r h
 exact wpAny_assign_Name (FC aa cK aJ ay r (fun aX hK=>⟨_,H,hK,h⟩) aH)
noncomputable def aa9:sC:=fun vs ae H Q=>vs=[]/\Q ae H
noncomputable def aa8(t:gE)(u:sC):sC:=fun vs ae H Q=>∃v r,vs=v::r/\t v ae H fun bR H'=>u r bR H' Q
theorem p9:xg X [] aa9:=by
 intro ak s ae H vs us Q aa r h
 obtain⟨e,h⟩:=h
 subst e
 cases r
 exact assignInOrder_nil ⟨ae,H,aa,h⟩
theorem j0{t:gE}{u:sC}(al:p2 X e t)(aw:xg X aK u)
  (hs:(assignEach (e::aK) X.env).map (·.2)=assign e X.env::(assignEach aK X.env).map (·.2):=by rfl):xg X (e::aK) (aa8 t u):=by
 intro ak s ae H vs us Q aa r h
 obtain⟨v,akt,aU,h⟩:=h
 subst aU
 cases r with
 |cons r iU =>
  rw[hs]
  refine assignInOrder_cons (cU (al ak s ae H _ _ _ aa r h) fun _ s1 bM=>?_)
  obtain⟨bO,H1,bf,cg⟩:=bM
  exact aw ak s1 bO H1 _ _ Q bf iU cg
def aba(K:bK)(n:Nat)(t:sC):gE:=fun v ae H Q=>∃a xs,v=.ref a/\gY K H a xs/\xs.length=n/\t xs ae H Q
theorem qb{t:sC}(hc:X.calm=au)(h:xg X aK t)
  (aZ:(assignEach aK X.env).length=n:=by rfl) (jM:(assignEach aK X.env).findIdx? (·.1)=av:=by rfl):p2 X (.Tuple aK k aV) (aba X.K n t):=by
 intro ak s ae H v u Q aa r hw
 obtain⟨a,xs,aU,aY,aC,hw⟩:=hw
 subst aU
 cases r
 obtain⟨bj,dN,bo,bL⟩:=aa.tuple aY
 refine assign_Tuple_tuple (aa.ok.hd hc) bo (by simp[aZ,<-aC,dN.length]) jM fun h' ay=>?_
 have bf:Inv X ak ae H {s with heap:=h'}:=aa.kept (t':=s.toks) fun b o e=>ay b o (fU (eu e)) e
 exact h ak _ ae H xs _ Q bf (by simpa using dN) hw
def wI(cL:TE)(g:gE):eW:=fun D ae H=>cL ae H fun x H1=>g x ae H1 D.nx
theorem TS{cL:TE}{g:gE}(he:ck X e cL)(bb:p2 X eD g)(hs:swapsWithSole [eD] e aV.line X.env=pure aA:=by rfl)(hw:swappedStores [eD] e X.env=pure av:=by rfl)
  (al:(assignEach [eD] X.env).map (·.2)=[assign eD X.env]:=by rfl):kq X (.Assign [eD] e aV) (wI cL g):=by
 intro ak s ae H D aa h
 refine wpAny_Assign_stores (cU (he ak s ae H _ aa h) fun v s1 bM=>?_) hs hw
 obtain⟨x,H1,bf,cd,cg⟩:=bM
 rw[al]
 exact cU (bb ak s1 ae H1 x v _ bf cd cg) fun _ s2 q=>q
theorem TR{x:ah}{cL:TE}(cK:X.N.Nodup)(aJ:X.N[i]?=J x)(ay:Loc X.env.scope x)(he:ck X e cL)(hs:swapsWith e (J (.Name x pos')) aV.line X.env=pure aA:=by rfl)(aH:X.fn x=au\/X.env.scope.names.lookup x=J .local:=by first|exact .inl I|exact .inr I|assumption):
  kq X (.Assign [.Name x pos'] e aV) (wI cL (vJ i)):=by
 intro ak s ae H D aa h
 refine wpAny_Assign_Name (cU (he ak s ae H _ aa h) fun v s1 bM=>?_) hs
 obtain⟨y,H1,bf,cd,cg⟩:=bM
 exact FC bf cK aJ ay cd (fun s2 bE=>⟨_,H1,bE,cg⟩) aH
end
section
variable {X:bA} {aV:Pos}
def ahU(c:gO)(dp:eW):eW:=fun D ae H=>∃W:Nat->St->aq->Prop,(∃m,W m ae H)/\∀m ae H,W m ae H->
 c ae H fun b H1=>if b=au then ∃N:St->aq->Prop,(∀bR H',N bR H'->∃bY,bY<m/\W bY bR H')/\dp {D with nx:=N,ct:=N,bk:=D.nx} ae H1 else D.nx ae H1
theorem q0{gu:gO}{dp:eW}(aO:h5 (model X.prog X.w) X.A X.env X.xe)(hc:kO X c gu)(aj:h7 X body dp):kq X (.While c body [] aV) (ahU gu dp):=by
 intro ak s ae H D aa h
 obtain⟨W,⟨m0,jQ⟩,turn⟩:=h
 refine wpAny_While (codeAny_whileLoop (fun n aX=>∃bR H',Inv X ak bR H' aX/\W n bR H') ?_ m0 ⟨ae,H,aa,jQ⟩)
 rintro n s1 ⟨bO,H1,bf,ui⟩
 refine uy aO (cU (hc ak s1 bO H1 _ bf (turn n bO H1 ui)) fun b s2 bM=>?_)
 obtain⟨ax,bE,cj⟩:=bM
 cases b with
 | true =>
  obtain⟨N,cK,cj⟩:=cj
  rw[if_pos rfl]
  refine uy aO (cU (aj ak s2 bO ax _ bE cj) fun f iC eN=>?_)
  cases f with
  |next =>
   obtain⟨k8,bJ,gM,tI⟩:=eN
   obtain⟨bY,hm,oP⟩:=cK k8 bJ tI
   exact⟨bY,hm,k8,bJ,gM,oP⟩
  |cont =>
   obtain⟨k8,bJ,gM,tI⟩:=eN
   obtain⟨bY,hm,oP⟩:=cK k8 bJ tI
   exact⟨bY,hm,k8,bJ,gM,oP⟩
  |brk=>exact eN
  |ret v=>exact eN
 |false =>
  rw[if_neg ht]
  exact wpAny_execs_nil ⟨bO,ax,bE,cj⟩
end
structure ko where
 go:Nat->aq->Prop
 pI:Nat->aq->V->aq->Prop
 stop:Nat->aq->Prop
def pS(X:bA)(ak:List (ag×bH))(H:aq)(b:ag):Prop :=
 H b=av/\b≠X.env.locals/\b∉X.fs/\(b∈X.ex\/X.dV.heap.objs.size<=b)/\(∀x c,X.env.cells.lookup x=J c->c≠b)/\∀p∈X.pn++ak,p.1≠b
theorem Inv.og{ae:St}{H':aq}{b:ag}(aa:Inv X ak ae H s)(aj:s.heap.objs.size<=b)(aZ:H' b=av):pS X ak H' b:=by
 refine⟨aZ,Nat.ne_of_gt (e3 aa.lt aj),aa.aeH aj,.inr (dj aa.dI aj),fun x c e z=>?_,fun p aO z=>?_⟩
 ·obtain⟨v,q⟩:=aa.cell x c e
  exact absurd (e3 q.lt (by rw[z];exact aj)) (Nat.lt_irrefl _)
 .exact absurd (e3 (eu (aa.pin p aO).1) (by rw[z];exact aj)) (Nat.lt_irrefl _)
structure Turn(P:c6)(w:cM)(K:bK)(eD:cu)(en:ko)(b9:List ag)(it:ag)(iF:Nat->br->Prop):Prop where
 mem:it∈b9
 obj:∀i h,iF i h->∀b∈b9,∃o,h.get? b=J o/\∀v,o.data≠.cell v
 keep:∀i h h',iF i h->(∀b∈b9,∀o,h.get? b=J o->h'.get? b=J o)->iF i h'
 item:∀(X:bA),X.prog=P->X.w=w->X.K=K->X.calm=au->∀(i:Nat)(ak:List (ag×bH))(s:aM)(ae:St)(H:aq)(E:ar->aM->Prop),Inv X ak ae H s->(∀b∈b9,pS X ak H b)->iF i s.heap->en.go i H->
  bP (model P w) X.A (pyNext (.ref it)) (fun r s1=>∃u,r=J u/\
   bP (model P w) X.A (letOwnedTupleGo eD (.ref it) u) (fun _ s2=>∃x H',Inv X ak ae H' s2/\RelV x u/\en.pI i H x H'/\iF (i+1) s2.heap/\∀b∈b9,H' b=av) E s1) E s
 done:∀(X:bA),X.prog=P->X.w=w->X.K=K->X.calm=au->∀(i:Nat)(ak:List (ag×bH))(s:aM)(ae:St)(H:aq)(E:ar->aM->Prop),Inv X ak ae H s->(∀b∈b9,pS X ak H b)->iF i s.heap->en.stop i H->
  bP (model P w) X.A (pyNext (.ref it)) (fun r s1=>r=av/\Inv X ak ae H s1) E s
 self:∀(A:dq)(i:Nat)(s:aM)(Q:ar->aM->Prop)(E:ar->aM->Prop),iF i s.heap->Q (.ref it) s->bP (model P w) A (pyIter (.ref it)) Q E s
noncomputable abbrev dJ:=St->aq->(ko->aq->Prop)->Prop
def Ed(X:bA)(ak:List (ag×bH))(ae:St)(eD:cu)(R:ko->aq->Prop)(HT:ar)(s2:aM):Prop :=
 ∃(it:ag)(b9:List ag)(iF:Nat->br->Prop)(en:ko)(H':aq),HT=.ref it/\Inv X ak ae H' s2/\Turn X.prog X.w X.K eD en b9 it iF/\iF 0 s2.heap/\(∀b∈b9,pS X ak H' b)/\R en H'
def i2(X:bA)(eD iter:cu)(iG:dJ):Prop :=
 ∀(ak:List (ag×bH))(s:aM)(ae:St)(H:aq)(R:ko->aq->Prop),Inv X ak ae H s->iG ae H R->
  bP (model X.prog X.w) X.A (eval iter X.env) (fun v s1=>bP (model X.prog X.w) X.A (pyIter v) (Ed X ak ae eD R) X.xe s1) X.xe s
theorem xK{n:String}{vs:Array ar}(aL:s.heap.get? it=J o)(hc:o.cls=.type n)(hd:o.data=.fields vs)
    (aZ:["enumerate","zip","dict_itemiterator","dict_reverseitemiterator","odict_iterator","itertools.zip_longest","itertools.pairwise"].contains n=aA) (gh:Q () s):bP M A (letOwnedTupleGo eD (.ref it) u) Q E s:=by
  unfold letOwnedTupleGo
  cases eD<;>first
    |exact ey gh
    |(cases u<;>first
        |exact ey gh
        | (refine b3 (wpAny_load aL ?_)
           rw[hc,hd]
           show bP M A (if(["enumerate","zip","dict_itemiterator","dict_reverseitemiterator","odict_iterator","itertools.zip_longest","itertools.pairwise"].contains n&&vs[0]? == J (rawInt _))=au then _ else _) Q E s
           rw[if_neg (by intro h;rw[aZ,Bool.false_and]at h;cases h)]
           exact ey gh))
noncomputable def pT(K:bK)(a:ag):ko :=
 ⟨fun i H=>∃xs x,c3 K H a xs/\xs[i]?=J x,fun i H x H'=>H'=H/\∀xs,c3 K H a xs->xs[i]?=J x,fun i H=>∃xs,c3 K H a xs/\xs.length<=i⟩
noncomputable def sm(lo:Int)(n:Nat):ko:=⟨fun i _=>i<n,fun i H x H'=>H'=H/\x=.int (lo+i),fun i _=>n<=i⟩
theorem XW(a it:ag):Turn P w K eD (pT K a) [it] it (fun i h=>h.IsListIter it a i) where
 mem:=by simp
 obj:=fun i h st b aj=>by
  have e:b=it:=by simpa using aj
  subst e
  obtain⟨o,e,c,d⟩:=st
  exact⟨o,e,fun v z=>by rw[d]at z;cases z⟩
 keep:=fun i h h' st k=>st.at fun o e=>k it (by simp) o e
 item:=by
  intro X cP hw gm hc i ak s ae H E aa aH st bb
  subst cP hw gm
  obtain⟨xs,x,aY,ay⟩:=bb
  obtain⟨bj,dN,p,bL⟩:=aa.list aY
  obtain⟨u,da,fc⟩:=dN.get ay
  obtain⟨f0,f1,f2,hP,f4,h2⟩:=aH it (by simp)
  refine wpAny_pyNext_list_item st p.isList (x:=u) (by simpa using da) fun h' hR nK=>?_
  have bf:Inv X ak ae H {s with heap:=h'}:=aa.turned (t':=s.toks) (fun b o aj e=>(nK.2 b aj).trans e) f0 f1 hP f4 h2
  obtain⟨o,e,c,d⟩:=id hR
  exact⟨u,I,xK (s:={s with heap:=h'}) e c d (by decide) ⟨x,H,bf,fc,⟨I,fun aN bV=>by rw[aa.ad0 bV aY];exact ay⟩,hR,fun b aj=>(aH b aj).1⟩⟩
 done:=by
  intro X cP hw gm hc i ak s ae H E aa aH st bb
  subst cP hw gm
  obtain⟨xs,aY,ay⟩:=bb
  obtain⟨bj,dN,p,bL⟩:=aa.list aY
  obtain⟨f0,f1,f2,hP,f4,h2⟩:=aH it (by simp)
  have aC:=dN.length
  exact wpAny_pyNext_list_end (aa.ok.hd hc) st p.isList (by simp;omega) fun h' fk=>⟨I,aa.turned (t':=s.toks) (fun b o aj e=>fk b o aj e) f0 f1 hP f4 h2⟩
 self:=fun _ _ _ _ _ st h=>wpAny_pyIter_listiter st h
theorem Xr(it:ag)(lo:Int)(n:Nat):Turn P w K eD (sm lo n) [it] it (fun i h=>IsRangeIter h it (lo+(i:Nat)*1) ((n:Int)-(i:Nat)) 1) where
 mem:=by simp
 obj:=fun i h st b aj=>by
  have e:b=it:=by simpa using aj
  subst e
  exact⟨_,st,fun v z=>by
   have oR:Data.fields _=Data.cell v:=z
   cases oR⟩
 keep:=fun i h h' st k=>k it (by simp) _ st
 item:=by
  intro X cP hw gm hc i ak s ae H E aa aH st bb
  subst cP hw gm
  obtain⟨f0,f1,f2,hP,f4,h2⟩:=aH it (by simp)
  have W:=Walks.range (prog:=X.prog) (w:=X.w) (aa.ok.hd hc) it lo 1 n
  refine W.item i s _ _ bb st fun v h' dg b5 hR eK=>?_
  obtain⟨t,rfl⟩:=b5
  have bf:Inv X ak ae H {s with heap:=h',toks:=dg}:=aa.turned (fun b o aj e=>eK b o (by simpa using aj) e) f0 f1 hP f4 h2
  refine⟨_,I,xK (s:={s with heap:=h',toks:=dg}) (n:="range_iterator") hR I I (by decide) ⟨.int (lo+i),H,bf,⟨t,?_⟩,⟨I,I⟩,hR,fun b aj=>(aH b aj).1⟩⟩
  rw[Int.mul_one]
 done:=by
  intro X cP hw gm hc i ak s ae H E aa aH st bb
  subst cP hw gm
  obtain⟨f0,f1,f2,hP,f4,h2⟩:=aH it (by simp)
  exact wpAny_pyNext_range_end (aa.ok.hd hc) st (by have:n<=i:=bb;omega) fun h' fk=>⟨I,aa.turned (t':=s.toks) (fun b o aj e=>fk b o aj e) f0 f1 hP f4 h2⟩
 self:=fun _ _ _ _ _ st h=>wpAny_pyIter_rangeiter st h
section
variable {X:bA} {eD:cu}
def Ol(K:bK)(eV:TE):dJ:=fun ae H R=>eV ae H fun x H1=>∃a,x=.ref a/\(∃xs,c3 K H1 a xs)/\R (pT K a) H1
theorem S6{l:cu}{eV:TE}(aC:ck X l eV):i2 X eD l (Ol X.K eV):=by
 intro ak s ae H R aa h
 refine cU (aC ak s ae H _ aa h) fun v s1 bM=>?_
 obtain⟨x,H1,bf,cd,cg⟩:=bM
 obtain⟨a,e,⟨xs,aY⟩,q⟩:=cg
 subst e
 cases cd
 obtain⟨bj,dN,p,bL⟩:=bf.list aY
 refine wpAny_pyIter_list p.isList ?_
 refine⟨s1.heap.objs.size,[s1.heap.objs.size],_,_,H1,I,bf.kept (t':=s1.toks) fun b o e=>fO _ e,XW a _,⟨_,hi _ I,I,I⟩,fun b aj=>?_,q⟩
 have e:b=s1.heap.objs.size:=by simpa using aj
 subst e
 exact bf.og (cE _) (bf.aT.fresh (cE _))
theorem Y2{ae:St}{R:ko->aq->Prop}{aJ:Int}{t u v:Tok}{dg:Nat}(aa:Inv X ak ae H s)(al : -(2^62)<=lo)(aw:lo<2^62)(bq : -(2^62)<=aJ)(b4:aJ<2^62)
  (q:R (sm lo (aJ-lo).toNat) H):bP (model X.prog X.w) X.A (pyIter (.ref s.heap.objs.size)) (Ed X ak ae eD R) E {s with heap:=s.heap.push {cls :=.type "range",data :=.fields #[.int lo t,.int aJ u,.int 1 v]},toks:=dg}:=by
 refine wpAny_pyIter_range (IsRange.new ..) (small_one al aw bq b4) ?_
 have bf:Inv X ak ae H {s with heap:=s.heap.push {cls :=.type "range",data :=.fields #[.int lo t,.int aJ u,.int 1 v]},toks:=dg}:=aa.kept fun b o e=>fO _ e
 refine⟨(s.heap.push {cls :=.type "range",data :=.fields #[.int lo t,.int aJ u,.int 1 v]}).objs.size,[(s.heap.push {cls :=.type "range",data :=.fields #[.int lo t,.int aJ u,.int 1 v]}).objs.size],_,_,H,I,
  bf.kept (t':=dg) fun b o e=>fO _ e,Xr _ lo (aJ-lo).toNat,?_,fun b aj=>?_,q⟩
 ·have aU:lo+((0:Nat):Int)*1=lo:=by simp
  have ba:(((aJ-lo).toNat:Nat):Int)-((0:Nat):Int)=cO.Range.rangeSize lo aJ 1:=by rw[rangeSize_one];split<;>omega
  show IsRangeIter _ _ (lo+((0:Nat):Int)*1) ((((aJ-lo).toNat:Nat):Int)-((0:Nat):Int)) 1
  rw[aU,ba]
  exact hi _ I
 ·have e:b=(s.heap.push {cls :=.type "range",data :=.fields #[.int lo t,.int aJ u,.int 1 v]}).objs.size:=by simpa using aj
  subst e
  exact bf.og (cE _) (bf.aT.fresh (cE _))
def adi(cf:gx):dJ:=fun ae H R=>cf ae H fun vs H1=>∃j:Int,vs=[.int j]/\-(2^62)<=j/\j<2^62/\R (sm 0 j.toNat) H1
theorem ob{a:cu}{cf:gx}{p:Pos}(bb:h6 X "range")(hm:X.mg "range"=av)(bh:hr X [a] cf)(hs:dr [a] X.env=[(aA,eval a X.env)]:=by rfl):i2 X eD (.Call (.Name "range" p) [a] [] aV) (adi cf):=by
 intro ak s ae H R aa h
 refine Call_ (nj aa bb hm boot_range (PyProof.Rows.callWith_type1 (cU (bh aV ak s ae H _ aa h) fun us s1 bM=>?_) hs I))
 obtain⟨vs,H1,bf,cd,cg⟩:=bM
 obtain⟨j,e,cg,cj,q⟩:=cg
 subst e
 cases cd with
 |cons r iU =>
  cases iU
  obtain⟨t,rfl⟩:=r
  exact call_range_1 (Y2 bf (by omega) (by omega) cg cj (by simpa using q))
def ahD(iG:dJ)(g:gE)(dp:eW):eW:=fun D ae H=>iG ae H fun en H1=>∃W:Nat->Nat->St->aq->Prop,(∃m,W 0 m ae H1)/\∀i m ae H,W i m ae H->
 (en.stop i H/\D.nx ae H)\/(en.go i H/\∃N:St->aq->Prop,(∀bR H',N bR H'->∃bY,bY<m/\W (i+1) bY bR H')/\∀x H',en.pI i H x H'->g x ae H' fun bC ax=>dp {D with nx:=N,ct:=N,bk:=D.nx} bC ax)
noncomputable def yX(b9:List ag)(h:br):List (ag×bH):=b9.filterMap fun b=>(h.get? b).map fun o=>(b,o)
theorem A1{b:ag}(aj:b∈b9)(e:h.get? b=J o):(b,o)∈yX b9 h:=List.mem_filterMap.mpr ⟨b,aj,by rw[e];rfl⟩
theorem Yh{p:ag×bH}(aO:p∈yX b9 h):p.1∈b9/\h.get? p.1=J p.2:=by
 obtain⟨b,aj,e⟩:=List.mem_filterMap.mp aO
 cases q:h.get? b with
 |none=>rw[q]at e;cases e
 |some o =>
  rw[q]at e
  have e':(b,o)=p:=gy e
  subst e'
  exact⟨aj,q⟩
theorem Inv.pinned{ae:St}(aa:Inv X ak ae H s)(aH:∀b∈b9,pS X ak H b)(aL:∀b∈b9,∃o,s.heap.get? b=J o/\∀v,o.data≠.cell v):Inv X (ak++yX b9 s.heap) ae H s :=
 aa.Iw fun p aO=>(List.mem_append.mp aO).elim (fun z=>aa.pin p (na _ z)) fun z=>by
  obtain⟨aj,e⟩:=Yh z
  obtain⟨f0,f1,f2,_⟩:=aH p.1 aj
  obtain⟨o,e',d⟩:=aL p.1 aj
  rw[e]at e';cases e'
  exact⟨e,f0,f1,f2,d⟩
theorem Inv.Di{pl:List (ag×bH)}{ae:St}(aa:Inv X (ak++pl) ae H s):Inv X ak ae H s:=aa.Iw fun p aO=>aa.pin p (na _ (List.mem_append_left _ aO))
theorem ll{iG:dJ}{g:gE}{dp:eW}(aO:h5 (model X.prog X.w) X.A X.env X.xe)(hc:X.calm=au)(aJ:i2 X eD iter iG)(bb:p2 X eD g)(aj:h7 X body dp)
  (hs:∀x,foldedSetIterable iter X.env x=pure x:=by intro _;rfl):kq X (.For eD iter body [] aV) (ahD iG g dp):=by
 intro ak s ae H D aa h
 refine wpAny_For (cU (aJ ak s ae H _ aa h) fun v s1 al=>cU al fun HT s2 aw=>?_) hs
 obtain⟨it,b9,iF,en,ax,e,bE,T,iV,f2,W,⟨m0,jQ⟩,turn⟩:=aw
 subst e
 have uf:∀{H':aq},(∀b∈b9,H' b=av)->∀b∈b9,pS X ak H' b:=fun aZ b aj=>⟨aZ b aj,(f2 b aj).2⟩
 refine codeAny_forLoop_any (fun n aX=>∃i bR H',Inv X ak bR H' aX/\iF i aX.heap/\(∀b∈b9,H' b=av)/\W i n bR H') ?_ m0 ⟨0,ae,ax,bE,iV,fun b aj=>(f2 b aj).1,jQ⟩
 rintro n iC ⟨i,k8,bJ,gM,kj,xZ,oP⟩
 rcases turn i n k8 bJ oP with⟨stop,yY⟩|⟨go,N,cK,step⟩
 ·refine uy aO (cU (T.done X I I I hc i ak iC k8 bJ X.xe gM (uf xZ) kj stop) fun r qF bM=>?_)
  obtain⟨az,lh⟩:=bM
  subst az
  exact wpAny_execs_nil ⟨k8,bJ,lh,yY⟩
 ·refine uy aO (cU (T.item X I I I hc i ak iC k8 bJ X.xe gM (uf xZ) kj go) fun r qF bM=>?_)
  obtain⟨u,az,b4⟩:=bM
  subst az
  refine uy aO (cU b4 fun _ wC bM=>?_)
  obtain⟨x,fB,kn,qA,Jt,jz,Gv⟩:=bM
  have DX:=kn.pinned (uf Gv) (T.obj _ _ jz)
  refine uy aO (cU (bb _ wC k8 fB x u _ DX qA (step x fB Jt)) fun _ ua bM=>?_)
  obtain⟨wU,d5,lj,qz⟩:=bM
  refine uy aO (cU (aj _ ua wU d5 _ lj qz) fun f pB mW=>?_)
  have again:∀{k9:St}{jj:aq},Inv X (ak++yX b9 wC.heap) k9 jj pB->N k9 jj->∃m,m<n/\∃i bR H',Inv X ak bR H' pB/\iF i pB.heap/\(∀b∈b9,H' b=av)/\W i m bR H':=fun{k9 jj}jV qy=>by
   obtain⟨bY,hm,zl⟩:=cK k9 jj qy
   refine⟨bY,hm,i+1,k9,jj,jV.Di,T.keep _ _ _ jz fun b aj o e=>(jV.pin (b,o) (na _ (na _ (A1 aj e)))).1,fun b aj=>?_,zl⟩
   obtain⟨o,e,d⟩:=T.obj _ _ jz b aj
   exact(jV.pin (b,o) (na _ (na _ (A1 aj e)))).2.1
  cases f with
  |next=>obtain⟨k9,jj,jV,qy⟩:=mW;exact again jV qy
  |cont=>obtain⟨k9,jj,jV,qy⟩:=mW;exact again jV qy
  |brk=>obtain⟨k9,jj,jV,mW⟩:=mW;exact⟨k9,jj,jV.Di,mW⟩
  |ret v=>obtain⟨aix,k9,jj,jV,OX,mW⟩:=mW;exact⟨aix,k9,jj,jV.Di,OX,mW⟩
end
theorem Bk{xs:List V}{g:gE}{dp:eW}{D:Ends}{ae:St}(Pv:Nat->St->aq->Prop)(bg:Pv 0 ae H)(aC:∀i ae H,i<=xs.length->Pv i ae H->c3 K H a xs)
  (hs:∀i x ae H,xs[i]?=J x->Pv i ae H->g x ae H fun bC ax=>dp {D with nx:=Pv (i+1),ct:=Pv (i+1),bk:=D.nx} bC ax) (hd:∀ae H,Pv xs.length ae H->D.nx ae H) :
  ∃W:Nat->Nat->St->aq->Prop,(∃m,W 0 m ae H)/\∀i m ae H,W i m ae H->
   ((pT K a).stop i H/\D.nx ae H)\/((pT K a).go i H/\∃N:St->aq->Prop,(∀bR H',N bR H'->∃bY,bY<m/\W (i+1) bY bR H')/\∀x H',(pT K a).pI i H x H'->g x ae H' fun bC ax=>dp {D with nx:=N,ct:=N,bk:=D.nx} bC ax):=by
 refine⟨fun i m ae H=>m=xs.length-i/\i<=xs.length/\Pv i ae H,⟨xs.length,by simp,UF _,bg⟩,?_⟩
 rintro i m ae H ⟨rfl,aJ,p⟩
 have q:=aC i ae H aJ p
 by_cases iA:i<xs.length
 ·refine .inr ⟨⟨xs,xs[i],q,by simp[iA]⟩,Pv (i+1),fun bR H' tT=>⟨xs.length-(i+1),by omega,rfl,iA,tT⟩,fun x H' y=>?_⟩
  obtain⟨e,y⟩:=y
  subst e
  exact hs i x ae _ (y xs q) p
 ·have e:i=xs.length:=by omega
  subst e
  exact .inl ⟨⟨xs,q,cE _⟩,hd ae H p⟩
theorem qW{g:gE}{dp:eW}{D:Ends}{ae:St}(Pv:Nat->St->aq->Prop)(bg:Pv 0 ae H)
  (hs:∀i ae H,i<n->Pv i ae H->g (.int (lo+i)) ae H fun bC ax=>dp {D with nx:=Pv (i+1),ct:=Pv (i+1),bk:=D.nx} bC ax) (hd:∀ae H,Pv n ae H->D.nx ae H) :
  ∃W:Nat->Nat->St->aq->Prop,(∃m,W 0 m ae H)/\∀i m ae H,W i m ae H->
   ((sm lo n).stop i H/\D.nx ae H)\/((sm lo n).go i H/\∃N:St->aq->Prop,(∀bR H',N bR H'->∃bY,bY<m/\W (i+1) bY bR H')/\∀x H',(sm lo n).pI i H x H'->g x ae H' fun bC ax=>dp {D with nx:=N,ct:=N,bk:=D.nx} bC ax):=by
 refine⟨fun i m ae H=>m=n-i/\i<=n/\Pv i ae H,⟨n,by simp,UF _,bg⟩,?_⟩
 rintro i m ae H ⟨rfl,aJ,p⟩
 by_cases iA:i<n
 ·refine .inr ⟨iA,Pv (i+1),fun bR H' tT=>⟨n-(i+1),by omega,rfl,iA,tT⟩,fun x H' y=>?_⟩
  obtain⟨e,y⟩:=y
  subst e y
  exact hs i ae _ iA p
 ·have e:i=n:=by omega
  subst e
  exact .inl ⟨cE _,hd ae H p⟩
noncomputable abbrev iL:=V->V->aq->bG->Prop
def d6(X:bA)(f:ar->ar->Sem ar)(r:iL):Prop :=
 ∀(ak:List (ag×bH))(s:aM)(ae:St)(H:aq)(x y:V)(v u:ar)(Q:bG),Inv X ak ae H s->RelV x v->RelV y u->r x y H Q->
  bP (model X.prog X.w) X.A (f v u) (iv X ak ae Q) X.xe s
def En(X:bA)(f:ar->Sem ar)(r:V->aq->bG->Prop):Prop :=
 ∀(ak:List (ag×bH))(s:aM)(ae:St)(H:aq)(x:V)(v:ar)(Q:bG),Inv X ak ae H s->RelV x v->r x H Q->
  bP (model X.prog X.w) X.A (f v) (iv X ak ae Q) X.xe s
def jC(X:bA)(f:ar)(r:List V->aq->bG->Prop):Prop :=
 ∀(ak:List (ag×bH))(s:aM)(ae:St)(H:aq)(xs:List V)(us:List ar)(Q:bG),Inv X ak ae H s->Vals xs us->r xs H Q->
  bP (model X.prog X.w) X.A (call f us) (iv X ak ae Q) X.xe s
def SD(X:bA)(r:V->aq->(Bool->aq->Prop)->Prop):Prop :=
 ∀(ak:List (ag×bH))(s:aM)(ae:St)(H:aq)(x:V)(v:ar)(Q:Bool->aq->Prop),Inv X ak ae H s->RelV x v->r x H Q->
  bP (model X.prog X.w) X.A (truthy v) (z8 X ak ae Q) X.xe s
def pE(r:iL)(cf dp:TE):TE:=fun ae H Q=>cf ae H fun x H1=>dp ae H1 fun y ax=>r x y ax Q
def ahT(r:V->aq->bG->Prop)(cf:TE):TE:=fun ae H Q=>cf ae H fun x H1=>r x H1 Q
inductive JU(C:Int->Int->Prop)(x y:V)(Q:Int->Int->Prop):Prop where
 |mk (i j:Int) (a:x=.int i) (b:y=.int j) (c:C i j) (h:Q i j):JU C x y Q
def qB(C:Int->Int->Prop)(g:Int->Int->V):iL:=fun x y H Q=>JU C x y fun i j=>Q (g i j) H
inductive JV(x y:V)(Q:Int->Int->Prop):Prop where
 |mk (i j:Int) (a:x=.int i) (b:y=.int j) (h:Q i j):JV x y Q
def mX(g:Int->Int->V):iL:=fun x y H Q=>JV x y fun i j=>Q (g i j) H
noncomputable def O0(g:Int->V):V->aq->bG->Prop:=fun x H Q=>∃i,x=.int i/\Q (g i) H
variable {f:ar->ar->Sem ar} {r:iL} {g:Int->Int->Int}
section
variable {X:bA} {a b c:cu} {cf dp gu:TE} {aV:Pos}
theorem Gb(bh:ck X a cf)(aj:ck X b dp){ae:St}{R:V->V->aq->Prop}(aa:Inv X ak ae H s)
  (h:cf ae H fun x H1=>dp ae H1 fun y ax=>R x y ax) {Q:ar->aM->Prop}
  (aH:∀v u s2 x y ax,Inv X ak ae ax s2->RelV x v->RelV y u->R x y ax->bP (model X.prog X.w) X.A (f v u) Q X.xe s2) :
  bP (model X.prog X.w) X.A (eval a X.env) (fun v eh=>bP (model X.prog X.w) X.A (eval b X.env) (fun u nM=>bP (model X.prog X.w) X.A (f v u) Q X.xe nM) X.xe eh) X.xe s:=by
 refine cU (bh ak s ae H _ aa h) fun v s1 bM=>?_
 obtain⟨x,H1,bf,cd,cg⟩:=bM
 refine cU (aj ak s1 ae H1 _ bf cg) fun u s2 bM=>?_
 obtain⟨y,ax,bE,dB,cj⟩:=bM
 exact aH v u s2 x y ax bE cd dB cj
theorem aS{op:Operator}(aL:d6 X (kI op) r)(bh:ck X a cf)(aj:ck X b dp):ck X (.BinOp a op b aV) (pE r cf dp):=by
 intro ak s ae H Q aa h
 exact wpAny_BinOp (Gb bh aj aa h fun v u s2 x y ax bE bu cC q=>aL ak s2 ae ax x y v u Q bE bu cC q)
theorem lD{op:UnaryOp}{r:V->aq->bG->Prop}(aL:En X (unaryOp op) r)(bh:ck X a cf):ck X (.UnaryOp op a aV) (ahT r cf):=by
 intro ak s ae H Q aa h
 refine UnaryOp_ (cU (bh ak s ae H _ aa h) fun v s1 bM=>?_)
 obtain⟨x,H1,bf,cd,cg⟩:=bM
 exact aL ak s1 ae H1 x v Q bf cd cg
theorem rJ{C:Int->Int->Prop}
  (rule:∀(i j:Int)(t u:Tok)(s:aM)(Q:ar->aM->Prop)(E:ar->aM->Prop),C i j->Q (.int (g i j) s.toks) {s with toks:=s.toks+1}->bP (model X.prog X.w) X.A (f (.int i t) (.int j u)) Q E s) :
  d6 X f (qB C fun i j =>.int (g i j)):=by
 intro ak s ae H x y v u Q aa bu cC h
 obtain⟨i,j,rfl,rfl,hc,q⟩:=h
 obtain⟨t,rfl⟩:=bu
 obtain⟨t',rfl⟩:=cC
 exact rule i j t t' s _ _ hc ⟨.int (g i j),H,aa.tok _,⟨_,I⟩,q⟩
theorem Ir
  (rule:∀(i j:Int)(t u:Tok)(s:aM)(Q:ar->aM->Prop)(E:ar->aM->Prop),Q (.int (g i j) s.toks) {s with toks:=s.toks+1}->bP (model X.prog X.w) X.A (f (.int i t) (.int j u)) Q E s) :
  d6 X f (mX fun i j =>.int (g i j)):=by
 intro ak s ae H x y v u Q aa bu cC h
 obtain⟨i,j,rfl,rfl,q⟩:=h
 obtain⟨t,rfl⟩:=bu
 obtain⟨t',rfl⟩:=cC
 exact rule i j t t' s _ _ ⟨.int (g i j),H,aa.tok _,⟨_,I⟩,q⟩
theorem CN{g:Int->Int->Bool}
  (rule:∀(i j:Int)(t u:Tok)(s:aM)(Q:ar->aM->Prop)(E:ar->aM->Prop),Q (.bool (g i j)) s->bP (model X.prog X.w) X.A (f (.int i t) (.int j u)) Q E s) :
  d6 X f (mX fun i j =>.aE (g i j)):=by
 intro ak s ae H x y v u Q aa bu cC h
 obtain⟨i,j,rfl,rfl,q⟩:=h
 obtain⟨t,rfl⟩:=bu
 obtain⟨t',rfl⟩:=cC
 exact rule i j t t' s _ _ ⟨.aE (g i j),H,aa,I,q⟩
def Rk(i j:Int):Prop:=0<j/\j<1073741824
def w0(i j:Int):Prop:=0<=j/\j<=1000000/\i.natAbs<2^64
def zw(i j:Int):Prop:=(-(2^64)<i/\i<2^64)\/(-(2^64)<j/\j<2^64)
theorem zw.ok{i j:Int}(h:zw i j):IntMulOk i j:=by
 rcases h with⟨al,aw⟩|⟨al,aw⟩
 .exact .of_left (intBits_le_64 al aw)
 .exact .of_right (intBits_le_64 al aw)
theorem Xq(k:Nat):(0:Int)<=2^k:=by
 rw[two_pow_cast]
 exact Int.natCast_nonneg _
theorem T4:d6 X (kI .Add) (mX fun i j =>.int (i+j)):=Ir fun _ _ _ _ _ _ _ q=>add_int q
theorem TY:d6 X (kI .Sub) (mX fun i j =>.int (i-j)):=Ir fun _ _ _ _ _ _ _ q=>sub_int q
theorem T2:d6 X (kI .Mult) (qB zw fun i j =>.int (i*j)):=rJ fun _ _ _ _ _ _ _ hc q=>mul_int q hc.ok
theorem hx:d6 X (kI .FloorDiv) (qB Rk fun i j =>.int (i/j)):=rJ fun i j _ _ _ _ _ hc q=>by
 have al:(0:Int)<j:=hc.1
 have aw:j<1073741824:=hc.2
 exact floordiv_int (by omega) (by rw[Int.fdiv_eq_ediv_of_nonneg i (by omega)];exact q) (.inl (PyProof.noPylong_small (by omega)))
theorem d2:d6 X (kI .Mod) (qB (fun _ j=>0<j) fun i j =>.int (i%j)):=rJ fun i j _ _ _ _ _ hc q=>by
 have al:(0:Int)<j:=hc
 exact mod_int' (by omega) (by rw[Int.fmod_eq_emod_of_nonneg i (by omega)];exact q)
theorem vx:d6 X (kI .Pow) (qB w0 fun i j =>.int (i^j.toNat)):=rJ fun _ _ _ _ _ _ _ hc q=>pow_int_small hc.1 hc.2.1 hc.2.2 q
theorem F1:d6 X (kI .LShift) (qB w0 fun i j =>.int (i*2^j.toNat)):=rJ fun _ _ _ _ _ _ _ hc q=>lshift_int_small hc.1 hc.2.1 hc.2.2 q
theorem MC:d6 X (kI .RShift) (qB (fun _ j=>0<=j) fun i j =>.int (i/2^j.toNat)):=rJ fun i j _ _ _ _ _ hc q =>
 rshift_int hc (by rw[Int.fdiv_eq_ediv_of_nonneg i (Xq _)];exact q)
theorem T3:d6 X (kI .BitAnd) (mX fun i j =>.int (cO.bitAnd i j)):=Ir fun _ _ _ _ _ _ _ q=>and_int q
theorem aiv{f:ar->Sem ar}{g:Int->Int}
  (rule:∀(i:Int)(t:Tok)(s:aM)(Q:ar->aM->Prop)(E:ar->aM->Prop),Q (.int (g i) s.toks) {s with toks:=s.toks+1}->bP (model X.prog X.w) X.A (f (.int i t)) Q E s) :
  En X f (O0 fun i =>.int (g i)):=by
 intro ak s ae H x v Q aa bu h
 obtain⟨i,rfl,q⟩:=h
 obtain⟨t,rfl⟩:=bu
 exact rule i t s _ _ ⟨.int (g i),H,aa.tok _,⟨_,I⟩,q⟩
theorem ly:En X (unaryOp .USub) (O0 fun i =>.int (-i)):=aiv fun _ _ _ _ _ q=>neg_int q
end
noncomputable def O4:V->V->Bool
 |.bc,.bc=>au|.bc,.int _=>au|.int _,.bc=>au|.bc,.aE _=>au|.aE _,.bc=>au|.bc,.str _=>au|.str _,.bc=>au
 |.int _,.int _=>au|.aE _,.aE _=>au|.str _,.str _=>au|.kS _,.kS _=>au
 |.int _,.str _=>au|.str _,.int _=>au|.aE _,.str _=>au|.str _,.aE _=>au
 |_,_=>aA
def CR:iL:=fun x y H Q=>O4 x y=au/\Q (.aE (decide (x=y))) H
def OZ:iL:=fun x y H Q=>O4 x y=au/\Q (.aE (!decide (x=y))) H
theorem xD{i j:Int}:decide (V.int i=V.int j)=(i == j):=by
 rw[Bool.eq_iff_iff]
 simp
theorem MP{i j:Bool}:decide (V.aE i=V.aE j)=(i == j):=by
 rw[Bool.eq_iff_iff]
 simp
theorem Mm{i j:ah}:decide (V.str i=V.str j)=(i == j):=by
 rw[Bool.eq_iff_iff]
 simp
theorem Mn{i j:Array UInt8}:decide (V.kS i=V.kS j)=(i.toList == j.toList):=by
 rw[Bool.eq_iff_iff]
 cases i
 cases j
 simp
section
variable {X:bA} {a b c:cu} {cf dp gu:TE} {aV:Pos}
theorem eX{ae:St}{Q:bG}{k hD:Bool}(aa:Inv X ak ae H s)(q:Q (.aE k) H)(e:k=hD):iv X ak ae Q (.bool hD) s:=by
 subst e
 exact⟨.aE k,H,aa,I,q⟩
theorem Uw:d6 X (hS .Eq) CR:=by
 intro ak s ae H x y v u Q aa bu cC h
 obtain⟨hs,q⟩:=h
 cases x with
 |bc =>
  cases bu
  cases y with
  |bc=>cases cC;exact PySem.EqNone.eq_none_none (eX aa q (by simp))
  |aE j=>cases cC;exact PySem.EqNone.eq_none_bool (eX aa q (by simp))
  |int j=>obtain⟨t',rfl⟩:=cC;exact PySem.EqNone.eq_none_int (eX aa q (by simp))
  |str j=>obtain⟨t',rfl⟩:=cC;exact PySem.EqNone.eq_none_str (eX aa q (by simp))
  |_=>exact absurd (show aA=au from hs) ht
 |aE i =>
  cases bu
  cases y with
  |bc=>cases cC;exact PySem.EqNone.eq_bool_none (eX aa q (by simp))
  |aE j=>cases cC;exact eq_bool (eX aa q MP)
  |str j=>obtain⟨t',rfl⟩:=cC;exact PySem.EqMixed.eq_bool_str (eX aa q (by simp))
  |_=>exact absurd (show aA=au from hs) ht
 |int i =>
  obtain⟨t,rfl⟩:=bu
  cases y with
  |bc=>cases cC;exact PySem.EqNone.eq_int_none (eX aa q (by simp))
  |int j=>obtain⟨t',rfl⟩:=cC;exact eq_int (eX aa q xD)
  |str j=>obtain⟨t',rfl⟩:=cC;exact PySem.EqMixed.eq_int_str (eX aa q (by simp))
  |_=>exact absurd (show aA=au from hs) ht
 |str i =>
  obtain⟨t,rfl⟩:=bu
  cases y with
  |bc=>cases cC;exact PySem.EqNone.eq_str_none (eX aa q (by simp))
  |aE j=>cases cC;exact PySem.EqMixed.eq_str_bool (eX aa q (by simp))
  |int j=>obtain⟨t',rfl⟩:=cC;exact PySem.EqMixed.eq_str_int (eX aa q (by simp))
  |str j=>obtain⟨t',rfl⟩:=cC;exact eq_str (eX aa q Mm)
  |_=>exact absurd (show aA=au from hs) ht
 |kS i =>
  obtain⟨t,rfl⟩:=bu
  cases y with
  |kS j=>obtain⟨t',rfl⟩:=cC;exact PySem.W.eq_bytes (eX aa q Mn)
  |_=>exact absurd (show aA=au from hs) ht
 |_=>cases y<;>exact absurd (show aA=au from hs) ht
theorem Ur:d6 X (hS .NotEq) OZ:=by
 intro ak s ae H x y v u Q aa bu cC h
 obtain⟨hs,q⟩:=h
 cases x with
 |bc =>
  cases bu
  cases y with
  |bc=>cases cC;exact PySem.EqNone.ne_none_none (eX aa q (by simp))
  |aE j=>cases cC;exact PySem.EqNone.ne_none_bool (eX aa q (by simp))
  |int j=>obtain⟨t',rfl⟩:=cC;exact PySem.EqNone.ne_none_int (eX aa q (by simp))
  |str j=>obtain⟨t',rfl⟩:=cC;exact PySem.EqNone.ne_none_str (eX aa q (by simp))
  |_=>exact absurd (show aA=au from hs) ht
 |aE i =>
  cases bu
  cases y with
  |bc=>cases cC;exact PySem.EqNone.ne_bool_none (eX aa q (by simp))
  |aE j=>cases cC;exact ne_bool (eX aa q (congrArg not MP))
  |str j=>obtain⟨t',rfl⟩:=cC;exact PySem.EqMixed.ne_bool_str (eX aa q (by simp))
  |_=>exact absurd (show aA=au from hs) ht
 |int i =>
  obtain⟨t,rfl⟩:=bu
  cases y with
  |bc=>cases cC;exact PySem.EqNone.ne_int_none (eX aa q (by simp))
  |int j=>obtain⟨t',rfl⟩:=cC;exact ne_int (eX aa q (congrArg not xD))
  |str j=>obtain⟨t',rfl⟩:=cC;exact PySem.EqMixed.ne_int_str (eX aa q (by simp))
  |_=>exact absurd (show aA=au from hs) ht
 |str i =>
  obtain⟨t,rfl⟩:=bu
  cases y with
  |bc=>cases cC;exact PySem.EqNone.ne_str_none (eX aa q (by simp))
  |aE j=>cases cC;exact PySem.EqMixed.ne_str_bool (eX aa q (by simp))
  |int j=>obtain⟨t',rfl⟩:=cC;exact PySem.EqMixed.ne_str_int (eX aa q (by simp))
  |str j=>obtain⟨t',rfl⟩:=cC;exact ne_str (eX aa q (congrArg not Mm))
  |_=>exact absurd (show aA=au from hs) ht
 |kS i =>
  obtain⟨t,rfl⟩:=bu
  cases y with
  |kS j=>obtain⟨t',rfl⟩:=cC;exact PySem.W.ne_bytes (eX aa q (congrArg not Mn))
  |_=>exact absurd (show aA=au from hs) ht
 |_=>cases y<;>exact absurd (show aA=au from hs) ht
theorem Us:d6 X (hS .Lt) (mX fun i j =>.aE (decide (i<j))):=CN fun _ _ _ _ _ _ _ q=>lt_int q
theorem Ut:d6 X (hS .LtE) (mX fun i j =>.aE (decide (i<=j))):=CN fun _ _ _ _ _ _ _ q=>le_int q
theorem Uu:d6 X (hS .Gt) (mX fun i j =>.aE (decide (j<i))):=CN fun _ _ _ _ _ _ _ q=>gt_int q
theorem Uv:d6 X (hS .GtE) (mX fun i j =>.aE (decide (j<=i))):=CN fun _ _ _ _ _ _ _ q=>ge_int q
inductive z4(x y:V)(Q:ah->ah->Prop):Prop where
 |mk (i j:ah) (a:x=.str i) (b:y=.str j) (h:Q i j):z4 x y Q
theorem Yd:d6 X (hS .Lt) (fun x y H Q=>z4 x y fun i j=>Q (.aE (decide (i.cps.toList<j.cps.toList))) H):=by
 intro ak s ae H x y v u Q aa bu cC h
 obtain⟨i,j,rfl,rfl,q⟩:=h
 obtain⟨t,rfl⟩:=bu
 obtain⟨t',rfl⟩:=cC
 exact lt_str (eX aa q I)
theorem Yf:d6 X (hS .In) (fun x y H Q=>z4 x y fun i j=>Q (.aE (!(cO.Str.occurrences j i 0 j.length 1).isEmpty)) H):=by
 intro ak s ae H x y v u Q aa bu cC h
 obtain⟨i,j,rfl,rfl,q⟩:=h
 obtain⟨t,rfl⟩:=bu
 obtain⟨t',rfl⟩:=cC
 exact in_str (eX aa q I)
theorem xH:d6 X (hS .Is) (fun x y H Q=>y=.bc/\Q (.aE (decide (x=.bc))) H):=by
 intro ak s ae H x y v u Q aa bu cC h
 obtain⟨rfl,q⟩:=h
 cases cC
 refine is_none_gen (eX aa q ?_)
 cases x<;>first
  |(cases bu;rfl)
  |(obtain⟨t,rfl⟩:=bu;rfl)
theorem d6.or{e1:iL}(h:d6 X f r)(h':d6 X f e1):d6 X f (fun x y H Q=>r x y H Q\/e1 x y H Q):=by
 intro ak s ae H x y v u Q aa bu cC q
 rcases q with q|q
 .exact h ak s ae H x y v u Q aa bu cC q
 .exact h' ak s ae H x y v u Q aa bu cC q
theorem ME(b:cu)(h:op≠.In:=by decide)(aw:op≠.NotIn:=by decide):behindInMarks op b=aA:=by
 have aU:(op == CmpOp.In)=aA:=by cases op<;>first|rfl|exact absurd I h
 have ba:(op == CmpOp.NotIn)=aA:=by cases op<;>first|rfl|exact absurd I aw
 cases b<;>simp[behindInMarks,aU,ba]
theorem FW(aL:d6 X (hS op) r)(bh:ck X a cf)(aj:ck X b dp)(hm:behindInMarks op b=aA):ck X (.Compare a [op] [b] aV) (pE r cf dp):=by
 intro ak s ae H Q aa h
 exact wpAny_Compare1 (Gb bh aj aa h fun v u s2 x y ax bE bu cC q=>aL ak s2 ae ax x y v u Q bE bu cC q) hm
inductive J0(x:V)(Q:Bool->Prop):Prop where
 |mk (k:Bool) (a:x=.aE k) (h:Q k):J0 x Q
def C9(t:TE):gO:=fun ae H Q=>t ae H fun x H'=>J0 x fun k=>Q k H'
theorem xA(aL:d6 X (hS op) r)(bh:ck X a cf)(aj:ck X b dp)(hm:behindInMarks op b=aA):kO X (.Compare a [op] [b] aV) (C9 (pE r cf dp)):=by
 intro ak s ae H Q aa h
 refine wpAny_isTrue_Compare1 (cU (bh ak s ae H _ aa h) fun v s1 ⟨x,H1,bf,cd,cg⟩=>cU (aj ak s1 ae H1 _ bf cg) fun u s2 ⟨y,ax,bE,dB,cj⟩ =>
  cU (aL ak s2 ae ax x y v u _ bE cd dB cj) fun c iC ⟨z,bJ,gM,yZ,k,e,eN⟩=>?_) hm
 subst e
 cases yZ
 exact zu ⟨bJ,gM,eN⟩
def Aa(K:bK)(x:V)(H:aq)(k:Bool):Prop :=
 match x with
 |.bc=>k=aA
 |.aE b=>k=b
 |.int i=>k=(i != 0)
 |.str y=>y.length<=bU/\k=((y.length:Int) != 0)
 |.kS y=>y.size<=bU/\k=((y.size:Int) != 0)
 |.ref p=>(∃xs,c3 K H p xs/\k=!xs.isEmpty)\/(∃xs,gY K H p xs/\k=!xs.isEmpty)\/∃fY,H p=J (.mD fY)/\k=!fY.isEmpty
 |_=>False
theorem XN{uv:Type}{fY:List (uv×V)}{vs:List (uv×ar)}(r:D0 fY vs):(!vs.isEmpty)=!fY.isEmpty:=by
 cases r<;>rfl
theorem K3{xs:List V}(r:Vals xs bj):(!bj.toArray.isEmpty)=!xs.isEmpty:=by
 cases r<;>simp
theorem wg:(bU:Nat)<2^63:=by rw[sizeLine_eq];decide
theorem Ms:SD X (fun x H Q=>∃k,Aa X.K x H k/\Q k H):=by
 intro ak s ae H x v Q aa bu h
 obtain⟨k,e,q⟩:=h
 have aC:=wg
 have hs:bU=16777216:=sizeLine_eq
 cases x with
 |bc =>
  cases bu
  have e':k=aA:=e
  subst e'
  exact truthy_none ⟨H,aa,q⟩
 |aE b =>
  cases bu
  have e':k=b:=e
  subst e'
  exact zu ⟨H,aa,q⟩
 |int i =>
  obtain⟨t,rfl⟩:=bu
  have e':k=(i != 0):=e
  subst e'
  exact PySem.P.truthy_int ⟨H,aa,q⟩
 |str y =>
  obtain⟨t,rfl⟩:=bu
  obtain⟨bV,e'⟩:y.length<=bU/\k=((y.length:Int) != 0):=e
  subst e'
  exact PySem.P.truthy_str (by omega) ⟨H,aa.tok _,q⟩
 |kS y =>
  obtain⟨t,rfl⟩:=bu
  obtain⟨bV,e'⟩:y.size<=bU/\k=((y.size:Int) != 0):=e
  subst e'
  exact PySem.W.truthy_bytes (by omega) ⟨H,aa.tok _,q⟩
 | ref p =>
  cases bu
  have e':(∃xs,c3 X.K H p xs/\k=!xs.isEmpty)\/(∃xs,gY X.K H p xs/\k=!xs.isEmpty)\/∃fY,H p=J (.mD fY)/\k=!fY.isEmpty:=e
  rcases e' with⟨xs,ay,e'⟩|⟨xs,ay,e'⟩|⟨fY,ay,e'⟩
  ·subst e'
   obtain⟨bj,r,pl,bL⟩:=aa.list ay
   have cB:=r.length
   exact wpAny_truthy_list pl.isList (by simp only[eH];omega) ⟨H,aa.tok _,by rw[K3 r];exact q⟩
  ·subst e'
   obtain⟨bj,r,pl,bL⟩:=aa.tuple ay
   have cB:=r.length
   exact truthy_tuple pl (by simp only[eH];omega) ⟨H,aa.tok _,by rw[K3 r];exact q⟩
  ·subst e'
   obtain⟨bL,c9,vs,r,m⟩:fY.length<=bU/\(p == sysModules)=aA/\∃vs,D0 fY vs/\s.heap.DictOf (OC X.prog X.w) p vs:=aa.aT p _ ay
   have cB:fY.length=vs.length:=Paired.length r
   exact wpAny_truthy_dict c9 m (by omega) ⟨H,aa.tok _,by rw[XN r];exact q⟩
 |_=>exact(show False from e).elim
theorem Y4(bh:ck X a cf)(he:∀whole,isTrue a X.env whole=(do let v <-whole;standAt a.pos;holding [v] (truthy v))):
  kO X a (fun ae H Q=>cf ae H fun x H'=>∃k,Aa X.K x H' k/\Q k H'):=by
 intro ak s ae H Q aa h
 refine isTrue_plain (cU (bh ak s ae H _ aa h) fun v s1 bM=>?_) (he _)
 obtain⟨x,H1,bf,cd,cg⟩:=bM
 exact Ms ak s1 ae H1 x v Q bf cd cg
inductive JW(x y:V)(Q:ah->ah->Prop):Prop where
 |mk (i j:ah) (a:x=.str i) (b:y=.str j) (c:i.length+j.length<=bU) (h:Q i j):JW x y Q
theorem XB:d6 X (kI .Add) (fun x y H Q=>JW x y fun i j=>Q (.str (i++j)) H):=by
 intro ak s ae H x y v u Q aa bu cC h
 obtain⟨i,j,rfl,rfl,bL,q⟩:=h
 obtain⟨t,rfl⟩:=bu
 obtain⟨t',rfl⟩:=cC
 exact add_str (fun t' dg=>⟨.str (i++j),H,aa.tok _,⟨_,I⟩,q⟩) bL
theorem vals1{x:V}(r:Vals [x] us):∃u,us=[u]/\RelV x u:=by
 cases r with
 |cons cd dB=>cases dB;exact⟨_,I,cd⟩
theorem vals2{x:V}(r:Vals [x,y] us):∃u iu,us=[u,iu]/\RelV x u/\RelV y iu:=by
 cases r with
 |cons cd dB =>
  cases dB with
  |cons yZ t8=>cases t8;exact⟨_,_,I,cd,yZ⟩
theorem Zt:jC X (.builtin "abs") (fun xs H Q=>∃i,xs=[.int i]/\Q (.int (if i<0 then -i else i)) H):=by
 intro ak s ae H xs us Q aa r h
 obtain⟨i,rfl,q⟩:=h
 obtain⟨u,rfl,t,rfl⟩:=vals1 r
 exact call_abs_int fun u dg=>⟨.int (if i<0 then -i else i),H,aa.tok _,⟨_,rfl⟩,q⟩
theorem Zip(hc:X.calm=au):jC X (.builtin "min") (fun xs H Q=>∃i j,xs=[.int i,.int j]/\Q (.int (if j<i then j else i)) H):=by
 intro ak s ae H xs us Q aa r h
 obtain⟨i,j,rfl,q⟩:=h
 obtain⟨u,iu,rfl,⟨t,rfl⟩,⟨t',rfl⟩⟩:=vals2 r
 refine min_two_ints (aa.ok.hd hc) fun h' dg k=>⟨_,H,aa.kept k,?_,q⟩
 by_cases cw:j<i
 .rw[if_pos cw,if_pos cw];exact⟨_,I⟩
 .rw[if_neg cw,if_neg cw];exact⟨_,I⟩
theorem YH:jC X (.type "int") (fun xs H Q=>(∃i,xs=[.int i]/\Q (.int i) H)\/∃k,xs=[.aE k]/\Q (.int (if k then 1 else 0)) H):=by
 intro ak s ae H xs us Q aa r h
 rcases h with⟨i,rfl,q⟩|⟨k,rfl,q⟩
 ·obtain⟨u,rfl,t,rfl⟩:=vals1 r
  exact call_int_int ⟨.int i,H,aa,⟨_,I⟩,q⟩
 ·obtain⟨u,rfl,cd⟩:=vals1 r
  cases cd
  exact call_int_bool ⟨.int (if k then 1 else 0),H,aa.tok _,⟨_,rfl⟩,q⟩
def Sk(K:bK)(x:V)(H:aq)(n:Nat):Prop :=
 match x with
 |.str y=>y.length<=bU/\n=y.length
 |.kS y=>y.size<=bU/\n=y.size
 |.ref p=>(∃xs,c3 K H p xs/\n=xs.length)\/∃xs,gY K H p xs/\n=xs.length
 |_=>False
inductive JN(K:bK)(xs:List V)(H:aq)(Q:Nat->Prop):Prop where
 |mk (x:V) (n:Nat) (a:xs=[x]) (b:Sk K x H n) (h:Q n):JN K xs H Q
theorem ep:jC X (.builtin "len") (fun xs H Q=>JN X.K xs H fun n=>Q (.int n) H):=by
 intro ak s ae H xs us Q aa r h
 obtain⟨x,n,rfl,e,q⟩:=h
 obtain⟨u,rfl,bu⟩:=vals1 r
 have aC:=wg
 have hs:bU=16777216:=sizeLine_eq
 cases x with
 |str y =>
  obtain⟨t,rfl⟩:=bu
  obtain⟨bV,e'⟩:y.length<=bU/\n=y.length:=e
  subst e'
  exact len_str (by omega) ⟨.int _,H,aa.tok _,⟨_,I⟩,q⟩
 |kS y =>
  obtain⟨t,rfl⟩:=bu
  obtain⟨bV,e'⟩:y.size<=bU/\n=y.size:=e
  subst e'
  exact PySem.W.len_bytes (by omega) ⟨.int _,H,aa.tok _,⟨_,I⟩,q⟩
 | ref p =>
  cases bu
  have e':(∃xs,c3 X.K H p xs/\n=xs.length)\/∃xs,gY X.K H p xs/\n=xs.length:=e
  rcases e' with⟨xs,ay,e'⟩|⟨xs,ay,e'⟩
  ·subst e'
   obtain⟨bj,e1,pl,bL⟩:=aa.list ay
   have cB:=e1.length
   exact Calls.call_len_list pl.isList (by simp only[eH];omega) ⟨.int xs.length,H,aa.tok _,⟨_,by simp only[eH];rw[cB]⟩,q⟩
  ·subst e'
   obtain⟨bj,e1,pl,bL⟩:=aa.tuple ay
   have cB:=e1.length
   exact len_tuple pl (by simp only[eH];omega) ⟨.int xs.length,H,aa.tok _,⟨_,by simp only[eH];rw[cB]⟩,q⟩
 |_=>exact(show False from e).elim
end
structure sy(h:br)(x ai C:ag)(fz:ah->Option ar):Prop where
 obj:h.get? x=J (mq C ai)
 ns:h.Ns1 ai fz
 ne:ai≠x
theorem Ym{ai:ag}(n:h.Ns1 ai fz):∃od,h.get? ai=J od/\∀name,Jx name od=J (fz name):=by
 obtain⟨o,aK,fK,aL,hd,hk,_,hm⟩:=n
 refine⟨o,aL,fun name=>?_⟩
 have e:=hm name
 unfold nsFind findBy at e
 rw[<-Array.find?_toList]at e
 unfold Jx
 rw[hd]
 dsimp only
 split
 ·rename_i y q
  rw[q]at e
  exact congrArg J e
 ·rename_i q
  rw[q]at e
  have a:aK.toList.any (·.refKey)=aA:=by
   rw[List.any_eq_false]
   intro y bV
   obtain⟨z,t,acd⟩:=hk y (Array.mem_toList_iff.mp bV)
   simp[DictEntry.refKey,acd]
  have Zv:¬aK.toList.any (·.refKey)=au:=by rw[a];exact ht
  rw[if_neg Zv]
  exact congrArg J e
theorem sy.look{x ai:ag}(aa:sy h x ai C fz):∃od,PySem.W.InstAt h x (mq C ai) C (J od)/\∀name,Jx name od=J (fz name) :=
 let ⟨od,aL,aC⟩:=Ym aa.ns
 ⟨od,⟨aa.obj,rfl,rfl,aL⟩,aC⟩
section
variable {prog:c6} {w:cM} {A:dq} {E:ar->aM->Prop} {s:aM} {K:bK} {x ai C f:ag} {fz:ah->Option ar} {name:ah} {v:ar}
theorem get_map{Q:ar->aM->Prop}(X:K.In s.heap)(aa:sy s.heap x ai C fz)(bb:Dv K C name=au)(fb:Jv K C=au)
  (bh:e2 K (.ref C) name=J av) (b5:fz name=J v) (tA:PySem.W.handedIn v=au) (h:Q v {s with toks:=s.toks+1}) :
  bP (model prog w) A (getAttr (.ref x) name expr) Q E s:=by
 obtain⟨od,en,aC⟩:=aa.look
 exact PySem.W.get_value X en (PySem.W.plainGet_of bb).1 (PySem.W.findObj_own fb bh I (by rw[aC,b5])) tA h
theorem Zf{pl:Sem Bool}{Q:ar×List ar->aM->Prop}(X:K.In s.heap)(aa:sy s.heap x ai C fz)(bb:Dv K C name=au)
  (aH:e2 K (.ref C) name=J (J (.ref f))) (bo:Jw K (.ref f)=au) (b5:fz name=av) (h:Q (.ref f,[.ref x]) s) :
  bP (model prog w) A (getMethod (.ref x) name pl) Q E s:=by
 obtain⟨od,en,aC⟩:=aa.look
 exact PySem.W.method_fn X en (PySem.W.plainGet_of bb).1 (PySem.W.plainGet_of bb).2 aH (beq_iff_eq.mp bo) (by show(Jx name od).map (·.isSome)=J aA;rw[aC,b5];rfl) h
theorem S2(X:K.In s.heap)(aa:sy s.heap x ai C fz)
  (hs:e2 K (.ref C) "__setattr__"=J (J (.builtin "object.__setattr__"))) (aO:PySem.W.plainOver K C=au) (bo:PySem.W.takerIn K C name=J av) (fb:Jv K C=au)
  (hw:PySem.Within fz ns) (g7:ns.length<=bU)
  (h:∀h',sy h' x ai C (fun y=>if y=name then J v else fz y)->br.SameBut ai s.heap h'->Q () {s with heap:=h',toks:=s.toks+2}) :
  bP (model prog w) A (setAttr (.ref x) name v) Q E s:=by
 obtain⟨od,en,aC⟩:=aa.look
 refine PySem.W.set_plain X en hs (PySem.W.osa_open (s:={s with toks:=s.toks+1}) (r:=av) X en aO bo fun b=>?_)
 obtain⟨eF,hc,yd⟩:=PySem.W.any_some fb
 have ay:s.heap.get? x=J ⟨.ref C,J ai,.plain,#[]⟩:=aa.obj
 refine b3 (ey (b3 (b3 (wpAny_loadPart ay (b3 (PySem.W.Looks.here (s:={s with toks:=s.toks+1}) (PySem.W.looks_clsIn X hc) ?_))))))
 rw[yd]
 refine ey (a:=J ai) (b3 (ey (b3 ?_)))
 refine wpAny_nsSet1 (s:={s with toks:=s.toks+1}) aa.ns fun h' me fl=>?_
 obtain⟨akn,ajy,ajx,acx,abM,mJ⟩:=me.count (PySem.Within.cons name v hw)
 refine b3 (wpAny_lookBehind acx (by rw[abM];exact pastItsLine_dict (dj mJ (by rw[eA];omega))) ?_)
 exact ey (h _ ⟨(fl.2 _ (d1 aa.ne)).trans aa.obj,me,aa.ne⟩ fl)
theorem LQ{R:Result->aM->Prop}{vs:List ar}(X:K.In s.heap)(hm:zr K C=au)
  (aJ:e2 K (.ref C) "__init__"=J (J (.ref f))) (aH:zt K (.ref f)=J (.type "function"))
  (h:mr (model prog w) (A.under (.builtin "type.__call__" ⟨.ref C::vs,kw⟩)) (.call (.ref f) ⟨.ref (s.heap.objs.size+1)::vs,kw⟩) (PySem.W.InitBack (s.heap.objs.size+1) R)
   {s with heap:=(s.heap.push mn).push (mq C s.heap.objs.size)}) :
  mr (model prog w) A (.call (.ref C) ⟨vs,kw⟩) R s:=by
 obtain⟨fb,g,d,t,os⟩:=s
 exact PySem.W.make_core (PySem.W.makes_of X hm) (PySem.W.looks_findIn X aJ) (fun self=>PySem.W.bind_fn X self aH) (.inl I) h
theorem Yl{R:Result->aM->Prop}(X:K.In s.heap)(hm:zr K C=au)
  (aJ:e2 K (.ref C) "__init__"=J (J (.builtin "object.__init__")))
  (aj:∀self,PySem.W.Looks (model prog w) s.heap (bindSpecial (.builtin "object.__init__") self) (.builtin "object.__init__",[self]))
  (h:mr (model prog w) (A.under (.builtin "type.__call__" ⟨[.ref C],[]⟩)) (.call (.builtin "object.__init__") ⟨[.ref (s.heap.objs.size+1)],[]⟩) (PySem.W.InitBack (s.heap.objs.size+1) R)
   {s with heap:=(s.heap.push mn).push (mq C s.heap.objs.size)}) :
  mr (model prog w) A (.call (.ref C) ⟨[],[]⟩) R s:=by
 obtain⟨fb,g,d,t,os⟩:=s
 exact PySem.W.make_core (PySem.W.makes_of X hm) (PySem.W.looks_findIn X aJ) aj (.inr ⟨I,I⟩) h
end
noncomputable def eU(f:ah)(v:V):List (ah×V)->List (ah×V)
 |[]=>[(f,v)]
 |(g,x)::r=>if g=f then(g,v)::r else(g,x)::eU f v r
theorem KP(f g:ah)(v:V):∀fs:List (ah×V),(eU f v fs).lookup g=if g=f then J v else fs.lookup g
 | []=>by
  show List.lookup g [(f,v)]=_
  by_cases h:g=f
  ·have aj:(g == f)=au:=beq_iff_eq.mpr h
   simp only[List.lookup,aj,if_pos h]
  ·have aj:(g == f)=aA:=beq_eq_false_iff_ne.mpr h
   simp only[List.lookup,aj,if_neg h]
 | (k,x)::r=>by
  have bQ:=KP f g v r
  rw[show eU f v ((k,x)::r)=(if k=f then(k,v)::r else(k,x)::eU f v r)from rfl]
  by_cases hk:k=f
  ·rw[if_pos hk]
   by_cases h:g=k
   ·have aj:(g == k)=au:=beq_iff_eq.mpr h
    simp only[List.lookup,aj,if_pos (h.trans hk)]
   ·have aj:(g == k)=aA:=beq_eq_false_iff_ne.mpr h
    simp only[List.lookup,aj,if_neg (fun e:g=f=>h (e.trans hk.symm))]
  ·rw[if_neg hk]
   by_cases h:g=k
   ·have aj:(g == k)=au:=beq_iff_eq.mpr h
    simp only[List.lookup,aj,if_neg (fun e:g=f=>hk (h.symm.trans e))]
   ·have aj:(g == k)=aA:=beq_eq_false_iff_ne.mpr h
    simp only[List.lookup,aj]
    exact bQ
theorem Fv(f:ah)(v:V):∀fs:List (ah×V),f∈(eU f v fs).map (·.1)/\∀g,g∈fs.map (·.1)->g∈(eU f v fs).map (·.1)
 |[]=>⟨by simp[eU],fun g h=>by simp at h⟩
 | (k,x)::r=>by
  obtain⟨d9,df⟩:=Fv f v r
  rw[show eU f v ((k,x)::r)=(if k=f then(k,v)::r else(k,x)::eU f v r)from rfl]
  by_cases hk:k=f
  ·rw[if_pos hk]
   subst hk
   exact⟨by simp,fun g h=>by simpa using h⟩
  ·rw[if_neg hk]
   refine⟨?_,fun g h=>?_⟩
   ·rw[gF]
    exact dP _ d9
   ·rw[gF]at h ⊢
    rcases cR.mp h with e|e
    .exact cR.mpr (.inl e)
    .exact dP _ (df g e)
theorem KS(f:ah)(v:V):∀fs:List (ah×V),(eU f v fs).length<=fs.length+1
 |[]=>by simp[eU]
 |(k,x)::r=>by
  have bQ:=KS f v r
  rw[show eU f v ((k,x)::r)=(if k=f then(k,v)::r else(k,x)::eU f v r)from rfl]
  by_cases hk:k=f
  .rw[if_pos hk,eA,eA];omega
  .rw[if_neg hk,eA,eA];omega
theorem o2.ahm{v:V}{o:Option ar}(r:o2 (J v) o):∃u,o=J u/\RelV v u:=by
 cases o with
 |none=>exact(show False from r).elim
 |some u=>exact⟨u,I,r⟩
theorem o2.none_of{o:Option ar}(r:o2 av o):o=av:=by
 cases o with
 |none=>rfl
 |some u=>exact(show False from r).elim
theorem Ys{v:V}(r:RelV v u):PySem.W.handedIn u=au:=by
 cases v with
 |bc=>cases(show u=ar.none from r);rfl
 |aE b=>cases(show u=ar.bool b from r);rfl
 |int i=>obtain⟨t,e⟩:=(show ∃t,u=ar.int i t from r);cases e;rfl
 |str x=>obtain⟨t,e⟩:=(show ∃t,u=ar.str x t from r);cases e;rfl
 |kS b=>obtain⟨t,e⟩:=(show ∃t,u=ar.bytes b t from r);cases e;rfl
 |s9 b=>obtain⟨t,e⟩:=(show ∃t,u=ar.float b t from r);cases e;rfl
 |ref a=>cases(show u=ar.ref a from r);rfl
 |ty n=>cases(show u=ar.type n from r);rfl
section
variable {P:c6} {w:cM} {H H':aq} {h h':br} {a C ai:ag} {fs oh:List (ah×V)}
theorem Bx(aT:fG P w H h)(e:H a=J (.ins C ai fs)):∃fz,sy h a ai C fz/\(∀f,o2 (fs.lookup f) (fz f))/\PySem.Within fz (fs.map (·.1))/\fs.length<=1000/\H ai=J (.own a):=by
 obtain⟨d,z,ne,dX,fz,n,r,q⟩:=(show hV P w H h a (.ins C ai fs)from aT a _ e)
 exact⟨fz,⟨dX,n,ne⟩,r,q,z,d⟩
end
structure ff(K:bK)(C:ag):Prop where
 ae1:Dv K C ah.empty=au
 hd:Jv K C=au
 po:PySem.W.plainOver K C=au
 y5:e2 K (.ref C) "__setattr__"=J (J (.builtin "object.__setattr__"))
theorem ff.get(c:ff K C)(f:ah):Dv K C f=au:=c.ae1
def jm(K:bK)(C:ag)(f:ah):Prop:=e2 K (.ref C) f=J av
theorem jm.ah7{f:ah}(n:jm K C f):PySem.W.takerIn K C f=J av:=by
 unfold PySem.W.takerIn
 rw[show e2 K (.ref C) f=J av from n]
 rfl
structure sx(K:bK)(C:ag)(m:ah)(f:ag):Prop where
 at_:e2 K (.ref C) m=J (J (.ref f))
 fn:Jw K (.ref f)=au
 kD:pJ K (.ref f)=au
section
variable {X:bA} {ak:List (ag×bH)} {ae:St} {H:aq} {s:aM} {a C ai:ag} {fs:List (ah×V)} {f:ah} {v:V} {A:dq} {E:ar->aM->Prop}
theorem XQ{b:Bool}{Q:ar->aM->Prop}(aa:Inv X ak ae H s)(e:H a=J (.ins C ai fs))(c:ff X.K C)(n:jm X.K C f)(l:fs.lookup f=J v)
  (h:∀u aX,Inv X ak ae H aX->RelV v u->Q u aX):bP (model X.prog X.w) A (getAttr (.ref a) f b) Q E s:=by
 obtain⟨fz,O,r,_,_,_⟩:=Bx aa.aT e
 obtain⟨u,da,fc⟩:=o2.ahm (v:=v) (o:=fz f) (by rw[<-l];exact r f)
 exact get_map aa.fT O (c.get f) c.hd n da (Ys fc) (h u _ (aa.tok _) fc)
theorem xm{m:ah}{g:ag}{pl:Sem Bool}{Q:ar×List ar->aM->Prop}(aa:Inv X ak ae H s)(e:H a=J (.ins C ai fs))(c:ff X.K C)(k:sx X.K C m g)(l:fs.lookup m=av)
  (h:Q (.ref g,[.ref a]) s):bP (model X.prog X.w) A (getMethod (.ref a) m pl) Q E s:=by
 obtain⟨fz,O,r,_,_,_⟩:=Bx aa.aT e
 have aZ:fz m=av:=o2.none_of (by rw[<-l];exact r m)
 exact Zf aa.fT O (c.get m) k.at_ k.fn aZ h
theorem Xv(aa:Inv X ak ae H s)(e:H a=J (.ins C ai fs))(c:ff X.K C)(n:jm X.K C f)(aC:fs.length<1000)(cC:RelV y u)
  (h:∀aX,Inv X ak ae (upd H a (.ins C ai (eU f y fs))) aX->Q () aX):bP (model X.prog X.w) A (setAttr (.ref a) f u) Q E s:=by
 obtain⟨fz,O,r,iG,_,aL⟩:=Bx aa.aT e
 have bL:(fs.map (·.1)).length<=bU:=by rw[cq,sizeLine_eq];omega
 refine S2 aa.fT O c.y5 c.po n.ah7 c.hd iG bL fun h' Eb nK=>h _ ?_
 have hd:∃o,h'.get? ai=J o:=let ⟨o,_,_,e',_⟩:=Eb.ns;⟨o,e'⟩
 refine aa.write (x:=a) (e:=ai) (by rw[e];exact True.intro) (.inr aL) (fun b q aj z=>(nK.2 b aj).trans z) hd ?_
 refine⟨by rw[bt O.ne];exact aL,?_,O.ne,Eb.obj,_,Eb.ns,fun g=>?_,fun g bb=>?_⟩
 .have:=KS f y fs;omega
 ·show o2 ((eU f y fs).lookup g) (if g=f then J u else fz g)
  rw[KP]
  by_cases q:g=f
  .rw[if_pos q,if_pos q];exact cC
  .rw[if_neg q,if_neg q];exact r g
 ·by_cases q:g=f
  .rw[q];exact(Fv f y fs).1
  ·refine(Fv f y fs).2 g (iG g fun z=>bb ?_)
   show(if g=f then J u else fz g)=av
   rw[if_neg q];exact z
theorem Inv.made(aa:Inv X ak ae H s):Inv X ak ae (upd (upd H s.heap.objs.size (.own (s.heap.objs.size+1))) (s.heap.objs.size+1) (.ins C s.heap.objs.size []))
  {s with heap:=(s.heap.push mn).push (mq C s.heap.objs.size)}:=by
 have aU:(s.heap.push mn).get? s.heap.objs.size=J mn:=hi s.heap rfl
 have ba:((s.heap.push mn).push (mq C s.heap.objs.size)).get? (s.heap.objs.size+1)=J (mq C s.heap.objs.size):=by
  have:=hi (s.heap.push mn) (o:=mq C s.heap.objs.size) rfl
  rwa [br.size_push]at this
 have eM:(s.heap.push mn).Ns s.heap.objs.size (fun _=>av):=⟨mn,#[],_,aU,rfl,(fun e he=>absurd he (by simp)),fun _=>rfl⟩
 have bf:=aa.laid (a:=s.heap.objs.size) (o :=.own (s.heap.objs.size+1)) (h':=s.heap.push mn) (t':=s.toks) (fun b u q=>fO _ q) (cE _) ⟨_,aU⟩
 refine bf.laid (a:=s.heap.objs.size+1) (o :=.ins C s.heap.objs.size []) (t':=s.toks) (fun b u q=>fO _ q) (Nat.le_of_eq (br.size_push _ _)) ?_
 have ne:s.heap.objs.size≠s.heap.objs.size+1:=fU (Nat.lt_succ_self _)
 refine⟨by rw[bt ne,aG],UF _,ne,ba,fun _=>av,(br.Ns1.of_empty eM).at fun o q=>fO _ q,fun _=>True.intro,fun y bV=>absurd rfl bV⟩
theorem TK{f:ah}{s:aM}{Q:ar->aM->Prop}(aj:attributeBase e f env (eval e env)=eval e env)
  (h:bP (model prog w) A (eval e env) (fun o eh=>bP (model prog w) A (getAttr o f au) Q E eh) E s):bP (model prog w) A (eval (.Attribute e f aV) env) Q E s :=
 Attribute_any_ h (by rw[arm_eval_Attribute,aj])
end
inductive JD(K:bK)(f:ah)(x:V)(H:aq)(Q:V->Prop):Prop where
 |mk (a C ai:ag) (fs:List (ah×V)) (v:V) (e:x=.ref a) (h:H a=J (.ins C ai fs)) (c:ff K C) (n:jm K C f) (l:fs.lookup f=J v) (q:Q v):JD K f x H Q
def ahC(K:bK)(cf:TE)(f:ah):TE:=fun ae H Q=>cf ae H fun x H1=>JD K f x H1 fun v=>Q v H1
def ahc(K:bK)(cf wL:TE)(f:ah):eW:=fun D ae H=>wL ae H fun y H1=>cf ae H1 fun x ax=>∃a C ai fs,x=.ref a/\ax a=J (.ins C ai fs)/\ff K C/\jm K C f/\fs.length<1000/\
 D.nx ae (upd ax a (.ins C ai (eU f y fs)))
section
variable {X:bA} {o e value:cu} {f:ah} {aV pos' rQ:Pos} {cf wL:TE}
theorem dw(he:ck X e cf)(aj:attributeBase e f X.env (eval e X.env)=eval e X.env):ck X (.Attribute e f aV) (ahC X.K cf f):=by
 intro ak s ae H Q aa h
 refine TK aj (cU (he ak s ae H _ aa h) fun u s1 bM=>?_)
 obtain⟨x,H1,bf,bu,a,C,ai,fs,v,ex,de,c,n,l,q⟩:=bM
 subst ex
 obtain rfl:u=ar.ref a:=bu
 exact XQ bf de c n l fun u' s2 bE fc=>⟨v,H1,bE,fc,q⟩
theorem hO(bh:ck X o cf)(b5:ck X value wL)(hs:swapsWith value (J (.Attribute o f pos')) aV.line X.env=pure aA):kq X (.Assign [.Attribute o f pos'] value aV) (ahc X.K cf wL f):=by
 intro ak s ae H D aa h
 refine plainObj_wpAny_Assign_Attribute (cU (b5 ak s ae H _ aa h) fun u s1 ⟨y,H1,bf,cC,q⟩=>cU (bh ak s1 ae H1 _ bf q) fun iS s2 bM=>?_) hs
 obtain⟨x,ax,bE,bu,a,C,ai,fs,ex,de,c,n,l,cj⟩:=bM
 subst ex
 obtain rfl:iS=ar.ref a:=bu
 exact Xv bE de c n l cC fun iC gM=>⟨ae,_,gM,cj⟩
end
section
variable {X:bA} {ak:List (ag×bH)} {ae:St} {H:aq} {s:aM} {A:dq} {E:ar->aM->Prop} {Q:ar->aM->Prop} {c:ar} {b:Bool}
inductive lq (K:bK) (H:aq):V->ar->Prop where
 |bc:lq K H .bc (.type "NoneType")
 |aE (x:Bool):lq K H (.aE x) (.type "bool")
 |int (i:Int):lq K H (.int i) (.type "int")
 |str (x:ah):lq K H (.str x) (.type "str")
 |s9 (x:UInt64):lq K H (.s9 x) (.type "float")
 |lst {a:ag} {xs:List V} (e:H a=J (.lst xs)):lq K H (.ref a) (.type "list")
 |iP {a:ag} {o:bH} {xs:List V} (e:H a=J (.iP o (.lst xs))):lq K H (.ref a) (.type "list")
 |tup {a:ag} {xs:List V} (e:H a=J (.tup xs)):lq K H (.ref a) (.type "tuple")
 |mD {a:ag} {fY:List (Key×V)} (e:H a=J (.mD fY)):lq K H (.ref a) (.type "dict")
 |o9 {a:ag} {fY:List (List Key×V)} (e:H a=J (.o9 fY)):lq K H (.ref a) (.type "dict")
 | ins {a C ai:ag} {fs:List (ah×V)} (e:H a=J (.ins C ai fs)) (cl:ff K C) (bh:e2 K (.ref C) "__class__"=J (J (.builtin "object.__class__")))
   (aZ:PySem.W.specialIn K (.builtin "object.__class__") "__get__"=J (J (.builtin "getset_descriptor.__get__"))) (oA:PySem.W.takesIn K (.builtin "object.__class__")=J au)
   (hm:pL K C (.type "object")=J au):lq K H (.ref a) (.ref C)
theorem Lp{x:V}{t:ar}(aa:Inv X ak ae H s)(bu:RelV x u)(ty:lq X.K H x t)(e:fp X.K t c=J b)(h:∀dg,Q (.bool b) {s with toks:=dg}):
  bP (model X.prog X.w) A (call (.builtin "isinstance") [u,c]) Q E s:=by
 cases ty with
 |bc=>cases(show u=ar.none from bu);exact pK PySem.W.kitx_none aa.fT True.intro e (fun z=>nomatch z) h
 |aE y=>cases(show u=ar.bool y from bu);exact pK PySem.W.kitx_bool aa.fT True.intro e (fun z=>nomatch z) h
 |int i=>obtain⟨t,q⟩:=(show ∃t,u=ar.int i t from bu);cases q;exact pK PySem.W.kitx_int aa.fT True.intro e (fun z=>nomatch z) h
 |str y=>obtain⟨t,q⟩:=(show ∃t,u=ar.str y t from bu);cases q;exact pK PySem.W.kitx_str aa.fT True.intro e (fun z=>nomatch z) h
 |s9 y=>obtain⟨t,q⟩:=(show ∃t,u=ar.float y t from bu);cases q;exact pK PySem.W.kitx_float aa.fT True.intro e (fun z=>nomatch z) h
 | @lst a xs de =>
  cases(show u=ar.ref a from bu)
  obtain⟨_,_,n,_,al⟩:=(show hV X.prog X.w H s.heap a (.lst xs)from aa.aT a _ de)
  exact pK PySem.W.kitx_list aa.fT ⟨_,al,I⟩ e (fun z=>nomatch z) h
 | @iP a dX xs de =>
  cases(show u=ar.ref a from bu)
  obtain⟨_,_,_,n,_,al⟩:=(show hV X.prog X.w H s.heap a (.iP dX (.lst xs))from aa.aT a _ de)
  exact pK PySem.W.kitx_list aa.fT ⟨_,al,I⟩ e (fun z=>nomatch z) h
 | @tup a xs de =>
  cases(show u=ar.ref a from bu)
  obtain⟨_,_,_,p⟩:=(show hV X.prog X.w H s.heap a (.tup xs)from aa.aT a _ de)
  obtain⟨o,al,aw,_⟩:=p
  exact pK PySem.W.kitx_tuple aa.fT ⟨o,al,aw⟩ e (fun z=>nomatch z) h
 | @mD a fY de =>
  cases(show u=ar.ref a from bu)
  obtain⟨_,_,vs,_,p⟩:=(show hV X.prog X.w H s.heap a (.mD fY)from aa.aT a _ de)
  obtain⟨o,aK,fK,al,aw,_⟩:=p
  exact pK PySem.W.kitx_dict aa.fT ⟨o,al,aw.1⟩ e (fun z=>nomatch z) h
 | @o9 a fY de=>exact(show False from aa.aT a _ de).elim
 | @ins a C ai fs de cl bh aZ oA hm =>
  cases(show u=ar.ref a from bu)
  obtain⟨fz,O,_⟩:=Bx aa.aT de
  obtain⟨od,en,_⟩:=O.look
  exact pK (PySem.W.kitx_own (cl.get _) cl.hd bh aZ oA hm) aa.fT en e (fun z=>nomatch z) h
end
structure fH(k:Nat)(A:dq):Prop where
 hd:A.handled=av
 l4:A.depth+3*k+5<recursionLimit
 un:A.units+16*k+200<cLine
theorem fH.mono(r:fH k A)(h:j<=k):fH j A:=⟨r.hd,by have:=r.l4;omega,by have:=r.un;omega⟩
theorem fH.deeper(r:fH (k+1) A)(env:Env):fH k (A.deeper env) :=
 ⟨r.hd,by have:=r.l4;show A.depth+1+3*k+5<_;omega,by have:=r.un;show A.units+3+16*k+200<_;omega⟩
theorem XI:(A.under (.builtin "type.__call__" ⟨.ref C::us,kw⟩)).depth=A.depth+1:=by
 first|rfl|simp[dq.under,Code.weight,Code.isCreation,Code.isGuard,Code.isCaller,Code.frames,Code.isFrame,guardIds]
theorem XH:(A.under (.builtin "type.__call__" ⟨.ref C::us,kw⟩)).units=A.units+1:=by
 first|rfl|simp[dq.under,Code.cUnits,Code.frames,Code.isFrame]
theorem fH.make(r:fH (k+1) A)(C:ag)(us:List ar)(kw:List (ah×ar)):fH k (A.under (.builtin "type.__call__" ⟨.ref C::us,kw⟩)) :=
 ⟨r.hd,by have:=r.l4;rw[XI];omega,by have:=r.un;rw[XH];omega⟩
theorem fH.depth(r:fH k A):A.depth<recursionLimit:=by have:=r.l4;omega
noncomputable def C8:gx:=fun _ H Q=>Q [] H
noncomputable def QY(cf:TE)(aiq:gx):gx:=fun ae H Q=>cf ae H fun x H1=>aiq ae H1 fun xs ax=>Q (x::xs) ax
section
variable {X:bA} {e:cu} {aK:List cu} {cL:TE} {t:gx} {aV:Pos}
theorem aB:hr X [] C8:=fun _ _ _ _ H Q aa h=>Calls.spliced_nil ⟨[],H,aa,.nil,h⟩
theorem ao(bh:ck X e cL)(az:hr X aK t)(hs:dr (e::aK) X.env=(aA,eval e X.env)::dr aK X.env:=by rfl):hr X (e::aK) (QY cL t):=by
 intro aV ak s ae H Q aa h
 rw[hs]
 show bP _ _ (spliced ((aA,eval e X.env)::backTo aV (dr aK X.env))) _ _ s
 refine Calls.spliced_cons (cU (bh ak s ae H _ aa h) fun u s1 bM=>?_)
 obtain⟨x,H1,bf,cd,cg⟩:=bM
 refine cU (az aV ak s1 ae H1 _ bf cg) fun us s2 bM=>?_
 obtain⟨xs,ax,bE,dB,cj⟩:=bM
 exact ⟨x::xs,ax,bE,.cons cd dB,cj⟩
def ahS(t:gx):TE:=fun ae H Q=>t ae H fun xs H1=>xs.length<=bU/\∀p,H1 p=av->Q (.ref p) (upd H1 p (.tup xs))
def ahG(t:gx):TE:=fun ae H Q=>t ae H fun xs H1=>xs.length<=bU/\∀p,H1 p=av->Q (.ref p) (upd H1 p (.lst xs))
theorem js{gX}(h:hr X aK t):ck X (.Tuple aK gX aV) (ahS t):=by
 intro ak s ae H Q aa aY
 refine wpAny_Tuple_spliced (cU (h aV ak s ae H _ aa aY) fun us s1 bM=>?_)
 obtain⟨xs,H1,bf,r,z,q⟩:=bM
 refine ⟨by rw[<-r.length];exact z,?_⟩
 have aH:H1 s1.heap.objs.size=av:=bf.aT.fresh (cE _)
 refine⟨.ref s1.heap.objs.size,upd H1 s1.heap.objs.size (.tup xs),bf.laid (t':=s1.toks) (fun b u e=>fO _ e) (cE _) ?_,I,q _ aH⟩
 exact⟨z,us,r,⟨_,hi _ I,I,_,I⟩⟩
theorem eJ(h:hr X aK t):ck X (.List aK aV) (ahG t):=by
 intro ak s ae H Q aa aY
 refine wpAny_List_spliced (cU (h aV ak s ae H _ aa aY) fun us s1 bM=>?_)
 obtain⟨xs,H1,bf,r,z,q⟩:=bM
 refine ⟨by rw[<-r.length];exact z,?_⟩
 have aH:H1 s1.heap.objs.size=av:=bf.aT.fresh (cE _)
 refine⟨.ref s1.heap.objs.size,upd H1 s1.heap.objs.size (.lst xs),bf.laid (t':=s1.toks) (fun b u e=>fO _ e) (cE _) ?_,I,q _ aH⟩
 exact⟨z,us,0,r,hi _ I⟩
end
noncomputable abbrev b0:=List V->aq->bG->bT->Prop
noncomputable abbrev lb:=List Env->aq->aM->bT->ar->aM->Prop
structure sh(P:c6)(w:cM)(K:bK)(mg:ah->Option ar)(base:br)(A:dq)(outer:List Env)(s:aM)(H:aq):Prop where
 frames:A.frames=J outer
 mod:Mod K mg base
 bs:∀b o,base.get? b=J o->s.heap.get? b=J o/\H b=av
 oe:base.objs.size<=s.heap.objs.size
 l6:s.heap.FunFrames base outer
 qh:∀b∈iO outer,H b=av
 aT:fG P w H s.heap
 bare:AllBare s.gens
def Dz(outer:List Env)(P:c6)(w:cM)(H:aq)(s:aM)(Q:bG)(u:ar)(aX:aM):Prop :=
 ∃v H',aX.os=s.os/\AllBare aX.gens/\fW (iO outer) [] H H' s.heap aX.heap/\fG P w H' aX.heap/\RelV v u/\Q v H'
def Rl(CX:lb)(outer:List Env)(P:c6)(w:cM)(H:aq)(s:aM)(Q:bG)(E:bT)(r:Result)(aX:aM):Prop :=
 match r with
 |.ok (.ret u)=>Dz outer P w H s Q u aX
 |.ok _=>False
 |.error e=>CX outer H s E e aX
structure cv(P:c6)(w:cM)(K:bK)(mg:ah->Option ar)(base:br)(CX:lb)(k:Nat)(f:ag)(fd:ho)(aI:List ah)(sp:b0):Prop where
 len:∀vs H Q E,sp vs H Q E->vs.length=aI.length
 run:∀(A:dq)(outer:List Env)(s:aM)(H:aq)(args:Args)(us:List ar)(vs:List V)(Q:bG)(E:bT),fH k A->sh P w K mg base A outer s H->BindsTo s fd args (aI.zip us)->Vals vs us->sp vs H Q E->
  mr (model P w) A (.call (.ref f) args) (Rl CX outer P w H s Q E) s
theorem cv.mono{CX:lb}{f:ag}{sp:b0}(F:cv P w K mg base CX j f fd aI sp)(h:j<=k):
  cv P w K mg base CX k f fd aI sp:=⟨F.len,fun A outer s H args us vs Q E az=>F.run A outer s H args us vs Q E (az.mono h)⟩
theorem sh.make(e:sh P w K mg base A outer s H)(C:ag)(us:List ar)(kw:List (ah×ar)):
  sh P w K mg base (A.under (.builtin "type.__call__" ⟨.ref C::us,kw⟩)) outer s H:=⟨by first|exact e.frames|(simpa [dq.under,Code.envs,Code.isFrame,pushEnvs] using e.frames),e.mod,e.bs,e.oe,e.l6,e.qh,e.aT,e.bare⟩
section
variable {X:bA} {ak:List (ag×bH)} {ae:St} {H:aq} {s aX:aM}
theorem Inv.xW(aa:Inv X ak ae H s):sh X.prog X.w X.K X.mg X.base X.A X.stack s H :=
 ⟨aa.ok.frames,aa.ok.mod,aa.bs,dj aa.ok.oe aa.dI,aa.stack,aa.zj,aa.aT,aa.bare⟩
theorem Inv.after{Q:bG}(aa:Inv X ak ae H s)(h:Dz X.stack X.prog X.w H s Q u aX):iv X ak ae Q u aX:=by
 obtain⟨v,H',os,bare,un,aT,r,q⟩:=h
 obtain⟨fb,g,d,t,yT⟩:=aX
 obtain rfl:yT=s.os:=os
 exact⟨v,H',aa.call (h':=fb) (g':=g) (d':=d) (t':=t) (ch:=[]) un aT bare (fun b z=>absurd z (by simp)),r,q⟩
end
def I8(sp:b0)(dvs:List V)(E:bT)(t:gx):TE:=fun ae H Q=>t ae H fun vs H1=>sp (vs++dvs) H1 Q E
inductive D5(C:ag)(m:ah)(x:V)(H:aq)(R:Prop):Prop where
 |mk (a ai:ag) (fs:List (ah×V)) (e:x=.ref a) (h:H a=J (.ins C ai fs)) (l:fs.lookup m=av) (q:R):D5 C m x H R
def C7(C:ag)(m:ah)(sp:b0)(dvs:List V)(E:bT)(cf:TE)(t:gx):TE:=fun ae H Q=>cf ae H fun x H1=>D5 C m x H1 (
 t ae H1 fun vs ax=>sp (x::(vs++dvs)) ax Q E)
def QZ(C:ag)(sp:b0)(dvs:List V)(E:bT)(t:gx):TE:=fun ae H Q=>t ae H fun vs H1=>∀x ai,H1 x=av->H1 ai=av->ai≠x->
 sp (.ref x::(vs++dvs)) (upd (upd H1 ai (.own x)) x (.ins C ai [])) (fun v ax=>v=.bc/\Q (.ref x) ax) E
def Binds(K:bK)(fd:ho)(aI:List ah)(ds:List ar):Prop :=
 ∀(s:aM)(us:List ar),K.In s.heap->(us++ds).length=aI.length->BindsTo s fd ⟨us,[]⟩ (aI.zip (us++ds))
theorem Binds.all(h:∀us:List ar,us.length=aI.length->bindArgs fd ⟨us,[]⟩=pure (aI.zip us)):Binds K fd aI []:=fun s us _ aC=>by
 rw[List.append_nil]at aC ⊢
 exact .of_eq (h us aC)
def Passes(CX:lb)(X:bA)(E:bT):Prop:=∀(ak:List (ag×bH))(ae:St)(H:aq)(s:aM)(e:ar)(aX:aM),Inv X ak ae H s->CX X.stack H s E e aX->X.xe e aX
section
variable {X:bA} {CX:lb} {k:Nat} {f C:ag} {fd:ho} {aI:List ah} {sp:b0} {dvs:List V} {ds:List ar} {E:bT} {x m:ah} {p aV apos:Pos} {e o:cu} {aK:List cu} {cf:TE} {t:gx}
theorem BB{ae:St}{Q:bG}{vs:List V}(F:cv X.prog X.w X.K X.mg X.base CX k f fd aI sp)(az:fH k X.A)(aj:Binds X.K fd aI ds)(hd:Vals dvs ds)(ay:Passes CX X E)
  (aa:Inv X ak ae H s) (r:Vals vs us) (h:sp (vs++dvs) H Q E):bP (model X.prog X.w) X.A (call (.ref f) us) (iv X ak ae Q) X.xe s:=by
 have dB:Vals (vs++dvs) (us++ds):=r.append hd
 have aC:(us++ds).length=aI.length:=by rw[<-dB.length];exact F.len _ _ _ _ h
 refine ux (m3 (F.run X.A X.stack s H ⟨us,[]⟩ (us++ds) (vs++dvs) Q E az aa.xW (aj s us aa.fT aC) dB h) fun r aX aY=>?_)
 cases r with
 |error e=>exact ay ak ae H s e aX aa aY
 |ok er =>
  cases er with
  |ret u=>exact aa.after aY
  |next=>exact False.elim aY
  |brk=>exact False.elim aY
  |cont=>exact False.elim aY
theorem Tc(F:cv X.prog X.w X.K X.mg X.base CX k f fd aI sp)(az:fH k X.A)(bb:h6 X x)(hm:X.mg x=J (.ref f))(hk:pJ X.K (.ref f)=au)(aj:Binds X.K fd aI ds)(hd:Vals dvs ds)(ay:Passes CX X E)
  (bh:hr X (e::aK) t) (jK:(x == ("__debug__":ah))=aA:=by decide) (he:dr (e::aK) X.env=(aA,eval e X.env)::dr aK X.env:=by rfl) (fR:(backTo aV (dr aK X.env)).any (·.1)=aA:=by rfl) :
  ck X (.Call (.Name x p) (e::aK) [] aV) (I8 sp dvs E t):=by
 intro ak s ae H Q aa h
 refine rX (sP aa bb hm ?_ jK)
 refine wV (h₀:=X.base) aa.ok.mod.pk hk (cU (bh aV ak s ae H _ aa h) fun us s1 bM=>?_) he fR
 obtain⟨vs,H1,bf,r,q⟩:=bM
 refine ⟨bf.fT,?_⟩
 exact BB F az aj hd ay bf r q
theorem S9{pl:Sem Bool}(he:ck X o cf)(c:ff X.K C)(hm:sx X.K C m f)(F:cv X.prog X.w X.K X.mg X.base CX k f fd aI sp)(az:fH k X.A)(aj:Binds X.K fd aI ds)(hd:Vals dvs ds)(ay:Passes CX X E)(bh:hr X (e::aK) t)
  (jM:dr (e::aK) X.env=(aA,eval e X.env)::dr aK X.env:=by rfl) (fR:(backTo aV (dr aK X.env)).any (·.1)=aA:=by rfl)
  (bo:eval (.Call (.Attribute o m apos) (e::aK) [] aV) X.env=(do
   let iS <-eval o X.env
   standAt apos.atName
   let (f,first) <-holding [iS] (getMethod iS m pl)
   callWith aV f first (backTo aV (dr (e::aK) X.env)) (backToKw aV (rW [] X.env))):=by rfl) :
  ck X (.Call (.Attribute o m apos) (e::aK) [] aV) (C7 C m sp dvs E cf t):=by
 intro ak s ae H Q aa h
 refine Du (pl:=pl) (cU (he ak s ae H _ aa h) fun u s1 bM=>?_) bo
 obtain⟨x,H1,bf,bu,a,ai,fs,ex,de,l,q⟩:=bM
 subst ex
 obtain rfl:u=ar.ref a:=bu
 refine xm bf de c hm l ?_
 refine wV (first:=[.ref a]) (h₀:=X.base) aa.ok.mod.pk hm.kD (cU (bh aV ak s1 ae H1 _ bf q) fun us s2 bM=>?_) jM fR
 obtain⟨vs,ax,bE,r,cj⟩:=bM
 refine ⟨bE.fT,?_⟩
 exact BB (us :=.ref a::us) (vs :=.ref a::vs) F az aj hd ay bE (.cons I r) cj
theorem Y6{pl:Sem Bool}(he:ck X o cf)(c:ff X.K C)(hm:sx X.K C m f)(F:cv X.prog X.w X.K X.mg X.base CX k f fd aI sp)(az:fH k X.A)(aj:Binds X.K fd aI ds)(hd:Vals dvs ds)(ay:Passes CX X E)
  (bo:eval (.Call (.Attribute o m apos) [] [] aV) X.env=(do
   let iS <-eval o X.env
   standAt apos.atName
   let (f,first) <-holding [iS] (getMethod iS m pl)
   callWith aV f first (backTo aV (dr [] X.env)) (backToKw aV (rW [] X.env))):=by rfl) :
  ck X (.Call (.Attribute o m apos) [] [] aV) (C7 C m sp dvs E cf C8):=by
 intro ak s ae H Q aa h
 refine Du (pl:=pl) (cU (he ak s ae H _ aa h) fun u s1 bM=>?_) bo
 obtain⟨x,H1,bf,bu,a,ai,fs,ex,de,l,q⟩:=bM
 subst ex
 obtain rfl:u=ar.ref a:=bu
 refine xm bf de c hm l ?_
 exact PySem.W.callWith_K0 (first:=[.ref a]) bf.fT hm.kD (BB (us:=[.ref a]) (vs:=[.ref a]) F az aj hd ay bf (.cons I .nil) q)
structure xc(K:bK)(C f:ag):Prop where
 makes:zr K C=au
 init:e2 K (.ref C) "__init__"=J (J (.ref f))
 fn:Jw K (.ref f)=au
 kD:pJ K (.ref C)=au
theorem YZ{ae:St}{Q:bG}{vs:List V}(M:xc X.K C f)(F:cv X.prog X.w X.K X.mg X.base CX k f fd aI sp)(az:fH (k+1) X.A)(aj:Binds X.K fd aI ds)(hd:Vals dvs ds)
  (ay:Passes CX X E) (aa:Inv X ak ae H s) (r:Vals vs us)
  (h:∀x ai,H x=av->H ai=av->ai≠x->sp (.ref x::(vs++dvs)) (upd (upd H ai (.own x)) x (.ins C ai [])) (fun v ax=>v=.bc/\Q (.ref x) ax) E) :
  bP (model X.prog X.w) X.A (call (.ref C) us) (iv X ak ae Q) X.xe s:=by
 have aY:=h (s.heap.objs.size+1) s.heap.objs.size (aa.aT.fresh (Nat.le_succ _)) (aa.aT.fresh (cE _)) (fU (Nat.lt_succ_self _))
 have bE:=Inv.made (C:=C) aa
 have dB:Vals (V.ref (s.heap.objs.size+1)::(vs++dvs)) (ar.ref (s.heap.objs.size+1)::(us++ds)) :=.cons rfl (r.append hd)
 have aC:(ar.ref (s.heap.objs.size+1)::us++ds).length=aI.length:=by
  have e:=dB.length
  rw[F.len _ _ _ _ aY]at e
  exact e.symm
 refine ux (LQ (f:=f) aa.fT M.makes M.init (beq_iff_eq.mp M.fn) (m3 (F.run _ X.stack _ _ ⟨ar.ref (s.heap.objs.size+1)::us,[]⟩ (ar.ref (s.heap.objs.size+1)::(us++ds)) _ _ E (az.make C us [])
  (bE.xW.make C us []) (aj _ (ar.ref (s.heap.objs.size+1)::us) bE.fT aC) dB aY) fun r aX ow=>?_))
 cases r with
 |error e=>exact ay ak ae _ _ e aX bE ow
 | ok er =>
  cases er with
  |ret u =>
   obtain⟨v,H',gM,dN,ev,eN⟩:=bE.after ow
   subst ev
   exact⟨dN,⟨V.ref (s.heap.objs.size+1),H',gM,I,eN⟩⟩
  |next=>exact False.elim ow
  |brk=>exact False.elim ow
  |cont=>exact False.elim ow
theorem Ta(M:xc X.K C f)(F:cv X.prog X.w X.K X.mg X.base CX k f fd aI sp)(az:fH (k+1) X.A)(bb:h6 X x)(hm:X.mg x=J (.ref C))(aj:Binds X.K fd aI ds)(hd:Vals dvs ds)(ay:Passes CX X E)
  (bh:hr X (e::aK) t) (jK:(x == ("__debug__":ah))=aA:=by decide) (he:dr (e::aK) X.env=(aA,eval e X.env)::dr aK X.env:=by rfl) (fR:(backTo aV (dr aK X.env)).any (·.1)=aA:=by rfl) :
  ck X (.Call (.Name x p) (e::aK) [] aV) (QZ C sp dvs E t):=by
 intro ak s ae H Q aa h
 refine rX (sP aa bb hm ?_ jK)
 refine wV (h₀:=X.base) aa.ok.mod.pk M.kD (cU (bh aV ak s ae H _ aa h) fun us s1 bM=>?_) he fR
 obtain⟨vs,H1,bf,r,q⟩:=bM
 refine ⟨bf.fT,?_⟩
 exact YZ M F az aj hd ay bf r q
end
structure bW(N P:List ah)(sc:Scope):Prop where
 kind:sc.kind=.function
 co:sc.isCoroutine=aA
 gen:sc.isGenerator=aA
 bB:N.Nodup
 pre:N.take P.length=P
 par:∀x∈P,sc.names.lookup x=J .local\/sc.names.lookup x=J .cell
 aeG:∀y∈sc.names,y.2≠.free
def ae6(N P:List ah)(sc:Scope):Bool:=decide ((sc.kind=.function)∧(sc.isCoroutine=aA)∧(sc.isGenerator=aA)∧(N.Nodup)∧(N.take P.length=P)∧(∀x∈P,sc.names.lookup x=J .local\/sc.names.lookup x=J .cell)∧(∀y∈sc.names,y.2≠.free))
theorem cb{P:List ah}(h:ae6 N P sc=au:=by decide+kernel):bW N P sc:=have ⟨a,b,c,d,e,f,g⟩:=of_decide_eq_true h;⟨a,b,c,d,e,f,g⟩
theorem LB{kindOf:ah->Option jS}{x:ah}:∀{binds:List (ah×ar)}{m:ah->Option ar},(∀v,(x,v)∉binds)->bindL kindOf binds m x=m x
 |[],_,_=>rfl
 | (n,v)::r,m,h=>by
  unfold bindL
  rw[LB fun w hw=>h w (dP _ hw)]
  split
  ·have:x≠n:=by rintro rfl;exact h v eI
   simp[this]
  .rfl
theorem LD{kindOf:ah->Option jS}{x:ah}:∀{binds:List (ah×ar)}{m:ah->Option ar},(∀v,(x,v)∉binds)->bindC kindOf binds m x=m x
 |[],_,_=>rfl
 | (n,v)::r,m,h=>by
  unfold bindC
  rw[LD fun w hw=>h w (dP _ hw)]
  split
  .rfl
  ·have:x≠n:=by rintro rfl;exact h v eI
   simp[this]
theorem LC{kindOf:ah->Option jS}{x:ah}{v:ar}:∀{P:List ah}{vs:List ar}{i:Nat}{m:ah->Option ar},P.Nodup->P[i]?=J x->vs[i]?=J v->kindOf x=J .local->
  bindL kindOf (P.zip vs) m x=J v
 |[],_,_,_,_,h,_,_=>by simp at h
 |_::_,[],_,_,_,_,h,_=>by simp at h
 |p::P,w::vs,0,m,bB,al,aw,hk=>by
  simp at al aw;subst al;subst aw
  show bindL kindOf ((p,w)::P.zip vs) m p=_
  unfold bindL
  rw[LB fun v b5=>(List.nodup_cons.mp bB).1 (List.of_mem_zip b5).1,if_pos hk]
  simp
 |p::P,w::vs,i+1,m,bB,al,aw,hk=>by
  show bindL kindOf ((p,w)::P.zip vs) m x=_
  unfold bindL
  exact LC (i:=i) (List.nodup_cons.mp bB).2 (by simpa using al) (by simpa using aw) hk
theorem LF{kindOf:ah->Option jS}{x:ah}{v:ar}:∀{P:List ah}{vs:List ar}{i:Nat}{m:ah->Option ar},P.Nodup->P[i]?=J x->vs[i]?=J v->kindOf x≠J .local->
  bindC kindOf (P.zip vs) m x=J v
 |[],_,_,_,_,h,_,_=>by simp at h
 |_::_,[],_,_,_,_,h,_=>by simp at h
 |p::P,w::vs,0,m,bB,al,aw,hk=>by
  simp at al aw;subst al;subst aw
  show bindC kindOf ((p,w)::P.zip vs) m p=_
  unfold bindC
  rw[LD fun v b5=>(List.nodup_cons.mp bB).1 (List.of_mem_zip b5).1,if_neg hk]
  simp
 |p::P,w::vs,i+1,m,bB,al,aw,hk=>by
  show bindC kindOf ((p,w)::P.zip vs) m x=_
  unfold bindC
  exact LF (i:=i) (List.nodup_cons.mp bB).2 (by simpa using al) (by simpa using aw) hk
noncomputable def start(N:List ah)(vs:List V):St:=vs.map J++List.replicate (N.length-vs.length) av
noncomputable def lE(CX:lb)(P:c6)(w:cM)(K:bK)(mg:ah->Option ar)(base:br)(N:List ah)(d0:ah)(c7:Scope)(f:ag)(eF:ar)(A:dq)(outer:List Env)(s:aM)(H:aq)(E:bT):bA where
 prog:=P
 w:=w
 K:=K
 mg:=mg
 base:=base
 A:=A.deeper (envOfC d0 c7 s.heap.objs.size f eF)
 N:=N
 dV:=s
 i0:=H
 env:=envOfC d0 c7 s.heap.objs.size f eF
 outer:=outer
 stack:=envOfC d0 c7 s.heap.objs.size f eF::outer
 ex:=[]
 calm:=au
 fn:=fun _=>au
 pn:=[]
 xe:=fun e aX=>bP (model P w) (A.deeper (envOfC d0 c7 s.heap.objs.size f eF)) (leaving (envOfC d0 c7 s.heap.objs.size f eF) e) (fun _ oI=>CX outer H s E e oI) (fun e' oI=>CX outer H s E e' oI) aX
theorem L6{x:ah}(h:sc.names.lookup x=J .cell):∃c,(cellsFrom n sc.names []).lookup x=J c:=by
 have q:=PySem.W.cellsFrom_some sc.names n [] (.inl h)
 exact Option.isSome_iff_exists.mp q
theorem Yo{CX:lb}{f:ag}{eF:ar}{s1:aM}{E:bT}{vs:List V}
  (S:bW N aI c7) (hd:A.handled=av) (eY:sh P w K mg base A outer s H) (aC:vs.length=aI.length) (r:Vals vs us)
  (x:InCallC s s.heap.objs.size (bindL (envOfC d0 c7 s.heap.objs.size f eF).kindOf (aI.zip us) fun _=>av) (cellsFrom (s.heap.objs.size+1) c7.names []) (bindC (envOfC d0 c7 s.heap.objs.size f eF).kindOf (aI.zip us) fun _=>av) s1) :
  Inv (lE CX P w K mg base N d0 c7 f eF A outer s H E) [] (start N vs) H s1:=by
 have fR:aI.length<=N.length:=by have:=congrArg List.length S.pre;rw[jn]at this;omega
 obtain⟨al,dg,rfl,hk⟩:=x.done
 have yP:∀b:ag,b∉(lE CX P w K mg base N d0 c7 f eF A outer s H E).ex:=fun b z=>absurd (show b∈([]:List ag)from z) (by simp)
 refine⟨⟨eY.mod,S.kind,I,I,cE _,fun y z c al aw=>?_,fun y bV=>?_,fun y c _ h=>?_,fun _=>hd,dq.frames_deeper eY.frames,.inr ⟨I,I⟩,fun b z=>absurd z (yP b),eY.bs,eY.oe,fun b _ _=>yP b,fun b z=>absurd z (yP b),eY.l6,eY.qh⟩,
  rfl,eY.bare,fW.kept hk,⟨_,x.toInCall.ns,fun i y v al aw bq=>?_⟩,fun y c h=>⟨_,x.cell y c h⟩,eY.aT.fresh (cE _),fun y c h=>?_,fun p aO=>absurd (show p∈([]:List (ag×bH))from aO) (by simp),eY.aT.kept hk,?_⟩
 .exact name_of_addr x.apart (PySem.mem_of_lookup al) (PySem.mem_of_lookup aw)
 ·have bV:c7.names.lookup y=J .cell\/c7.names.lookup y=J .free:=bV
  rcases bV with bV|bV
  .exact L6 bV
  .exact absurd I (S.aeG _ (PySem.mem_of_lookup bV))
 .exact Nat.le_of_lt (x.above y c (PySem.mem_of_lookup h))
 ·have aJ:i<vs.length:=by
   unfold start at aw
   by_cases aJ:i<vs.length
   .exact aJ
   ·rw[List.getElem?_append_right (by simpa using aJ)]at aw
    rw[List.getElem?_replicate]at aw
    split at aw<;>cases aw
  have bh:vs[i]?=J v:=by
   unfold start at aw
   rw[List.getElem?_append_left (by simpa using aJ),e4]at aw
   cases e:vs[i]? with
   |none=>rw[e]at aw;cases aw
   |some a=>rw[e]at aw;cases aw;rfl
  obtain⟨u,da,dN⟩:=r.get bh
  have aO:aI[i]?=J y:=by
   rw[<-S.pre,List.getElem?_take_of_lt (by omega)];exact al
  have OH:aI.Nodup:=by rw[<-S.pre];exact S.bB.sublist (List.take_sublist _ _)
  refine⟨u,dN,?_⟩
  rcases S.par y (hY aO)with k|k
  .exact .inl ⟨k,LC OH aO da k⟩
  ·obtain⟨c,e⟩:=L6 (n:=s.heap.objs.size+1) k
   refine .inr ⟨.inl k,c,e,?_⟩
   have q:=x.cell y c e
   rw[LF OH aO da (by show c7.names.lookup y≠_;rw[k];decide)]at q
   exact q
 .exact eY.aT.fresh (Nat.le_of_lt (x.above y c (PySem.mem_of_lookup h)))
 ·unfold start
  show _=N.length
  rw[ee,cq,List.length_replicate]
  omega
theorem Kb{CX:lb}{f:ag}{name:ah}{params:Arguments}{BK gK:ar}
  {sp:b0} (rz:K.lookup f=J ⟨iB,od,.func (oS name d0 params body c7 BK gK doc pm an bl ct),mV⟩) (mK:Ds K bl d0=au) (S:bW N aI c7)
  (len:∀vs H Q E,sp vs H Q E->vs.length=aI.length)
  (lI:∀(A:dq)(outer:List Env)(s:aM)(H:aq)(vs:List V)(Q:bG)(E:bT),fH k (A.deeper (envOfC d0 c7 s.heap.objs.size f bl))->sp vs H Q E->
   ∃t,h7 (lE CX P w K mg base N d0 c7 f bl A outer s H E) body t/\t {nx:=fun _ H'=>Q .bc H',rt:=Q} (start N vs) H) :
  cv P w K mg base CX (k+1) f (oS name d0 params body c7 BK gK doc pm an bl ct) aI sp:=by
 refine⟨len,fun A outer s H args us vs Q E az eY aj r pj=>?_⟩
 have aC:=len _ _ _ _ pj
 have KX:K.In s.heap:=eY.mod.pk.keeps fun b o e=>(eY.bs b o e).1
 have lim:s.heap.NoLimit:=eY.mod.nolimit.keeps fun b o e=>(eY.bs b o e).1
 have ace:∀y∈aI.zip us,c7.names.lookup y.1=J .local\/(c7.names.lookup y.1=J .cell/\((cellsFrom (s.heap.objs.size+1) c7.names []).lookup y.1).isSome=au):=fun⟨n,v⟩ bV=>by
  rcases S.par n (List.of_mem_zip bV).1 with q|q
  .exact .inl q
  .exact .inr ⟨q,PySem.W.cellsFrom_some _ _ _ (.inl q)⟩
 refine codeAny_call_function az.depth (KX _ _ rz) I S.co S.gen I (PySem.W.codeRec_of KX mK) (aj _ _ _ _ ?_)
 refine wpAny_newFunctionEnv_cells S.kind ace fun env he s1 x=>?_
 subst he
 refine⟨lim.keeps x.toInCall.keep,codeAny_func ?_⟩
 obtain⟨t,bo,aY⟩:=lI A outer s H vs Q E (az.deeper _) pj
 have aa:Inv (lE CX P w K mg base N d0 c7 f bl A outer s H E) [] (start N vs) H s1:=Yo S az.hd eY aC r x
 refine kJ (bo [] s1 (start N vs) H _ aa aY) (fun er aX hs=>?_) fun e aX hs=>hs
 have cY:∀{bR:St}{H':aq}{v:V}{u:ar},Inv (lE CX P w K mg base N d0 c7 f bl A outer s H E) [] bR H' aX->RelV v u->Q v H'->Dz outer P w H s Q u aX :=
  fun{bR H' v u}en dN q=>⟨v,H',en.os,en.bare,en.base,en.aT,dN,q⟩
 cases er with
 |ret u =>
  obtain⟨v,bR,H',en,dN,q⟩:=hs
  exact cY en dN q
 |next =>
  obtain⟨bR,H',en,q⟩:=hs
  exact cY (v:=V.bc) (u:=ar.none) en I q
 |brk =>
  obtain⟨_,_,_,q⟩:=hs
  exact False.elim q
 |cont =>
  obtain⟨_,_,_,q⟩:=hs
  exact False.elim q
section
variable {X:bA} {x:ah} {p aV:Pos} {e:cu} {aK:List cu} {t:gx} {id T:String} {r:List V->aq->bG->Prop}
def QX(r:List V->aq->bG->Prop)(t:gx):TE:=fun ae H Q=>t ae H fun vs H1=>r vs H1 Q
theorem cx(hc:jC X (.builtin id) r)(bb:h6 X x)(hm:X.mg x=av)(b5:jT x=J (.builtin id))(bh:hr X (e::aK) t)(aZ:x≠"__name__":=by decide)(jK:(x == ("__debug__":ah))=aA:=by decide)
  (he:dr (e::aK) X.env=(aA,eval e X.env)::dr aK X.env:=by rfl) (fR:(backTo aV (dr aK X.env)).any (·.1)=aA:=by rfl):ck X (.Call (.Name x p) (e::aK) [] aV) (QX r t):=by
 intro ak s ae H Q aa h
 refine rX (nj aa bb hm b5 ?_ aZ jK)
 refine PyProof.Rows.callWith_builtin1 (cU (bh aV ak s ae H _ aa h) fun us s1 bM=>?_) he fR
 obtain⟨vs,H1,bf,cd,cg⟩:=bM
 exact hc ak s1 ae H1 vs us Q bf cd cg
theorem vn(hc:jC X (.type T) r)(bb:h6 X x)(hm:X.mg x=av)(b5:jT x=J (.type T))(bh:hr X (e::aK) t)(aZ:x≠"__name__":=by decide)(jK:(x == ("__debug__":ah))=aA:=by decide)
  (he:dr (e::aK) X.env=(aA,eval e X.env)::dr aK X.env:=by rfl) (fR:(backTo aV (dr aK X.env)).any (·.1)=aA:=by rfl):ck X (.Call (.Name x p) (e::aK) [] aV) (QX r t):=by
 intro ak s ae H Q aa h
 refine rX (nj aa bb hm b5 ?_ aZ jK)
 refine PyProof.Rows.callWith_type1 (cU (bh aV ak s ae H _ aa h) fun us s1 bM=>?_) he fR
 obtain⟨vs,H1,bf,cd,cg⟩:=bM
 exact hc ak s1 ae H1 vs us Q bf cd cg
end
end cN
namespace el
open PySem PyProof.Rows
section
open PySem.SeqAt
open PySem.AutoSeq1 (wpAny_loadPart')
open PySem.MeetsSeq PySem.MeetsSeq2 PySem.MeetsSeq3
end
section
variable {prog:c6} {w:cM} {A:dq} {E:ar->aM->Prop} {s:aM}
noncomputable def fF(n d:Nat):Option Int->Nat
 |none=>d
 |some v=>if v<0 then(v+(n:Int)).toNat else min v.toNat n
theorem y4(n d:Nat):fF n d av=d:=rfl
theorem y3(n d k:Nat):fF n d (J (k:Int))=min k n:=by
 show(if(k:Int)<0 then((k:Int)+(n:Int)).toNat else min (k:Int).toNat n)=min k n
 rw[if_neg (by omega),Int.toNat_natCast]
theorem O3(n d:Nat)(hd:d<=n)(o:Option Int):fF n d o<=n:=by
 cases o with
 |none=>exact hd
 |some v =>
  show(if v<0 then(v+(n:Int)).toNat else min v.toNat n)<=n
  by_cases b5:v<0
  .rw[if_pos b5];omega
  .rw[if_neg b5];exact Nat.min_le_right _ _
end
end el
variable {ae:cN.St} {H:cN.aq}
namespace cN
open PySem PySem.Spec PyProof.Rows
noncomputable abbrev di:=St->aq->(Option Int->aq->Prop)->Prop
def xh(X:bA)(e:Option cu)(t:di):Prop :=
 ∀(ak:List (ag×bH))(s:aM)(ae:St)(H:aq)(Q:Option Int->aq->Prop),Inv X ak ae H s->t ae H Q->
  bP (model X.prog X.w) X.A (evalPart e X.env) (fun u aX=>∃o H',Inv X ak ae H' aX/\IsPart u o/\Q o H') X.xe s
noncomputable def ahJ:di:=fun _ H Q=>Q av H
noncomputable def ahN(t:TE):di:=fun ae H Q=>t ae H fun x H1=>∃i,x=.int i/\Q (J i) H1
variable {r:V->Option Int->Option Int->aq->bG->Prop}
section
variable {X:bA} {e:cu} {cL:TE} {lo aJ:Option cu} {eV pG:di} {aV cD:Pos}
theorem oY:xh X av ahJ:=by
 intro ak s ae H Q aa h
 rw[evalPart_none]
 exact ey ⟨av,H,aa,.none,h⟩
theorem nf(h:ck X e cL):xh X (J e) (ahN cL):=by
 intro ak s ae H Q aa hw
 rw[evalPart_some]
 refine cU (h ak s ae H _ aa hw) fun u s1 bM=>?_
 obtain⟨x,H1,bf,cd,cg⟩:=bM
 obtain⟨i,rfl,q⟩:=cg
 obtain⟨t,rfl⟩:=cd
 exact⟨J i,H1,bf,.int i t,q⟩
def q3(X:bA)(r:V->Option Int->Option Int->aq->bG->Prop):Prop :=
 ∀(ak:List (ag×bH))(s:aM)(ae:St)(H:aq)(x:V)(v nO nP:ar)(lo aJ:Option Int)(dU:ag)(Q:bG),Inv X ak ae H s->RelV x v->s.heap.IsSliceOf dU nO nP .none->IsPart nO lo->IsPart nP aJ->r x lo aJ H Q->
  ∃T id,typeLookup (.type T) "__getitem__"=pure (J (.builtin id))/\s.TypeIs v T/\bP (model X.prog X.w) X.A (getItem v (.ref dU)) (iv X ak ae Q) X.xe s
theorem q3.or{e1:V->Option Int->Option Int->aq->bG->Prop}(h:q3 X r)(h':q3 X e1):q3 X (fun x lo aJ H Q=>r x lo aJ H Q\/e1 x lo aJ H Q):=by
 intro ak s ae H x v nO nP lo aJ dU Q aa bu hs pl pu q
 rcases q with q|q
 .exact h ak s ae H x v nO nP lo aJ dU Q aa bu hs pl pu q
 .exact h' ak s ae H x v nO nP lo aJ dU Q aa bu hs pl pu q
def ahQ(r:V->Option Int->Option Int->aq->bG->Prop)(cL:TE)(eV pG:di):TE:=fun ae H Q=>cL ae H fun x H1=>eV ae H1 fun l ax=>pG ae ax fun u bJ=>r x l u bJ Q
theorem n6(az:q3 X r)(he:ck X e cL)(aC:xh X lo eV)(da:xh X aJ pG):ck X (.Subscript e (.Slice lo aJ av cD) aV) (ahQ r cL eV pG):=by
 intro ak s ae H Q aa h
 refine Subscript_ (cU (he ak s ae H _ aa h) fun v s1 bM=>?_)
 obtain⟨x,H1,bf,cd,cg⟩:=bM
 refine wpAny_Slice (cU (aC ak s1 ae H1 _ bf cg) fun nO s2 ⟨l,ax,bE,pl,cj⟩=>cU (da ak s2 ae ax _ bE cj) fun nP iC bM=>?_)
 obtain⟨u,bJ,gM,pu,eN⟩:=bM
 rw[evalPart_none]
 refine ey ?_
 have lh:Inv X ak ae bJ {iC with heap:=iC.heap.push {cls :=.type "slice",data :=.fields #[nO,nP,.none]}}:=gM.kept (t':=iC.toks) fun b dX q=>fO _ q
 obtain⟨T,id,cc,bo,bb⟩:=az ak {iC with heap:=iC.heap.push {cls :=.type "slice",data :=.fields #[nO,nP,.none]}} ae bJ x v nO nP l u iC.heap.objs.size Q lh cd (br.IsSliceOf.new ..) pl pu eN
 show bP (model X.prog X.w) X.A (subscriptTail e (.Slice lo aJ av cD) v (.ref iC.heap.objs.size)) (iv X ak ae Q) X.xe {iC with heap:=iC.heap.push {cls :=.type "slice",data :=.fields #[nO,nP,.none]}}
 exact tail_any (ops:=[.ref iC.heap.objs.size,v]) bo cc bb (by with_unfolding_all rfl)
noncomputable def o7(xs:List V)(lo aJ:Option Int):List V:=(xs.drop (el.fF xs.length 0 lo)).take (el.fF xs.length xs.length aJ-el.fF xs.length 0 lo)
theorem Xk(xs:List V)(lo aJ:Option Int):(o7 xs lo aJ).length<=xs.length:=by
 unfold o7
 rw[jn,kv]
 omega
end
noncomputable def rx(n:Nat)(i:Int):Option Nat:=if 0<=i then(if i<n then J i.toNat else av)else if -(n:Int)<=i then J (i+n).toNat else av
noncomputable def e5{α:Type}(xs:List α)(i:Int):Option α:=(rx xs.length i).bind fun j=>xs[j]?
theorem Tv{i:Int}(h:rx n i=J j):seqIndex? i n=J j/\j<n/\-(n:Int)<=i/\i<n:=by
 unfold rx at h
 by_cases bg:0<=i
 ·rw[if_pos bg]at h
  by_cases al:i<n
  ·rw[if_pos al]at h
   have e:i.toNat=j:=gy h
   exact⟨by rw[seqIndex_of bg al,e],by omega,by omega,al⟩
  .rw[if_neg al]at h;cases h
 ·rw[if_neg bg]at h
  by_cases al : -(n:Int)<=i
  ·rw[if_pos al]at h
   have e:(i+n).toNat=j:=gy h
   exact⟨by rw[seqIndex_neg (by omega) al,e],by omega,al,by omega⟩
  .rw[if_neg al]at h;cases h
theorem BA{xs:List α}{i:Int}{v:α}(h:e5 xs i=J v):∃j,seqIndex? i xs.length=J j/\xs[j]?=J v/\j<xs.length/\-(xs.length:Int)<=i/\i<xs.length:=by
 unfold e5 at h
 cases e:rx xs.length i with
 |none=>rw[e]at h;cases h
 |some j =>
  rw[e]at h
  obtain⟨al,aw,bq,b4⟩:=Tv e
  exact⟨j,al,h,aw,bq,b4⟩
theorem dz{xs:List α}{v:α}(h:xs[j]?=J v):e5 xs (j:Int)=J v:=by
 have cw:j<xs.length:=(i4.mp h).1
 have e:rx xs.length (j:Int)=J j:=by
  unfold rx
  rw[if_pos (by omega),if_pos (by omega)];simp
 unfold e5;rw[e];exact h
theorem SI(xs:List α)(v:α):e5 (xs++[v]) (-1)=J v:=by
 have aC:(xs++[v]).length=xs.length+1:=by simp
 have e:rx (xs++[v]).length (-1)=J xs.length:=by
  unfold rx
  rw[aC,if_neg (by decide),if_pos (by omega)]
  congr 1
  omega
 unfold e5
 rw[e]
 show(xs++[v])[xs.length]?=J v
 simp
def JR(b:cu):Prop:=∀o i,subscripted b aA o i=operate [o,i] (getItem o i)
def n2(X:bA)(r:iL):Prop :=
 ∀(value slice:cu)(ak:List (ag×bH))(s:aM)(ae:St)(H:aq)(x y:V)(v u:ar)(Q:bG),Inv X ak ae H s->RelV x v->RelV y u->r x y H Q->
  subscripted slice aA v u=operate [v,u] (getItem v u)->bP (model X.prog X.w) X.A (subscriptTail value slice v u) (iv X ak ae Q) X.xe s
def u5(X:bA)(id:String)(r:V->List V->aq->bG->Prop):Prop :=
 ∀(ak:List (ag×bH))(s:aM)(ae:St)(H:aq)(x:V)(xs:List V)(v:ar)(us:List ar)(Q:bG),Inv X ak ae H s->RelV x v->Vals xs us->r x xs H Q->
  bP (model X.prog X.w) X.A (call (.builtin id) (v::us)) (iv X ak ae Q) X.xe s
section
variable {X:bA} {a b:cu} {cf dp:TE} {aV:Pos}
theorem n2.or{r e1:iL}(h:n2 X r)(h':n2 X e1):n2 X (fun x y H Q=>r x y H Q\/e1 x y H Q):=by
 intro value slice ak s ae H x y v u Q aa bu cC q hs
 rcases q with q|q
 .exact h value slice ak s ae H x y v u Q aa bu cC q hs
 .exact h' value slice ak s ae H x y v u Q aa bu cC q hs
theorem Uq{r:iL}(az:n2 X r)(bh:ck X a cf)(aj:ck X b dp)(hs:JR b):ck X (.Subscript a b aV) (pE r cf dp):=by
 intro ak s ae H Q aa h
 exact Subscript_ (Gb bh aj aa h fun v u s2 x y ax bE bu cC q=>az a b ak s2 ae ax x y v u Q bE bu cC q (hs _ _))
inductive JI(K:bK)(x y:V)(H:aq)(Q:V->Prop):Prop where
 |mk (p:ag) (xs:List V) (i:Int) (v:V) (a:x=.ref p) (b:y=.int i) (c:c3 K H p xs) (d:e5 xs i=J v) (h:Q v):JI K x y H Q
def IC(K:bK):iL:=fun x y H Q=>JI K x y H fun v=>Q v H
inductive JK(K:bK)(x y:V)(H:aq)(Q:V->Prop):Prop where
 |mk (p:ag) (xs:List V) (i:Int) (v:V) (a:x=.ref p) (b:y=.int i) (c:gY K H p xs) (d:e5 xs i=J v) (h:Q v):JK K x y H Q
def IE(K:bK):iL:=fun x y H Q=>JK K x y H fun v=>Q v H
def ID:iL:=fun x y H Q=>∃z i c,x=.str z/\y=.int i/\z.length<=bU/\e5 z.cps.toList i=J c/\Q (.str ⟨#[c]⟩) H
theorem Tu:n2 X (IC X.K):=by
 intro value slice ak s ae H x y v u Q aa bu cC h hs
 obtain⟨p,xs,i,z,rfl,rfl,aY,he,q⟩:=h
 cases bu
 obtain⟨t,rfl⟩:=cC
 obtain⟨bj,r,pl,bL⟩:=aa.list aY
 obtain⟨j,al,aw,bq,b4,eb⟩:=BA he
 obtain⟨w,j5,y1⟩:=r.get aw
 have aC:=r.length
 have aZ:=wg
 have cY:iv X ak ae Q w s:=⟨z,H,aa,y1,q⟩
 by_cases bg:0<=i
 ·have cw:i.toNat=j:=by
   rw[seqIndex_of bg eb]at al
   exact gy al
  exact item_listR pl.isList bg (by omega) (by rw[cw];simpa using j5) cY hs
 ·have cw:(i+(bj.toArray.size:Int)).toNat=j:=by
   rw[seqIndex_neg (by omega) b4]at al
   rw[eH,<-aC]
   exact gy al
  exact subscriptTail_builtinR (x:=w) pl.isList.typeIs slot_list_getitem.lookup
   (wpAny_getItem_list_neg (Q:=fun r aX=>r=w/\iv X ak ae Q r aX) pl.isList (by omega) (by rw[eH]<;>omega) (by omega) (by rw[cw];simpa using j5) ⟨rfl,cY⟩) hs
theorem Ub:n2 X (IE X.K):=by
 intro value slice ak s ae H x y v u Q aa bu cC h hs
 obtain⟨p,xs,i,z,rfl,rfl,aY,he,q⟩:=h
 cases bu
 obtain⟨t,rfl⟩:=cC
 obtain⟨bj,r,pl,bL⟩:=aa.tuple aY
 obtain⟨j,al,aw,bq,b4,eb⟩:=BA he
 obtain⟨w,j5,y1⟩:=r.get aw
 have aC:=r.length
 have aZ:=wg
 have cY:iv X ak ae Q w s:=⟨z,H,aa,y1,q⟩
 exact subscriptTail_builtinR (x:=w) pl.typeIs slot_tuple_getitem.lookup
  (getItem_tuple (j:=j) (Q:=fun r aX=>r=w/\iv X ak ae Q r aX) pl (by omega) (by omega) (by rw[eH,<-aC];exact al) (by simpa using j5) ⟨rfl,cY⟩) hs
theorem Uc:n2 X ID:=by
 intro value slice ak s ae H x y v u Q aa bu cC h hs
 obtain⟨z,i,c,rfl,rfl,bL,he,q⟩:=h
 obtain⟨t,rfl⟩:=bu
 obtain⟨t',rfl⟩:=cC
 obtain⟨j,al,aw,bq,b4,eb⟩:=BA he
 have aC:z.cps.toList.length=z.length:=by simp[ah.length]
 rw[aC]at al b4 eb
 have aZ:=wg
 exact tail_any (typeIs_str s z t) slot_str_getitem.lookup (getItem_str (c:=c) (by
  have aU:decide (i < -(2^63:Int))=aA:=gd (by omega)
  have ba:decide (i>=2^63)=aA:=gd (by omega)
  rw[aU,ba,Bool.or_false]) (by rw[al];simpa using aw) ⟨.str ⟨#[c]⟩,H,aa.tok _,⟨_,rfl⟩,q⟩) hs
theorem Wg(lo aJ:Option Int)(n:Nat):(sliceBounds lo aJ av n).1=((el.fF n 0 lo:Nat):Int)/\(sliceBounds lo aJ av n).2.1=((el.fF n n aJ:Nat):Int)/\(sliceBounds lo aJ av n).2.2=1:=by
 refine⟨?_,?_,I⟩
 ·cases lo with
  |none=>simp[sliceBounds,el.fF]
  |some i =>
   simp only[sliceBounds,el.fF,Option.getD_none,show(1:Int) > 0 by decide,if_true]
   by_cases h:i<0
   .simp only[h,if_true]<;>omega
   .simp only[h,if_false]<;>omega
 ·cases aJ with
  |none=>simp[sliceBounds,el.fF]
  |some i =>
   simp only[sliceBounds,el.fF,Option.getD_none,show(1:Int) > 0 by decide,if_true]
   by_cases h:i<0
   .simp only[h,if_true]<;>omega
   .simp only[h,if_false]<;>omega
theorem VO(bj:List ar)(lo aJ:Option Int):slicePick bj.toArray lo aJ av=((bj.drop (el.fF bj.length 0 lo)).take (el.fF bj.length bj.length aJ-el.fF bj.length 0 lo)).toArray:=by
 obtain⟨al,aw,bq⟩:=Wg lo aJ bj.toArray.size
 unfold slicePick
 rw[al,aw,bq]
 simp only[sliceRange_one,pick_run,eH]<;>rfl
inductive JX(K:bK)(x:V)(H:aq)(Q:List V->Prop):Prop where
 |mk (a:ag) (xs:List V) (e:x=.ref a) (h:c3 K H a xs) (q:Q xs):JX K x H Q
noncomputable def ag6(K:bK):V->Option Int->Option Int->aq->bG->Prop:=fun x lo aJ H Q=>JX K x H fun xs=>∀p,H p=av->Q (.ref p) (upd H p (.lst (o7 xs lo aJ)))
theorem S1:q3 X (ag6 X.K):=by
 intro ak s ae H x v nO nP lo aJ dU Q aa bu hs pl pu h
 obtain⟨a,xs,rfl,ay,q⟩:=h
 cases bu
 obtain⟨bj,r,bo,bL⟩:=aa.list ay
 have cB:=r.length
 refine⟨"list",_,slot_list_getitem.lookup,bo.isList.typeIs,?_⟩
 refine wpAny_getItem_list_slice bo.isList hs pl pu .none (by simp) ?_ (by rw[eH]<;>omega)
 rw[VO,<-cB]
 refine⟨.ref s.heap.objs.size,_,aa.laid (t':=s.toks) (o :=.lst (o7 xs lo aJ)) (fun b dX q=>fO _ q) (cE _) ?_,I,q _ (aa.aT.fresh (cE _))⟩
 exact⟨dj (Xk xs lo aJ) bL,_,0,(r.drop (el.fF xs.length 0 lo)).take (el.fF xs.length xs.length aJ-el.fF xs.length 0 lo),hi _ I⟩
noncomputable def qg:V->Bool
 |.bc=>au
 |.aE _=>au
 |.int _=>au
 |.str _=>au
 |_=>aA
noncomputable def mF:V->V->Bool
 |.bc,.bc=>au
 |.aE a,.aE b=>a == b
 |.aE a,.int b=>(if a then 1 else 0) == b
 |.int a,.aE b=>a == (if b then 1 else 0)
 |.int a,.int b=>a == b
 |.str a,.str b=>a == b
 |_,_=>aA
theorem Uh{y x:V}{v:ar}(cC:RelV y u)(bu:RelV x v)(aaP:qg y=au)(mG:qg x=au):SeqAt.EqAt A s u v (mF y x):=by
 cases y with
 |bc =>
  cases cC
  cases x with
  |bc=>cases bu;exact SeqAt.EqAt.same _
  |aE b=>cases bu;exact SeqAt.EqAt.none_bool b
  |int b=>obtain⟨t,rfl⟩:=bu;exact SeqAt.EqAt.none_int b t
  |str b=>obtain⟨t,rfl⟩:=bu;exact SeqAt.EqAt.none_str b t
  |_=>exact absurd (show aA=au from mG) ht
 |aE a =>
  cases cC
  cases x with
  |bc=>cases bu;exact SeqAt.EqAt.bool_none a
  |aE b=>cases bu;exact SeqAt.EqAt.bool_bool a b
  |int b=>obtain⟨t,rfl⟩:=bu;exact SeqAt.EqAt.bool_int a b t
  |str b=>obtain⟨t,rfl⟩:=bu;exact SeqAt.EqAt.bool_str a b t
  |_=>exact absurd (show aA=au from mG) ht
 |int a =>
  obtain⟨t',rfl⟩:=cC
  cases x with
  |bc=>cases bu;exact SeqAt.EqAt.int_none a t'
  |aE b=>cases bu;exact SeqAt.EqAt.int_bool a t' b
  |int b=>obtain⟨t,rfl⟩:=bu;exact SeqAt.EqAt.int_int a t' b t
  |str b=>obtain⟨t,rfl⟩:=bu;exact SeqAt.EqAt.int_str a t' b t
  |_=>exact absurd (show aA=au from mG) ht
 |str a =>
  obtain⟨t',rfl⟩:=cC
  cases x with
  |bc=>cases bu;exact SeqAt.EqAt.str_none a t'
  |aE b=>cases bu;exact SeqAt.EqAt.str_bool a t' b
  |int b=>obtain⟨t,rfl⟩:=bu;exact SeqAt.EqAt.str_int a t' b t
  |str b=>obtain⟨t,rfl⟩:=bu;exact SeqAt.EqAt.str_str a t' b t
  |_=>exact absurd (show aA=au from mG) ht
 |_=>exact absurd (show aA=au from aaP) ht
noncomputable def lF(x:V)(u:ar):Bool:=match u with
 |.none=>mF .bc x
 |.bool b=>mF (.aE b) x
 |.int i _=>mF (.int i) x
 |.str z _=>mF (.str z) x
 |_=>aA
theorem MN{x y:V}(r:RelV y u)(f:qg y=au):lF x u=mF y x:=by
 cases y with
 |bc=>cases r;rfl
 |aE b=>cases r;rfl
 |int i=>obtain⟨t,rfl⟩:=r;rfl
 |str z=>obtain⟨t,rfl⟩:=r;rfl
 |_=>exact absurd (show aA=au from f) ht
theorem xF{x:V}:∀{xs:List V}{us:List ar},Vals xs us->xs.all qg=au->us.any (lF x)=xs.any fun y=>mF y x
 |_,_,.nil,_=>rfl
 |y::xs,u::us,.cons r t,f=>by
  rw[List.all_cons,jD]at f
  rw[List.any_cons,List.any_cons,MN r f.1,xF t f.2]
theorem xu{A:dq}{s:aM}{x:V}{v:ar}(bu:RelV x v)(mG:qg x=au):∀{xs:List V}{us:List ar},Vals xs us->xs.all qg=au->∀u∈us,SeqAt.EqAt A s u v (lF x u)
 |_,_,.nil,_=>fun u da=>by cases da
 |y::xs,u::us,.cons r t,f=>fun u' da=>by
  rw[List.all_cons,jD]at f
  rcases cR.mp da with rfl|da
  .rw[MN r f.1];exact Uh r bu f.1 mG
  .exact xu bu mG t f.2 u' da
noncomputable def wc(x:V)(xs:List V):Bool:=xs.any fun y=>mF y x
def OY(K:bK)(neg:Bool):iL:=fun x y H Q=>∃p xs,y=.ref p/\(c3 K H p xs\/gY K H p xs)/\qg x=au/\xs.all qg=au/\Q (.aE (if neg then !wc x xs else wc x xs)) H
theorem Fs:d6 X (hS .In) (OY X.K aA):=by
 intro ak s ae H x y v u Q aa bu cC h
 obtain⟨p,xs,rfl,aY,mG,fs,q⟩:=h
 cases cC
 rcases aY with aY|aY
 ·obtain⟨bj,r,pl,bL⟩:=aa.list aY
  refine SeqAt.in_listAt (lF x) pl.isList (fun w hw=>xu bu mG r fs w (by simpa using hw)) ⟨.aE _,H,aa,I,?_⟩
  rw[show bj.toArray.any (lF x)=bj.any (lF x) by simp,xF r fs]
  exact q
 ·obtain⟨bj,r,pl,bL⟩:=aa.tuple aY
  refine SeqAt.in_tupleAt (lF x) pl (fun w hw=>xu bu mG r fs w (by simpa using hw)) ⟨.aE _,H,aa,I,?_⟩
  rw[show bj.toArray.any (lF x)=bj.any (lF x) by simp,xF r fs]
  exact q
theorem Wt:d6 X (hS .NotIn) (OY X.K au):=by
 intro ak s ae H x y v u Q aa bu cC h
 obtain⟨p,xs,rfl,aY,mG,fs,q⟩:=h
 cases cC
 rcases aY with aY|aY
 ·obtain⟨bj,r,pl,bL⟩:=aa.list aY
  refine SeqAt.notIn_listAt (lF x) pl.isList (fun w hw=>xu bu mG r fs w (by simpa using hw)) ⟨.aE _,H,aa,I,?_⟩
  rw[show bj.toArray.any (lF x)=bj.any (lF x) by simp,xF r fs]
  exact q
 ·obtain⟨bj,r,pl,bL⟩:=aa.tuple aY
  refine SeqAt.notIn_tupleAt (lF x) pl (fun w hw=>xu bu mG r fs w (by simpa using hw)) ⟨.aE _,H,aa,I,?_⟩
  rw[show bj.toArray.any (lF x)=bj.any (lF x) by simp,xF r fs]
  exact q
theorem Kw:jC X (.type "tuple") (fun xs H Q=>∃p aN,xs=[.ref p]/\((c3 X.K H p aN/\∀l,H l=av->Q (.ref l) (upd H l (.tup aN)))\/(gY X.K H p aN/\Q (.ref p) H))):=by
 intro ak s ae H xs us Q aa r h
 obtain⟨p,aN,rfl,h⟩:=h
 obtain⟨u,rfl,bu⟩:=vals1 r
 cases bu
 rcases h with⟨aY,q⟩|⟨aY,q⟩
 ·obtain⟨bj,e1,pl,bL⟩:=aa.list aY
  have cB:=e1.length
  refine call_tuple_list pl.isList (fun h' kD=>?_) (by simp only[eH]<;>omega)
  have bf:Inv X ak ae H {s with heap:=h'}:=aa.kept (t':=s.toks) kD
  have bE:Inv X ak ae (upd H h'.objs.size (.tup aN)) {s with heap:=h'.push {cls :=.type "tuple",data :=.seq bj.toArray}} :=
   bf.laid (t':=s.toks) (fun b o e=>fO _ e) (cE _) (show hV X.prog X.w _ _ _ (.tup aN)from⟨bL,bj,e1,IsTup.new _ _⟩)
  exact⟨.ref h'.objs.size,_,bE,I,q _ (bf.aT.fresh (cE _))⟩
 ·obtain⟨bj,e1,pl,bL⟩:=aa.tuple aY
  exact call_tuple_same pl ⟨.ref p,H,aa,I,q⟩
def Jh(K:bK)(T:String)(x:V)(H:aq):Prop:=match x with
 |.str _=>T="str"
 |.int _=>T="int"
 | .ref p=>(T="list"/\∃xs,c3 K H p xs)\/(T="tuple"/\∃o,K.lookup p=J o/\o.cls=.type "tuple"/\o.dict=av)\/
   (T="dict"/\((∃fY,H p=J (.mD fY))\/∃fY,H p=J (.o9 fY)))\/(T="set"/\∃S n,H p=J (.set S n))
 |_=>False
theorem Mr{T:String}{x:V}{v:ar}(aa:Inv X ak ae H s)(r:RelV x v)(ty:Jh X.K T x H):
  s.TypeIs v T/\∀a,v=.ref a->∃dX,s.heap.get? a=J dX/\dX.dict=av:=by
 cases x with
 |str z =>
  obtain⟨t,rfl⟩:=r
  cases(show T="str" from ty)
  exact⟨typeIs_str s z t,fun _ e=>nomatch e⟩
 |int i =>
  obtain⟨t,rfl⟩:=r
  cases(show T="int" from ty)
  exact⟨typeIs_int s i t,fun _ e=>nomatch e⟩
 | ref p =>
  cases r
  rcases ty with⟨rfl,xs,aY⟩|⟨rfl,o,hk,hc,hd⟩|⟨rfl,hk⟩|⟨rfl,S,n,hk⟩
  ·obtain⟨bj,_,pl,_⟩:=aa.list aY
   refine⟨pl.isList.typeIs,fun a e=>?_⟩
   cases e
   obtain⟨o,n,e,c,hd,_⟩:=pl
   exact⟨o,e,hd⟩
  ·refine⟨⟨o,aa.fT p o hk,hc⟩,fun a e=>?_⟩
   cases e
   exact⟨o,aa.fT _ o hk,hd⟩
  ·have z:∃o,s.heap.get? p=J o/\o.ExactDict:=by
    rcases hk with⟨fY,hk⟩|⟨fY,hk⟩
    ·obtain⟨_,_,_,_,o,_,_,e,ex,_⟩:=aa.aT p _ hk
     exact⟨o,e,ex⟩
    .exact(show False from aa.aT p _ hk).elim
   obtain⟨o,e,ex⟩:=z
   refine⟨⟨o,e,ex.1⟩,fun a ba=>?_⟩
   cases ba
   exact⟨o,e,ex.2.1⟩
  ·obtain⟨o,_,_,_,e,ex,_⟩:=aa.aT p _ hk
   refine⟨⟨o,e,ex.1⟩,fun a ba=>?_⟩
   cases ba
   exact⟨o,e,ex.2.1⟩
 |_=>exact False.elim ty
def ahz(K:bK)(T:String)(r:V->List V->aq->bG->Prop)(to:TE):TE:=fun ae H Q=>to ae H fun x H1=>Jh K T x H1/\r x [] H1 Q
def ahy(K:bK)(T:String)(r:V->List V->aq->bG->Prop)(to:TE)(t:gx):TE:=fun ae H Q=>to ae H fun x H1=>Jh K T x H1/\t ae H1 fun xs ax=>r x xs ax Q
variable {o e:cu} {aK:List cu} {to:TE} {t:gx} {name:ah} {apos l3:Pos} {T id:String} {r:V->List V->aq->bG->Prop}
theorem xG(yV:PlainAttrs T)(slot:Slot T name id)(HJ:typeOf (.builtin id)=pure (.type "method_descriptor"))(hm:u5 X id r)(aL:ck X o to)
  (G3:attributeBase o name X.env (eval o X.env)=eval o X.env:=by rfl) (Hk:(apos.endLine == l3.line)=au:=by rfl):ck X (.Call (.Attribute o name apos) [] [] l3) (ahz X.K T r to):=by
 intro ak s ae H Q aa h
 refine wpAny_Call_method0_late G3 Hk (cU (aL ak s ae H _ aa h) fun v s1 bM=>?_)
 obtain⟨x,H1,bf,cd,ty,cg⟩:=bM
 obtain⟨al,aw⟩:=Mr bf cd ty
 exact⟨T,id,yV,slot,HJ,al,aw,Calls.callWith_builtin I (PySem.evalArgs_none (hm ak s1 ae H1 x [] v [] Q bf cd .nil cg))⟩
theorem jW(yV:PlainAttrs T)(slot:Slot T name id)(HJ:typeOf (.builtin id)=pure (.type "method_descriptor"))(hm:u5 X id r)(aL:ck X o to)(bh:hr X (e::aK) t)
  (G3:attributeBase o name X.env (eval o X.env)=eval o X.env:=by rfl)
  (ab0:((backTo l3 (dr (e::aK) X.env)).all (fun x=>!x.1)&&(backToKw l3 (rW [] X.env)).all (fun x=>x.1.isSome)
   && decide ((e::aK).length+([]:List Keyword).length+(if([]:List Keyword).isEmpty then 0 else 1)<30))=au:=by rfl)
  (Hk:(apos.endLine == l3.line)=au:=by rfl) (hs:dr (e::aK) X.env=(aA,eval e X.env)::dr aK X.env:=by rfl) (acG:(backTo l3 (dr aK X.env)).any (·.1)=aA:=by rfl) :
  ck X (.Call (.Attribute o name apos) (e::aK) [] l3) (ahy X.K T r to t):=by
 intro ak s ae H Q aa h
 refine wpAny_Call_method_late G3 ab0 Hk I (cU (aL ak s ae H _ aa h) fun v s1 bM=>?_)
 obtain⟨x,H1,bf,cd,ty,cg⟩:=bM
 obtain⟨al,aw⟩:=Mr bf cd ty
 refine⟨T,id,yV,slot,HJ,al,aw,?_⟩
 have jd:=bh l3 ak s1 ae H1 _ bf cg
 rw[hs]at jd ⊢
 refine Calls.callWith_builtin (by show(aA||(backTo l3 (dr aK X.env)).any (·.1))=aA;rw[acG]<;>rfl) (Calls.evalArgs_plain ?_)
 refine cU jd fun us s2 bM=>?_
 obtain⟨vs,ax,bE,dB,cj⟩:=bM
 exact hm ak s2 ae ax x vs v us Q bE cd dB cj
end
def Ea(X:bA)(id:String)(r:V->List V->aq->bG->Prop):Prop :=
 ∀(ak:List (ag×bH))(s:aM)(ae:St)(H:aq)(x:V)(xs:List V)(v:ar)(us:List ar)(Q:bG),Inv X ak ae H s->RelV x v->Vals xs us->r x xs H Q->
  bP (model X.prog X.w) X.A (call (.builtin id) (v::us)) (iv X ak ae Q) X.xe s
theorem Vals.one:∀{x:V}{us:List ar},Vals [x] us->∃u,us=[u]/\RelV x u
 |_,_,.cons r .nil=>⟨_,rfl,r⟩
theorem Vals.eraseIdx:∀{xs:List V}{us:List ar}(i:Nat),Vals xs us->Vals (xs.eraseIdx i) (us.eraseIdx i)
 |_,_,_,.nil =>.nil
 |_,_,0,.cons _ t=>t
 |_,_,i+1,.cons r t =>.cons r (Vals.eraseIdx i t)
theorem Vals.rep{xs:List V}{us:List ar}(h:Vals xs us):∀k:Nat,Vals (List.replicate k xs).flatten (List.replicate k us).flatten
 |0 =>.nil
 |k+1=>by
  rw[List.replicate_succ,List.replicate_succ,lx,lx]
  exact Vals.append h (Vals.rep h k)
theorem Lm{α:Type}:∀(l:List α)(i:Nat),(l.eraseIdx i).length<=l.length
 |[],_=>cE _
 |_::_,0=>Nat.le_succ _
 |_::r,i+1=>Nat.succ_le_succ (Lm r i)
theorem Ls(bj:List ar):∀(k:Nat)(acc:List ar),
  List.foldl (fun gX dR=>gX++dR) acc.toArray (List.replicate k bj.toArray)=(acc++(List.replicate k bj).flatten).toArray
 |0,acc=>by simp
 | k+1,acc=>by
  have e:acc.toArray++bj.toArray=(acc++bj).toArray:=by simp
  have ba:(acc++bj)++(List.replicate k bj).flatten=acc++(List.replicate (k+1) bj).flatten:=by
   rw[List.replicate_succ,lx,h9]
  rw[<-ba,<-Ls bj k (acc++bj),<-e,List.replicate_succ,List.foldl_cons]
section
variable {X:bA} {ak:List (ag×bH)} {ae:St} {H:aq} {s:aM} {l b:ag} {xs aN zs:List V}
theorem Inv.H7{its':List ar}{f:Array ar->Array ar}(aa:Inv X ak ae H s)(ka:H l=J (.lst xs))
  (e:s.heap.get? l=J {cls :=.type "list",data :=.seq bj.toArray n}) (aH:f bj.toArray=its'.toArray) (b5:Vals aN its') (bL:aN.length<=bU) :
  Inv X ak ae (upd H l (.lst aN)) {s with heap:=s.heap.update l (bH.mapSeq f),toks:=t'}:=by
 have q:=PySem.IsL.update e f
 rw[aH]at q
 refine aa.write (x:=l) (e:=l) (by rw[ka];exact trivial) (.inl I) (fun i9 u aj da=>(br.get?_update_other s.heap (bH.mapSeq f) (d1 aj)).trans da) ⟨_,q⟩ ?_
 exact⟨bL,its',_,b5,q⟩
theorem Inv.Ox(aa:Inv X ak ae H s)(b5:Vals aN bj)(bL:aN.length<=bU):
  Inv X ak ae (upd H s.heap.objs.size (.lst aN)) {s with heap:=s.heap.push {cls :=.type "list",data :=.seq bj.toArray},toks:=t'} :=
 aa.laid (fun _ _ q=>fO _ q) (cE _) ⟨bL,bj,0,b5,hi _ rfl⟩
theorem Inv.fresh(aa:Inv X ak ae H s):H s.heap.objs.size=av:=aa.aT.fresh (cE _)
theorem Inv.tE(aa:Inv X ak ae H s)(ka:H l=J (.lst xs)):xs.length<=bU/\∃(bj:List ar)(n:Nat),Vals xs bj/\xs.length=bj.length/\s.heap.get? l=J {cls :=.type "list",data :=.seq bj.toArray n}:=by
 obtain⟨z,bj,n,r,e⟩:=aa.aT l _ ka
 exact⟨z,bj,n,r,r.length,e⟩
theorem aeI(h:n<=bU):cO.List.listTooLong n=aA:=by
 unfold cO.List.listTooLong
 exact gd (by omega)
end
section
variable {X:bA}
inductive Jz(x:V)(vs:List V)(H:aq)(Q:ag->List V->V->Prop):Prop where
 |mk (l:ag) (xs:List V) (y:V) (e:x=.ref l) (a:vs=[y]) (h:H l=J (.lst xs)) (c:xs.length<bU) (q:Q l xs y):Jz x vs H Q
noncomputable def agZ:V->List V->aq->bG->Prop:=fun x vs H Q=>Jz x vs H fun l xs y=>Q .bc (upd H l (.lst (xs++[y])))
theorem sq:Ea X "list.append" agZ:=by
 intro ak s ae H x vs v us Q aa bu dN h
 obtain⟨l,xs,y,rfl,rfl,ka,bL,q⟩:=h
 cases bu
 obtain⟨u,rfl,fc⟩:=dN.one
 obtain⟨z,bj,n,r,aC,e⟩:=aa.tE ka
 refine call_meets F.slot_list_append ⟨_,e,I⟩ F.entry_list_append (F.args_list_append_2 _ _) (PySem.list_append l bj.toArray n u (by rw[eH];omega)) ⟨e,?_⟩
 refine⟨.bc,_,aa.H7 (its':=bj++[u]) ka e (by simp) (r.append (.cons fc .nil)) ?_,I,q⟩
 rw[ee,kQ]
 omega
noncomputable def ag3:V->List V->aq->bG->Prop:=fun x vs H Q=>∃l xs i k y,x=.ref l/\vs=[.int i]/\H l=J (.lst xs)/\-(2^63)<=i/\i<2^63/\seqIndex? i xs.length=J k/\xs[k]?=J y/\Q y (upd H l (.lst (xs.eraseIdx k)))
theorem Zb:Ea X "list.pop" ag3:=by
 intro ak s ae H x vs v us Q aa bu dN h
 obtain⟨l,xs,i,k,y,rfl,rfl,ka,al,aw,hk,bV,q⟩:=h
 cases bu
 obtain⟨u,rfl,fc⟩:=dN.one
 obtain⟨t,rfl⟩:=fc
 obtain⟨z,bj,n,r,aC,e⟩:=aa.tE ka
 obtain⟨w,hw,y1⟩:=r.get bV
 refine call_meets F.slot_list_pop ⟨_,e,I⟩ F.entry_list_pop (F.args_list_pop_2 _ _)
  (MeetsSeq.list_pop_at l bj.toArray n i t k w (fitsIndex_both al aw) (by rw[eH,<-aC];exact hk) (by rw[<-Array.getElem?_toList];exact hw) (by rw[eH];omega)) ⟨e,?_⟩
 refine⟨y,_,aa.H7 (its':=bj.eraseIdx k) ka e ?_ (r.eraseIdx k) ?_,y1,q⟩
 ·show bj.toArray.eraseIdxIfInBounds k=(bj.eraseIdx k).toArray
  rw[List.eraseIdxIfInBounds_toArray]
 ·have:=Lm xs k
  omega
def ag1:iL:=fun x y H Q=>∃l b xs zs,x=.ref l/\y=.ref b/\H l=J (.lst xs)/\H b=J (.lst zs)/\xs.length+zs.length<=bU/\∀p,H p=av->Q (.ref p) (upd H p (.lst (xs++zs)))
theorem xI:d6 X (kI .Add) ag1:=by
 intro ak s ae H x y v u Q aa bu cC h
 obtain⟨l,b,xs,zs,rfl,rfl,ka,e8,bL,q⟩:=h
 cases bu
 cases cC
 obtain⟨z,bj,n,r,aC,e⟩:=aa.tE ka
 obtain⟨dy,fS,dZ,dB,gR,ba⟩:=aa.tE e8
 refine PySem.P.add_list e ba ?_ (by rw[eH,eH];omega)
 have de:bj.toArray++fS.toArray=(bj++fS).toArray:=by simp
 rw[de]
 exact⟨.ref _,_,aa.Ox (t':=s.toks) (r.append dB) (by rw[ee];omega),I,q _ aa.fresh⟩
def ag5:iL:=fun x y H Q=>∃l k xs,x=.ref l/\y=.int k/\H l=J (.lst xs)/\-(2^63)<=k/\k<2^63/\xs.length*k.toNat<=bU/\
 ∀p,H p=av->Q (.ref p) (upd H p (.lst (List.replicate k.toNat xs).flatten))
theorem Ts(xs:List α)(k:Nat):(List.replicate k xs).flatten.length=k*xs.length:=by
 induction k with
 |zero=>simp
 |succ k bQ=>rw[List.replicate_succ,lx,ee,bQ,Nat.succ_mul,Nat.add_comm]
theorem TZ:d6 X (kI .Mult) ag5:=by
 intro ak s ae H x y v u Q aa bu cC h
 obtain⟨l,k,xs,rfl,rfl,ka,al,aw,bL,q⟩:=h
 cases bu
 obtain⟨t,rfl⟩:=cC
 obtain⟨z,bj,n,r,aC,e⟩:=aa.tE ka
 have cB:bj.toArray.size*k.toNat<=bU:=by rw[eH,<-aC];exact bL
 have tm:¬bj.toArray.size*k.toNat > (2^63-1)/8:=by
  have:(bU:Nat)<=(2^63-1)/8:=by decide
  omega
 have hB:¬(!cO.List.listFitsIndex k)=au:=by
  rw[fitsIndex_both al aw]
  exact ht
 have acj:¬cO.List.listTooLong (bj.toArray.size*k.toNat)=au:=by
  rw[aeI cB]
  exact ht
 have acv:List.foldl (fun gX dR=>gX++dR) #[] (List.replicate (if bj.toArray.isEmpty=au then 0 else k.toNat) bj.toArray)=(List.replicate k.toNat bj).flatten.toArray:=by
  have f0:∀m:Nat,List.foldl (fun gX dR=>gX++dR) #[] (List.replicate m bj.toArray)=(List.replicate m bj).flatten.toArray:=fun m=>by
   have:=Ls bj m []
   rw[List.nil_append]at this
   exact this
  rw[f0]
  cases bj with
  |nil=>simp
  |cons a e1=>rw[if_neg (by simp)]
 refine wpAny_binaryOp_repeat_ref (T:="list") (U:="int") (by decide) ⟨_,e,I⟩ (fun aX=>typeIs_int aX k t) noFill_list_mul F.fills_int_mul F.slot_int_rmul repeat_list F.slot_int_index.lookup
  (call_meets F.slot_int_rmul (typeIs_int s k t) F.entry_int_rmul (F.args_int_rmul_2 _ _) (int___rmul___int_list k t l bj.toArray n)
   ⟨e,rfl,⟨_,e,rfl⟩,call_meets F.slot_list_mul ⟨_,e,rfl⟩ F.entry_list_mul (F.args_list_mul_2 _ _) (AutoListH.list___mul___list_int_3 l bj.toArray n k t hB tm acj) ⟨e,?_⟩⟩)
 rw[acv]
 exact⟨.ref _,_,aa.Ox (t':=s.toks) (r.rep k.toNat) (by rw[Ts,Nat.mul_comm];exact bL),I,q _ aa.fresh⟩
end
end cN
variable {loose:List ah} {vg:(ah->Option ar)->br->Prop} {q5:cM->br->Prop}
namespace JA
open PySem PySem.W PySem.Calls PyProof.Rows
variable {P:Params}
theorem Vq:∀(ns:List Int)(vs:List ar),WellAll P h vs (ns.map WData.int)->IntsAre vs ns:=by
 intro ns
 induction ns with
 |nil =>
  intro vs w
  rw[List.map_nil]at w
  cases w
  exact .nil
 | cons n ns bQ =>
  intro vs w
  rw[gF]at w
  cases w with
  |cons a b =>
   cases a
   exact .cons _ _ (bQ _ b)
variable {l:OpenLaw}
theorem X1(aZ:l.most=J n){args:List WData}{vals:List ar}
  (qu:l.row.toRowW.claim.pre args=au) (Ct:WellAll P h vals args) :
  ∃a vs ns,vals=[ar.ref a]/\args=[WData.list (ns.map WData.int)]/\h.get? a=J {cls :=.type "list",data :=.seq vs.toArray}/\IntsAre vs ns/\ns.length<=n:=by
 have acP:WShape.hasAll [] args [.list .int]=au:=(pre_splitW qu).1
 have hc:l.pre.holds [] {args:=args}=au:=(pre_splitW qu).2
 obtain⟨d,r,rfl,al,aw⟩:=hasAllW_cons acP
 obtain rfl:=hasAllW_nil aw
 obtain⟨xs,rfl,bq⟩:=hasW_list al
 obtain⟨ns,rfl⟩:=items_int bq
 have cB:ns.length<=n:=by
  unfold OpenLaw.pre at hc
  have b4:(WTm.not (.lt (.lit (.int (n:Int))) (.len (.arg 0)))).holds [] {args:=[.list (ns.map .int)]}=au:=by
   have b4:=(holds_andW hc).1
   rw[aZ]at b4
   exact b4
  have eb:=condW_of b4 (w_not (w_lt w_lit (w_len_list (w_arg rfl))))
  rw[cq]at eb
  refine Nat.le_of_not_lt fun q=>?_
  have hF:(n:Int)<((ns.length:Nat):Int):=by omega
  first
   |(rw[fu hF]at eb;exact absurd eb (by decide))
   |(simp at eb;omega)
 cases Ct with
 |cons ui lR =>
  cases lR
  cases ui with
  |list aL gQ=>exact⟨_,_,ns,I,I,aL,Vq ns _ gQ,cB⟩
theorem X6(l:OpenLaw)(args:List WData):l.row.toRowW.claim.post args (.bool au) args=au :=
 postW_of (r:=l.row.toRowW) (X:=(au == au))
  (show WShape.has [] (.bool au) .bool=au by first|rfl|decide|simp[WShape.has,WShape.arms,WShape.armsAll])
  (show(WTm.eq .res (.lit (.bool au))).value [] {args:=args,res:=J (.bool au),after:=args}=J (.bool (au == au))from w_eq_bool (w_res rfl) w_lit) rfl
theorem ZM{q:c6}{d:DefRec}
  (aZ:l.most=J n) (ye:d.params.defaults=[])
  (call:∀(w:cM)(dV eh:aM)(mg nF:ah->Option ar)(fa:ag)(o:bH)(pm eF doc:ar)(a:ag)(vs:List ar)(ns:List Int),
   Ground q loose [] vg w dV mg nF eh.heap->q5 w eh.heap->
   eh.heap.get? fa=J o->o.data=.func (docDef d.name d.params d.body d.scope pm eF doc)->eh.heap.CodeRec eF d.name->mg d.name=J (.ref fa)->
   eh.heap.get? a=J {cls :=.type "list",data :=.seq vs.toArray}->IntsAre vs ns->ns.length<=n->eh.gens=#[]->
   mr (model l.prog w) callerA (.call (.ref fa) ⟨[.ref a],[]⟩) (fun r aX=>r=.ok (.ret (.bool au))/\OldK eh.heap aX.heap/\aX.os=eh.os/\AllBare aX.gens) eh) :
  WalkO q loose vg q5 l.row.toRowW d [] (fun f vs=>PySem.call f vs):=by
 intro w dV eh mg nF G Y fa o pm eF doc BK gK aL hd mK c0 hmg bb args vals as qu ajY aka Ct aj0
 obtain rfl:BK=.none:=Dflts.none c0 ye
 obtain rfl:gK=.none:=Dflts.noKw c0
 obtain⟨a,vs,ns,rfl,rfl,Hr,hints,cB⟩:=X1 aZ qu Ct
 refine enter_call (m3 (call w dV eh mg nF fa o pm eF doc a vs ns G Y aL (fd_plain hd) mK hmg Hr hints cB bb) fun r aX aY=>?_)
 obtain⟨rfl,aw,bq,b4⟩:=aY
 exact⟨.inl ⟨.bool au,.bool au,[],I,fun _=>I,.bool au,X6 l _,fun _=>⟨List.Pairwise.nil,fun _ hm=>(nomatch hm)⟩⟩,aw,bq,b4⟩
section
variable {prog:c6} {w:cM} {A:dq} {E:ar->aM->Prop} {s:aM} {K:Frag}
noncomputable def akj(h:br)(L d:ag):List (ag×bH):=(List.range h.objs.size).filterMap fun a=>if a=L\/a=d then av else(h.get? a).map fun o=>(a,o)
end
end JA
variable {CX:cN.lb} {fa:ag} {B:Prop} {H1 ax H':cN.aq} {xs:List cN.V}
namespace cN
open PySem PySem.Spec PyProof.Rows
theorem K5:∀{vs:List ar}{ns:List Int},IntsAre vs ns->Vals (ns.map V.int) vs
 |_,_,.nil =>.nil
 |_,_,.cons n t h =>.cons ⟨t,rfl⟩ (K5 h)
def Ec(H:aq):Prop:=∀b,H b=av\/∃o xs,H b=J (.iP o (.lst xs))
theorem adW{nF:ah->Option ar}{x:ah}{sp:b0}{eh:aM}{vs:List ar}{ns:List Int}
  (KX:K.In eh.heap) (N5:eh.heap.Ns ei mg) (aj:eh.heap.Ns builtinsNs nF) (G4:∀x:ah,x≠"__name__"->nF x=jT x) (ach:eh.heap.NoLimit) (bb:eh.gens=#[])
  (bh:eh.heap.get? a=J {cls :=.type "list",data :=.seq vs.toArray}) (aJ:IntsAre vs ns) (aC:ns.length<=bU) (az:fH k callerA)
  (F:∀base:br,K.In base->base.Ns ei mg->cv P w K mg base CX k fa fd [x] sp) (abJ:∀(s:aM)(u:ar),BindsTo s fd ⟨[u],[]⟩ [(x,u)])
  (pj:∀H:aq,Ec H->c3 K H a (ns.map V.int)->sp [.ref a] H (fun v _=>v=.aE au) fun _ _ _=>False)
  (GS:∀H e aX,CX [] H eh (fun _ _ _=>False) e aX->False) :
  mr (model P w) callerA (.call (.ref fa) ⟨[.ref a],[]⟩) (fun r aX=>r=.ok (.ret (.bool au))/\OldK eh.heap aX.heap/\aX.os=eh.os/\AllBare aX.gens) eh:=by
 have dN:=K5 aJ
 have adY:=aJ.length
 have core:∀H:aq,Ec H->c3 K H a (ns.map V.int)->fG P w H eh.heap->(∀b,H b≠av->b=a)->(H a≠av->K.lookup a=av)->
   mr (model P w) callerA (.call (.ref fa) ⟨[.ref a],[]⟩) (fun r aX=>r=.ok (.ret (.bool au))/\OldK eh.heap aX.heap/\aX.os=eh.os/\AllBare aX.gens) eh:=by
  intro H B9 c9 aT jd gm
  have base_of:∀{b:ag}{o:bH},eh.heap.get? b=J o->H b=av->(qn eh.heap H).get? b=J o:=fun e n=>Ze e n
  have yP:∀{b:ag}{o:bH}{aK:Array DictEntry}{fK:Nat},eh.heap.get? b=J o->o.data=.dict aK fK->H b=av:=fun{b o aK fK}e d=>by
   cases q:H b with
   |none=>rfl
   |some u =>
    have e':b=a:=jd b (by rw[q];simp)
    subst e'
    rw[bh]at e;cases e
    have d':Data.seq vs.toArray _=Data.dict aK fK:=d
    cases d'
  have tN:∀{b:ag}{m:ah->Option ar},eh.heap.Ns b m->(qn eh.heap H).Ns b m:=fun {b m} ⟨o,aK,fK,e,d,r⟩=>⟨o,aK,fK,base_of e (yP e d),d,r⟩
  have Ny:K.In (qn eh.heap H):=fun b o e=>base_of (KX b o e) (by
   cases q:H b with
   |none=>rfl
   |some u =>
    have e':b=a:=jd b (by rw[q];simp)
    subst e'
    rw[gm (by rw[q];simp)]at e;cases e)
  have x6:Mod K mg (qn eh.heap H):=⟨Ny,tN N5,⟨nF,tN aj,G4⟩,let ⟨aee,al,aw⟩:=ach;⟨aee,tN al,aw⟩⟩
  have eY:sh P w K mg (qn eh.heap H) callerA [] eh H:=⟨rfl,x6,fun b o e=>Tp e,Nat.le_of_eq (Yr _ _),trivial,fun b aj=>absurd (show b∈([]:List ag)from aj) (by simp),aT,.of_eq bb⟩
  refine m3 ((F _ Ny (tN N5)).run callerA [] eh H ⟨[.ref a],[]⟩ [.ref a] [.ref a] _ _ az eY (abJ eh (.ref a)) (.cons I .nil) (pj H B9 c9)) fun r aX h=>?_
  cases r with
  |error e=>exact(GS H e aX h).elim
  | ok er =>
   cases er with
   |next=>exact False.elim h
   |brk=>exact False.elim h
   |cont=>exact False.elim h
   | ret u =>
    obtain⟨v,H',os,bare,un,acA,e1,q⟩:=h
    have hF:v=.aE au:=q
    subst hF
    obtain rfl:u=ar.bool au:=e1
    refine⟨I,OldK.of_keep fun b o e=>?_,os,bare⟩
    cases q:H b with
    |none=>exact un.keep b o e q (by intro z;exact absurd (show b∈([]:List ag)from z) (by simp)) (by simp)
    | some u =>
     rcases B9 b with z|⟨dX,xs,z⟩
     .rw[q]at z;cases z
     ·have dy:=un.lH b dX _ z
      obtain⟨aU,_⟩:=aT b _ z
      obtain⟨ba,_⟩:=acA b _ dy
      rw[e]at aU;cases aU
      exact ba
 cases hk:K.lookup a with
 |some o =>
  have e:=KX a o hk
  rw[bh]at e
  cases e
  refine core (fun _=>av) (fun _ =>.inl I) (.inr ⟨_,vs.toArray,_,hk,I,I,I,by rw[eH,adY];exact aC,by simpa using dN⟩) (fun b u z=>by have oR:(av:Option cZ)=J u:=z;cases oR) (fun b z=>absurd rfl z) fun z=>absurd rfl z
 | none =>
  refine core (fun b=>if b=a then J (.iP {cls :=.type "list",data :=.seq vs.toArray} (.lst (ns.map V.int)))else av) (fun b=>?_) (.inl (.inr ⟨{cls :=.type "list",data :=.seq vs.toArray},if_pos rfl⟩)) (fun b u z=>?_) (fun b z=>?_) fun _=>hk
  ·by_cases aj:b=a
   .exact .inr ⟨_,_,if_pos aj⟩
   .exact .inl (if_neg aj)
  ·by_cases aj:b=a
   ·have oR:=(if_pos aj).symm.trans z
    cases oR
    subst aj
    exact⟨bh,by rw[cq];exact aC,vs,_,dN,bh⟩
   ·have oR:=(if_neg aj).symm.trans z
    cases oR
  ·by_cases aj:b=a
   .exact aj
   .exact absurd (if_neg aj) z
theorem SW{l:PySem.W.OpenLaw}{q:c6}{d:DefRec}{K:Params->bK}{CX:cM->lb}{sp:cM->b0}{x:ah}
  (aZ:l.most=J n) (me:n<=bU) (ye:d.params.defaults=[]) (az:fH k callerA)
  (G0:∀(w:cM)(h:br),q5 w h->(K w.params).In h)
  (F:∀(w:cM)(mg:ah->Option ar)(fa:ag)(h:br),(K w.params).In h->h.Ns ei mg->mg d.name=J (.ref fa)->
   ∃fd:ho,(∀(s:aM)(u:ar),BindsTo s fd ⟨[u],[]⟩ [(x,u)])/\
    ∀base:br,(K w.params).In base->base.Ns ei mg->cv l.prog w (K w.params) mg base (CX w) k fa fd [x] (sp w))
  (pj:∀(w:cM)(H:aq)(a:ag)(ns:List Int),ns.length<=n->Ec H->c3 (K w.params) H a (ns.map V.int)->sp w [.ref a] H (fun v _=>v=.aE au) fun _ _ _=>False)
  (GS:∀(w:cM)(H:aq)(s:aM)(e:ar)(aX:aM),CX w [] H s (fun _ _ _=>False) e aX->False) :
  PySem.W.WalkO q loose vg q5 l.row.toRowW d [] (fun f vs=>PySem.call f vs):=by
 refine JA.ZM aZ ye fun w dV eh mg nF fa o pm eF doc a vs ns G Y aL hd mK hmg Hr hints cB bb=>?_
 have KX:=G0 w _ Y
 obtain⟨fd,aj,cW⟩:=F w mg fa _ KX G.T.g hmg
 exact adW KX G.T.g G.T.b G.T.builtins G.T.nolimit bb Hr hints (dj cB me) az cW aj (fun H B9 c9=>pj w H a ns cB B9 c9) fun H e aX=>GS w H eh e aX
noncomputable def ea(s:bz)(j:Nat):bz:=match s with
 |.ClassDef _ _ _ body _ _ _ _ _ _ _=>body.getD j (.Pass ⟨0,0,0,0⟩)
 |_ => .Pass ⟨0,0,0,0⟩
noncomputable def pa(s:bz):Arguments:=match s with
 |.FunctionDef _ a _ _ _ _ _ _ _ _=>a
 |_=>{posonlyargs:=[],args:=[],vararg:=av,kwonlyargs:=[],kw_defaults:=[],kwarg:=av,defaults:=[]}
noncomputable def kA(s:bz):List bz:=match s with
 |.FunctionDef _ _ b _ _ _ _ _ _ _=>b
 |_=>[]
noncomputable def bI(s:bz):Scope:=match s with
 |.FunctionDef _ _ _ _ _ _ sc _ _ _=>sc
 |_=>{kind :=.function,names:=[],isGenerator:=aA,isCoroutine:=aA}
noncomputable abbrev c8:lb:=fun _ _ _ _ _ _=>False
abbrev iK:bT:=fun _ _ _=>False
theorem wy{X:bA}:Passes c8 X iK:=fun _ _ _ _ _ _ _ h=>h.elim
structure c1(K:bK)(x d0:ah)(st:bz)(f:ag)(fd:ho):Prop where
 ex:∃(iB:ar)(od:Option ag)(gK doc pm:ar)(an:Option ag)(bl ct:ar)(mV:Array (Option ar)),
  fd=oS x d0 (pa st) (kA st) (bI st) .none gK doc pm an bl ct/\K.lookup f=J ⟨iB,od,.func fd,mV⟩/\Ds K bl d0=au
 kD:pJ K (.ref f)=au
section
variable {P:c6} {w:cM} {K:bK} {mg:ah->Option ar} {base:br}
theorem c1.ok{x:ah}{st:bz}{sp:b0}(F:c1 K x d0 st f fd)(S:bW N aI (bI st))(len:∀vs H Q E,sp vs H Q E->vs.length=aI.length)
  (lI:∀(bl:ar)(A:dq)(outer:List Env)(s:aM)(H:aq)(vs:List V)(Q:bG)(E:bT),fH k (A.deeper (envOfC d0 (bI st) s.heap.objs.size f bl))->sp vs H Q E->
   ∃t,h7 (lE c8 P w K mg base N d0 (bI st) f bl A outer s H E).rE (kA st) t/\t {nx:=fun _ H'=>Q .bc H',rt:=Q} (start N vs) H):cv P w K mg base c8 (k+1) f fd aI sp:=by
 obtain⟨iB,od,gK,doc,pm,an,bl,ct,mV,rfl,rz,mK⟩:=F.ex
 refine Kb rz mK S len fun A outer s H vs Q E az pj=>?_
 obtain⟨t,h,q⟩:=lI bl A outer s H vs Q E az pj
 exact⟨t,h.rE,q⟩
theorem c1.binds{x:ah}{st:bz}(F:c1 K x d0 st f fd)
  (h:∀(gK doc pm:ar)(an:Option ag)(bl ct:ar)(us:List ar),us.length=aI.length->bindArgs (oS x d0 (pa st) (kA st) (bI st) .none gK doc pm an bl ct) ⟨us,[]⟩=pure (aI.zip us)):Binds K fd aI []:=by
 obtain⟨iB,od,gK,doc,pm,an,bl,ct,mV,rfl,rz,mK⟩:=F.ex
 exact .all (h gK doc pm an bl ct)
theorem MK{x:ah}{st:bz}{gK:ar}(l:K.lookup f=J ⟨iB,od,.func (oS x d0 (pa st) (kA st) (bI st) .none gK doc pm an bl ct),mV⟩)
  (c:Ds K bl d0=au) (k:pJ K (.ref f)=au):c1 K x d0 st f (oS x d0 (pa st) (kA st) (bI st) .none gK doc pm an bl ct):=⟨⟨iB,od,gK,doc,pm,an,bl,ct,mV,rfl,l,c⟩,k⟩
end
section
variable {X:bA}
theorem af(i:Nat){x:ah}(cK:X.N[i]?=J x:=by rfl)(b5:Ae X.env.scope x:=by first|exact Or.inl I|exact Or.inr (Or.inl I)|exact Or.inr (Or.inr I))(hd:(x == ("__debug__":ah))=aA:=by decide)
  (mK:(x == ("__classdict__":ah))=aA:=by decide):ck X (.Name x aV) (wK i):=TX cK b5 hd mK
end
variable {A:Prop}
theorem dx(h:B):if aA=au then A else B:=by
 rw[if_neg ht]
 exact h
theorem eC(h:A):if au=au then A else B:=by
 rw[if_pos rfl]
 exact h
theorem yE{c:Prop}[Decidable c](hc:c)(h:B):if(!decide c)=au then A else B:=by
 rw[fu hc]
 exact dx h
def d7(H H':aq):Prop:=∀b o,H b=J o->H' b=J o
theorem d7.refl(H:aq):d7 H H:=fun _ _ h=>h
theorem d7.trans(a:d7 H H1)(b:d7 H1 ax):d7 H ax:=fun c o h=>b c o (a c o h)
theorem d7.free(e:d7 H H'){l:ag}(h:H' l=Option.none):H l=Option.none:=by
 cases q:H l with
 |none=>rfl
 |some o =>
  rw[e l o q]at h
  cases h
theorem d7.seq(e:d7 H H')(h:c3 K H a xs):c3 K H' a xs:=by
 rcases h with(h|⟨o,h⟩)|h
 .exact .inl (.inl (e _ _ h))
 .exact .inl (.inr ⟨o,e _ _ h⟩)
 .exact .inr h
end cN
variable {o:cN.cZ} {p:ag} {cf:cN.gx} {acc:ar} {oh:List (ah×cN.V)} {hh:cN.aq} {rO:cN.b0}
section
namespace cN
open PySem PySem.Spec PyProof.Rows
section
variable {X:bA}
theorem xq:u5 X "int.bit_length" (fun x xs H Q=>∃i,x=.int i/\xs=[]/\Q (.int ((cO.Int.intBits i:Nat):Int)) H):=by
 intro ak s ae H x xs v us Q aa bu dN h
 obtain⟨i,rfl,rfl,q⟩:=h
 obtain⟨t,rfl⟩:=bu
 cases dN
 exact call_gives F.slot_int_bit_length (typeIs_int s i t) F.entry_int_bit_length (F.args_int_bit_length_1 _) (AutoIntG2.int_bit_length_int_0 i t) ⟨.int _,H,aa.tok _,⟨_,I⟩,q⟩
theorem L9:∀{aN:List ah}{bj:List ar},Vals (aN.map V.str) bj->StrsAre bj aN
 |[],_,.nil =>.nil
 |_::_,_,.cons ⟨_,e⟩ r=>by subst e;exact .cons _ _ (L9 r)
theorem sO:u5 X "str.join" (fun x xs H Q=>∃y a aN,x=.str y/\xs=[.ref a]/\c3 X.K H a (aN.map V.str)/\(aN.map (·.length)).sum+aN.length*y.length<=16777216/\Q (.str (Txt.join y aN)) H):=by
 intro ak s ae H x xs v us Q aa bu dN h
 obtain⟨y,a,aN,rfl,rfl,aY,bL,q⟩:=h
 obtain⟨t,rfl⟩:=bu
 obtain⟨u,rfl,fc⟩:=dN.one
 cases fc
 obtain⟨bj,r,pl,_⟩:=aa.list aY
 exact join_list pl.isList (by simpa using L9 r) bL fun t' k=>⟨.str _,H,aa.tok _,⟨_,I⟩,q⟩
theorem XA:d6 X (kI .Mult) (fun x y H Q=>∃z i,x=.str z/\y=.int i/\i<2^40/\-(2^40)<i/\z.length*i.toNat<=bU/\Q (.str (Txt.mul z i)) H):=by
 intro ak s ae H x y v u Q aa bu cC h
 obtain⟨z,i,rfl,rfl,al,aw,bq,q⟩:=h
 obtain⟨t,rfl⟩:=bu
 obtain⟨t',rfl⟩:=cC
 refine SB.mul ⟨?_,fun b4 _=>?_,fun b4 _=>?_⟩ fun t' k=>⟨.str _,H,aa.tok _,⟨_,I⟩,q⟩
 .simp only[Bool.or_eq_false_iff,decide_eq_false_iff_not];omega
 ·intro c
  have aZ:(0:Int)<i:=by omega
  have ajH:=wg
  have e:(z.length:Int)*i<=2^63-1:=by
   have:((z.length*i.toNat:Nat):Int)=(z.length:Int)*i:=by rw[Int.natCast_mul];congr 1;omega
   omega
  have:=(Int.le_ediv_iff_mul_le aZ).mpr e
  omega
 .unfold cO.Str.tooLong;simpa using bq
theorem Wc:jC X (.type "int") (fun xs H Q=>∃x n,xs=[.str x]/\PySem.intText? x=J n/\x.length<=640/\Q (.int n) H):=by
 intro ak s ae H xs us Q aa r h
 obtain⟨x,n,rfl,aZ,aC,q⟩:=h
 obtain⟨u,rfl,t,rfl⟩:=vals1 r
 exact PySem.W.KIN.call_text aZ aC ⟨.int n,H,aa.tok _,⟨_,I⟩,q⟩
theorem TQ:q3 X (fun x lo aJ H Q=>∃z,x=.str z/\z.length<=bU/\Q (.str (Txt.slice z lo aJ)) H):=by
 intro ak s ae H x v nO nP lo aJ dU Q aa bu hs pl pu h
 obtain⟨z,rfl,bL,q⟩:=h
 obtain⟨t,rfl⟩:=bu
 refine⟨"str",_,F.slot_str_getitem.lookup,typeIs_str s z t,?_⟩
 have cY:∀(t':Tok)(k:Nat),iv X ak ae Q (.str (Txt.slice z lo aJ) t') {s with toks:=k}:=fun t' k=>⟨.str _,H,aa.tok _,⟨_,rfl⟩,q⟩
 obtain⟨o,aL,hc,hd⟩:=hs
 cases pl with
 |none =>
  cases pu with
  |none=>exact Dw (l:=av) (u:=av) (st:=av) ⟨o,aL,hc,hd⟩ I (post_val_or_str ⟨dj (Txt.slice_le z _ _) bL,cY⟩)
  |int j Ji=>exact Dw (l:=av) (u:=J (j,Ji)) (st:=av) ⟨o,aL,hc,hd⟩ I (post_val_or_str ⟨dj (Txt.slice_le z _ _) bL,cY⟩)
 |int i Q7 =>
  cases pu with
  |none=>exact Dw (l:=J (i,Q7)) (u:=av) (st:=av) ⟨o,aL,hc,hd⟩ I (post_val_or_str ⟨dj (Txt.slice_le z _ _) bL,cY⟩)
  |int j Ji=>exact Dw (l:=J (i,Q7)) (u:=J (j,Ji)) (st:=av) ⟨o,aL,hc,hd⟩ I (post_val_or_str ⟨dj (Txt.slice_le z _ _) bL,cY⟩)
theorem Xm:jC X (.builtin "isinstance") (fun xs H Q=>∃x T t b,xs=[x,.ty T]/\lq X.K H x t/\fp X.K t (.type T)=J b/\Q (.aE b) H):=by
 intro ak s ae H xs us Q aa r h
 obtain⟨x,T,t,b,rfl,ty,e,q⟩:=h
 obtain⟨u,iu,rfl,cd,dB⟩:=vals2 r
 cases(show iu=ar.type T from dB)
 exact Lp aa cd ty e fun dg=>⟨.aE b,H,aa.tok _,I,q⟩
theorem WO:jC X (.builtin "isinstance") (fun xs H Q=>∃x C t b,xs=[x,.ref C]/\lq X.K H x t/\fp X.K t (.ref C)=J b/\Q (.aE b) H):=by
 intro ak s ae H xs us Q aa r h
 obtain⟨x,C,t,b,rfl,ty,e,q⟩:=h
 obtain⟨u,iu,rfl,cd,dB⟩:=vals2 r
 cases(show iu=ar.ref C from dB)
 exact Lp aa cd ty e fun dg=>⟨.aE b,H,aa.tok _,I,q⟩
end
noncomputable def sk(lo c:Int)(n:Nat):ko:=⟨fun i _=>i<n,fun i H x H'=>H'=H/\x=.int (lo+i*c),fun i _=>n<=i⟩
theorem KH(it:ag)(lo c:Int)(n:Nat):Turn P w K eD (sk lo c n) [it] it (fun i h=>IsRangeIter h it (lo+(i:Nat)*c) ((n:Int)-(i:Nat)) c) where
 mem:=by simp
 obj:=fun i h st b aj=>by
  have e:b=it:=by simpa using aj
  subst e
  exact⟨_,st,fun v z=>by
   have oR:Data.fields _=Data.cell v:=z
   cases oR⟩
 keep:=fun i h h' st k=>k it (by simp) _ st
 item:=by
  intro X cP hw gm hc i ak s ae H E aa aH st bb
  subst cP hw gm
  obtain⟨f0,f1,f2,hP,f4,h2⟩:=aH it (by simp)
  have W:=Walks.range (prog:=X.prog) (w:=X.w) (aa.ok.hd hc) it lo c n
  refine W.item i s _ _ bb st fun v h' dg b5 hR eK=>?_
  obtain⟨t,rfl⟩:=b5
  have bf:Inv X ak ae H {s with heap:=h',toks:=dg}:=aa.turned (fun b o aj e=>eK b o (by simpa using aj) e) f0 f1 hP f4 h2
  exact⟨_,I,xK (s:={s with heap:=h',toks:=dg}) (n:="range_iterator") hR I I (by decide) ⟨.int (lo+i*c),H,bf,⟨t,I⟩,⟨I,I⟩,hR,fun b aj=>(aH b aj).1⟩⟩
 done:=by
  intro X cP hw gm hc i ak s ae H E aa aH st bb
  subst cP hw gm
  obtain⟨f0,f1,f2,hP,f4,h2⟩:=aH it (by simp)
  exact wpAny_pyNext_range_end (aa.ok.hd hc) st (by have:n<=i:=bb;omega) fun h' fk=>⟨I,aa.turned (t':=s.toks) (fun b o aj e=>fk b o aj e) f0 f1 hP f4 h2⟩
 self:=fun _ _ _ _ _ st h=>wpAny_pyIter_rangeiter st h
section
variable {X:bA} {eD:cu}
def adj(cf:gx):dJ:=fun ae H R=>cf ae H fun vs H1=>∃i j:Int,vs=[.int i,.int j,.int (-1)]/\(-(2^61)<=i/\i<2^61/\-(2^61)<=j/\j<2^61)/\R (sk i (-1) (i-j).toNat) H1
end
section
variable {X:bA} {eD:cu}
theorem Xt{a b:Int}(bh : -(2^61)<=a)(Cd:a<2^61)(aj : -(2^61)<=b)(kb:b<2^61):cO.Range.small a b (-1)=au:=by
 unfold cO.Range.small cO.Range.rangeSize
 simp only[cO.Range.rangeFitsLong,jD,Bool.or_eq_true,n5,beq_iff_eq,show ¬((-1:Int) > 0) by decide,if_false,Int.neg_neg,Int.ediv_one]
 split<;>omega
theorem VE(a b:Int):cO.Range.rangeSize a b (-1)=(((a-b).toNat:Nat):Int):=by
 unfold cO.Range.rangeSize
 rw[if_neg (by decide)]
 simp only[Int.neg_neg,Int.ediv_one]
 split<;>omega
theorem Lh{a b:cu}{p:Pos}(bb:h6 X "range")(hm:X.mg "range"=av)(bh:hr X [a,b,c] cf)
  (hs:dr [a,b,c] X.env=[(aA,eval a X.env),(aA,eval b X.env),(aA,eval c X.env)]:=by rfl) (fl:dr [b,c] X.env=[(aA,eval b X.env),(aA,eval c X.env)]:=by rfl) :
  i2 X eD (.Call (.Name "range" p) [a,b,c] [] aV) (adj cf):=by
 intro ak s ae H R aa h
 refine Call_ (nj aa bb hm boot_range (PyProof.Rows.callWith_type1 (cU (bh aV ak s ae H _ aa h) fun us s1 ⟨vs,H1,bf,cd,cg⟩=>?_) (by rw[hs,fl]) (by rw[fl];rfl)))
 obtain⟨i,j,e,⟨cg,cj,eN,rM⟩,q⟩:=cg
 subst e
 cases cd with
 | cons r iU =>
  cases iU with
  | cons e1 iU =>
   cases iU with
   | cons IA iU =>
    cases iU
    obtain⟨t,rfl⟩:=r
    obtain⟨t',rfl⟩:=e1
    obtain⟨I6,rfl⟩:=IA
    refine call_range_3 (by decide) ?_ (.inl (PyProof.noPylong_small (by decide)))
    refine wpAny_pyIter_range (IsRange.new ..) (Xt cg cj eN rM) ?_
    have bE:Inv X ak ae H1 {s1 with heap:=s1.heap.push {cls :=.type "range",data :=.fields #[.int i t,.int j t',.int (-1) I6]}}:=bf.kept (t':=s1.toks) fun b o e=>fO _ e
    refine⟨_,[_],_,_,H1,I,bE.kept (t':=s1.toks) fun b o e=>fO _ e,KH _ i (-1) (i-j).toNat,?_,fun b aj=>?_,q⟩
    ·have aU:i+((0:Nat):Int)*(-1)=i:=by simp
     have ba:(((i-j).toNat:Nat):Int)-((0:Nat):Int)=cO.Range.rangeSize i j (-1):=by rw[VE];simp
     show IsRangeIter _ _ (i+((0:Nat):Int)*(-1)) ((((i-j).toNat:Nat):Int)-((0:Nat):Int)) (-1)
     rw[aU,ba]
     exact hi _ I
    ·have e:=ft.mp aj
     subst e
     exact bE.og (cE _) (bE.aT.fresh (cE _))
end
noncomputable def uO(x:ah):ko:=⟨fun i _=>i<x.cps.size,fun i H v H'=>H'=H/\∃c,x.cps[i]?=J c/\v=.str ⟨#[c]⟩,fun i _=>x.cps.size<=i⟩
section
variable {X:bA} {eD:cu}
theorem LG{eD:cu}(x:ah)(it:ag)(n:String)(t:Tok)(W:∀uA:dq,uA.handled=av->Walks P w uA it [it] [it] x.cps.size (SignAt x) (fun i h=>h.IsStrIter it n x t i))
  (aZ:["enumerate","zip","dict_itemiterator","dict_reverseitemiterator","odict_iterator","itertools.zip_longest","itertools.pairwise"].contains n=aA)
  (abQ:∀(A:dq)(i:Nat)(s:aM)(Q:Option ar->aM->Prop)(E:ar->aM->Prop),A.handled=av->s.heap.IsStrIter it n x t i->x.cps.size<=i->(∀h',(∀b o,b≠it->s.heap.get? b=J o->h'.get? b=J o)->Q av {s with heap:=h'})->bP (model P w) A (pyNext (.ref it)) Q E s)
  (acO:∀(A:dq)(i:Nat)(s:aM)(Q:ar->aM->Prop)(E:ar->aM->Prop),s.heap.IsStrIter it n x t i->Q (.ref it) s->bP (model P w) A (pyIter (.ref it)) Q E s) :
  Turn P w K eD (uO x) [it] it (fun i h=>h.IsStrIter it n x t i) where
 mem:=by simp
 obj:=fun i h st b aj=>by
  have e:b=it:=by simpa using aj
  subst e
  obtain⟨o,aL,hc,hd⟩:=st
  exact⟨o,aL,fun v z=>by rw[hd]at z;cases z⟩
 keep:=fun i h h' st k=>by
  obtain⟨o,aL,r⟩:=st
  exact⟨o,k it (by simp) o aL,r⟩
 item:=by
  intro X cP hw gm hc i ak s ae H E aa aH st bb
  subst cP hw gm
  obtain⟨f0,f1,f2,hP,f4,h2⟩:=aH it (by simp)
  refine(W X.A (aa.ok.hd hc)).item i s _ _ bb st fun v h' dg b5 hR eK=>?_
  obtain⟨c,u,mb,rfl⟩:=b5
  have bf:Inv X ak ae H {s with heap:=h',toks:=dg}:=aa.turned (fun b o aj e=>eK b o (by simpa using aj) e) f0 f1 hP f4 h2
  obtain⟨o,aL,mc,hd⟩:=id hR
  exact⟨_,I,xK (s:={s with heap:=h',toks:=dg}) (n:=n) aL mc hd aZ ⟨.str ⟨#[c]⟩,H,bf,⟨u,I⟩,⟨I,c,mb,I⟩,hR,fun b aj=>(aH b aj).1⟩⟩
 done:=by
  intro X cP hw gm hc i ak s ae H E aa aH st bb
  subst cP hw gm
  obtain⟨f0,f1,f2,hP,f4,h2⟩:=aH it (by simp)
  exact abQ X.A i s _ _ (aa.ok.hd hc) st bb fun h' fk=>⟨I,aa.turned (t':=s.toks) (fun b o aj e=>fk b o aj e) f0 f1 hP f4 h2⟩
 self:=fun A i s Q E st h=>acO A i s Q E st h
def Om(eV:TE):dJ:=fun ae H R=>eV ae H fun x H1=>∃y,x=.str y/\R (uO y) H1
theorem TU{l:cu}{eV:TE}(aC:ck X l eV):i2 X eD l (Om eV):=by
 intro ak s ae H R aa h
 refine cU (aC ak s ae H _ aa h) fun v s1 bM=>?_
 obtain⟨x,H1,bf,cd,cg⟩:=bM
 obtain⟨y,e,q⟩:=cg
 subst e
 obtain⟨t,rfl⟩:=cd
 have cY:∀(o:bH)(iF:Nat->br->Prop),Turn X.prog X.w X.K eD (uO y) [s1.heap.objs.size] s1.heap.objs.size iF->iF 0 (s1.heap.push o)->Ed X ak ae eD R (.ref s1.heap.objs.size) {s1 with heap:=s1.heap.push o}:=fun o iF T bg=>by
  refine⟨s1.heap.objs.size,[s1.heap.objs.size],iF,uO y,H1,I,bf.kept (t':=s1.toks) fun b o e=>fO _ e,T,bg,fun b aj=>?_,q⟩
  have e:=ft.mp aj
  subst e
  exact bf.og (cE _) (bf.aT.fresh (cE _))
 cases bh:y.cps.all (· < 128)
 ·refine wpAny_pyIter_wide bh (cY _ _ (LG y _ "str_iterator" t (fun uA jd=>Walks.strWide jd _ y t) (by decide) (fun A i s Q E fb st aJ gh=>?_) fun A i s Q E st aY=>wpAny_pyIter_striter_wide st aY) ⟨_,hi _ I,I,I⟩)
  exact wpAny_pyNext_wide_end fb st (by simpa using aJ) fun h' tp=>gh h' fun b o aj e=>tp b o aj e
 ·refine wpAny_pyIter_ascii bh (cY _ _ (LG y _ "str_ascii_iterator" t (fun uA jd=>Walks.strAscii jd _ y t) (by decide) (fun A i s Q E fb st aJ gh=>?_) fun A i s Q E st aY=>wpAny_pyIter_striter_ascii st aY) ⟨_,hi _ I,I,I⟩)
  exact wpAny_pyNext_ascii_end fb st (by simpa using aJ) fun h' tp=>gh h' fun b o aj e=>tp b o aj e
end
noncomputable def BJ(sc:Scope)(cs:List ah):Bool :=
 sc.kind ==.function&&sc.names.all (fun y=>y.2 !=.cell)&&sc.names.all (fun y=>y.2 !=.local||sc.names.lookup y.1 == J .local) &&
  sc.names.all (fun y=>y.2 !=.free||cs.contains y.1)&&cs.all (fun x=>sc.names.lookup x == J .free)
noncomputable def r8(X:bA):List (Nat×ah)->Prop
 |[]=>True
 |(j,x)::r=>X.N[j]?=J x/\(X.env.kindOf x=J .cell\/X.env.kindOf x=J .free)/\r8 X r
theorem r8.at{X:bA}:∀{cs:List (Nat×ah)},r8 X cs->∀p∈cs,X.N[p.1]?=J p.2/\(X.env.kindOf p.2=J .cell\/X.env.kindOf p.2=J .free)
 |[],_,_,h=>nomatch h
 |(j,x)::r,⟨al,aw,bq⟩,p,h=>by
  rcases cR.mp h with e|e
  .subst e;exact⟨al,aw⟩
  .exact r8.at bq p e
noncomputable def Gh(X:bA)(c7:Scope)(cl:List (ah×ag))(C:ag)(N:List ah)(s2:aM)(ax:aq)(b9:List ag):bA where
 prog:=X.prog
 w:=X.w
 K:=X.K
 mg:=X.mg
 base:=X.base
 A:=X.A
 N:=N
 dV:=s2
 i0:=ax
 env:=compEnvC c7 cl C X.env
 outer:=X.stack
 stack:=X.stack
 ex:=b9
 calm:=X.calm
 fn:=fun _=>aA
 pn:=[]
 xe:=fun _ _=>False
theorem Fj{env:Env}:∀(names:List (ah×jS)),(∀y∈names,y.2=.free->∃c,env.cells.lookup y.1=J c)->
  ∀acc:List (ah×ag),(∀x c,acc.lookup x=J c->env.cells.lookup x=J c)->∃cl,
  (forIn names acc fun(x:ah×jS)r=>do
   if x.2 ==.free then pure (ForInStep.yield ((x.1,<-cellOf env x.1)::r))else pure (ForInStep.yield r):Sem (List (ah×ag)))=pure cl/\
  (∀x c,cl.lookup x=J c->env.cells.lookup x=J c)/\(∀y∈names,y.2=.free->∃c,cl.lookup y.1=J c)/\∀x c,acc.lookup x=J c->∃jt,cl.lookup x=J jt
 |[],_,acc,bh=>⟨acc,rfl,bh,(fun _ h=>nomatch h),fun _ c h=>⟨c,h⟩⟩
 | (n,k)::r,aZ,acc,bh=>by
  by_cases hk:k=.free
  ·subst hk
   obtain⟨c,hc⟩:=aZ _ eI rfl
   have Cd:∀x jt,((n,c)::acc).lookup x=J jt->env.cells.lookup x=J jt:=fun x jt e=>by
    rw[List.lookup_cons]at e
    by_cases ay:x=n
    ·subst ay
     rw[beq_self_eq_true]at e
     cases e
     exact hc
    ·rw[beq_false_of_ne ay]at e
     exact bh x jt e
   obtain⟨cl,e,al,aw,bq⟩:=Fj r (fun y bV=>aZ y (dP _ bV)) ((n,c)::acc) Cd
   refine⟨cl,?_,al,fun y bV aH=>?_,fun x jt ay=>?_⟩
   ·rw[List.forIn_cons]
    simp only[cellOf,hc,beq_self_eq_true,if_true]
    exact e
   ·rcases cR.mp bV with e'|e'
    ·subst e'
     exact bq n c (by rw[List.lookup_cons,beq_self_eq_true])
    .exact aw y e' aH
   ·by_cases Oi:x=n
    ·subst Oi
     exact bq x c (by rw[List.lookup_cons,beq_self_eq_true])
    .exact bq x jt (by rw[List.lookup_cons,beq_false_of_ne Oi];exact ay)
  ·obtain⟨cl,e,al,aw,bq⟩:=Fj r (fun y bV=>aZ y (dP _ bV)) acc bh
   refine⟨cl,?_,al,fun y bV aH=>?_,bq⟩
   ·rw[List.forIn_cons]
    have aj:(k == jS.free)=aA:=by simpa using hk
    simp only[aj,Bool.false_eq_true,if_false]
    exact e
   ·rcases cR.mp bV with e'|e'
    ·subst e'
     exact absurd aH hk
    .exact aw y e' aH
def mu(en:ko)(g:gE)(gu:gO)(cL:TE)(Q:bG)(fo:St)(H1:aq)(D:ag):Prop :=
 ∃ W:Nat->Nat->St->aq->Prop,(∃m,W 0 m fo (upd H1 D (.lst [])))/\∀i m bO ax,W i m bO ax->
  (en.stop i ax/\Q (.ref D) ax)\/
  (en.go i ax/\∀x bJ,en.pI i ax x bJ->g x bO bJ fun bC gv=>gu bC gv fun b fB =>
   if b=au then cL bC fB fun y d5=>∃xs bY,d5 D=J (.lst xs)/\xs.length<bU/\bY<m/\W (i+1) bY bC (upd d5 D (.lst (xs++[y])))
   else ∃bY,bY<m/\W (i+1) bY bC fB)
def I9(iG:dJ)(g:gE)(gu:gO)(cL:TE)(fo:St->St):TE:=fun ae H Q=>iG ae H fun en H1=>∀D,H1 D=av->mu en g gu cL Q (fo ae) H1 D
def pF:gO:=fun _ H Q=>Q au H
def u9(X:bA)(ifs:List cu)(t:gO):Prop :=
 ∀(ak:List (ag×bH))(s:aM)(ae:St)(H:aq)(Q:Bool->aq->Prop),Inv X ak ae H s->t ae H Q->
  bP (model X.prog X.w) X.A (forIn ifs au fun c r=>if r=au then do let ok <-isTrue c X.env (eval c X.env);pure (ForInStep.yield ok)else pure (ForInStep.yield r)) (z8 X ak ae Q) X.xe s
theorem hN{X:bA}:u9 X [] pF:=fun _ _ _ H _ aa h=>wpAny_tests_nil ⟨H,aa,h⟩
theorem Mb{X:bA}{t:gO}(h:kO X c t):u9 X [c] t:=fun ak s ae H Q aa q=>wpAny_tests_one (h ak s ae H Q aa q)
section
variable {prog:c6} {w:cM} {A:dq} {E:ar->aM->Prop} {R:Result->aM->Prop} {s:aM}
theorem WM{elt iY:cu}{ifs:List cu}{it:ar}(aa:Nat->aM->Prop)
  (turn:∀n s,aa n s->bP (model prog w) A (pyNext it) (fun r eh=>match r with
   |none=>R (.ok .next) eh
   | some v=>bP (model prog w) A (letOwnedTupleGo iY it v) (fun _ QT=>bP (model prog w) A (assign iY env v) (fun _ nM =>
     bP (model prog w) A (forIn ifs au fun c r=>if r=au then do let ok <-isTrue c env (eval c env);pure (ForInStep.yield ok)else pure (ForInStep.yield r)) (fun ok ug =>
      if ok=au then bP (model prog w) A (eval elt env) (fun x QU =>
       bP (model prog w) A (call (.builtin "list.append") [acc,x]) (fun _ QV=>∃m,m<n/\aa m QV) (notedBy (model prog w) A env fun e aX=>R (.error e) aX) QU) (notedBy (model prog w) A env fun e aX=>R (.error e) aX) ug
      else ∃m,m<n/\aa m ug) (notedBy (model prog w) A env fun e aX=>R (.error e) aX) nM) (notedBy (model prog w) A env fun e aX=>R (.error e) aX) QT) (notedBy (model prog w) A env fun e aX=>R (.error e) aX) eh) (notedBy (model prog w) A env fun e aX=>R (.error e) aX) s)
  (n:Nat) (h:aa n s) :
  mr (model prog w) A (.compLoop (.ListComp elt [⟨iY,iter,ifs,0⟩] c7 aV) 0 it acc env) R s:=by
 refine codeAny_loop I aa (fun n s fM=>?_) n h
 show bP _ A ((compTurn (.ListComp elt [⟨iY,iter,ifs,0⟩] c7 aV) 0 it acc env).onRaise (fun x=>do noteFrame x env;theTreesLotGoes x)) _ _ s
 refine wpAny_noted ?_
 rw[compTurn_list]
 refine b3 (wpAny_standAt (b3 (kJ (turn n s fM) (fun r eh ip=>?_) fun _ _ h'=>h')))
 cases r with
 |none=>exact ey ip
 | some v =>
  refine b3 (kJ ip (fun _ QT ac6=>?_) fun _ _ h'=>h')
  refine b3 (kJ ac6 (fun _ nM ac7=>b3 (kJ ac7 (fun ok ug Oj=>?_) fun _ _ h'=>h')) fun _ _ h'=>h')
  cases ok with
  |false=>exact ey ⟨I,Oj⟩
  |true =>
   exact b3 (b3 (kJ Oj (fun x QU ac8=>b3 (kJ ac8 (fun _ QV ac9=>ey (ey ⟨I,ac9⟩)) fun _ _ h'=>h')) fun _ _ h'=>h'))
end
section
variable {X:bA} {elt iY iter:cu} {ifs:List cu} {c7:Scope} {aV p:Pos} {f5:List (Nat×ah)} {gW:List ah} {iG:dJ} {g:gE} {gu:gO} {cL:TE}
noncomputable def o6(gW:List ah)(f5:List (Nat×ah)):St->St:=fun ae=>List.replicate gW.length av++f5.map fun p=>(ae[p.1]?).join
theorem KA{env:Env}:∀{names:List (ah×jS)}{x:ah},names.lookup x=J .free->
  ((names.map fun(n,k)=>if(k == jS.free&&env.scope.kind ==.function&&env.kindOf n == J .cell)then(n,jS.cell)else(n,k)).lookup x=J .cell\/
   (names.map fun(n,k)=>if(k == jS.free&&env.scope.kind ==.function&&env.kindOf n == J .cell)then(n,jS.cell)else(n,k)).lookup x=J .free)
 |[],_,h=>by cases h
 | (n,k)::r,x,h=>by
  rw[List.lookup_cons]at h
  rw[gF]
  by_cases ay:x=n
  ·subst ay
   rw[beq_self_eq_true]at h
   cases h
   dsimp only
   split
   .exact .inl (by rw[List.lookup_cons,beq_self_eq_true])
   .exact .inr (by rw[List.lookup_cons,beq_self_eq_true])
  ·rw[beq_false_of_ne ay]at h
   have bQ:=KA (env:=env) h
   dsimp only
   split<;>(rw[List.lookup_cons,beq_false_of_ne ay];exact bQ)
theorem KB{env:Env}:∀{names:List (ah×jS)}{x:ah},((names.map fun(n,k)=>if(k == jS.free&&env.scope.kind ==.function&&env.kindOf n == J .cell)then(n,jS.cell)else(n,k)).lookup x=J .cell\/
   (names.map fun(n,k)=>if(k == jS.free&&env.scope.kind ==.function&&env.kindOf n == J .cell)then(n,jS.cell)else(n,k)).lookup x=J .free)->(∀y∈names,y.2≠.cell)->names.lookup x=J .free
 |[],_,h,_=>by rcases h with h|h<;>cases h
 | (n,k)::r,x,h,aZ=>by
  rw[List.lookup_cons]
  by_cases ay:x=n
  ·subst ay
   rw[beq_self_eq_true]
   have hk:=aZ _ eI
   rw[gF]at h
   dsimp only at h
   split at h
   ·rename_i c
    simp only[jD,beq_iff_eq]at c
    exact congrArg J c.1.1
   ·rw[List.lookup_cons,beq_self_eq_true]at h
    rcases h with h|h
    .cases h;exact absurd I hk
    .exact h
  ·rw[beq_false_of_ne ay]
   refine KB (env:=env) ?_ fun y bV=>aZ y (dP _ bV)
   rw[gF]at h
   dsimp only at h
   split at h<;>(rw[List.lookup_cons,beq_false_of_ne ay]at h;exact h)
theorem Ei:∀{names:List (ah×jS)}{x:ah}{k:jS},names.lookup x=J k->(x,k)∈names
 |[],_,_,h=>by cases h
 | (n,hD)::r,x,k,h=>by
  rw[List.lookup_cons]at h
  by_cases ay:x=n
  ·subst ay
   rw[beq_self_eq_true]at h
   cases h
   exact eI
  ·rw[beq_false_of_ne ay]at h
   exact dP _ (Ei h)
set_option maxHeartbeats 1000000
noncomputable abbrev Dx(α:Type):=List (ah×ag)->ag->aM->aq->List ag->α
end
noncomputable def lp(H:aq)(a:ag):cZ->Prop
 |.ins _ ai _=>H ai=J (.own a)
 |.iP _ u=>lp H a u
 |_=>True
def kL(H:aq):Prop:=∀a o,H a=J o->lp H a o
theorem lp.of(x:hV P w H h a o):lp H a o:=by
 induction o with
 |ins C ai fs=>exact x.1
 |iP dX u bQ=>exact bQ x.2
 |_=>trivial
theorem fG.closed(x:fG P w H h):kL H:=fun a o e=>lp.of (x a o e)
theorem lp.mono(s:∀b u,H b=J u->H' b=J u)(x:lp H a o):lp H' a o:=by
 induction o with
 |ins C ai fs=>exact s _ _ x
 |iP dX u bQ=>exact bQ x
 |_=>trivial
theorem hV.sub(x:hV P w H' h a o)(tS:lp H a o):hV P w H h a o:=by
 induction o with
 |ins C ai fs=>exact⟨tS,x.2⟩
 |iP dX u bQ=>exact⟨x.1,bQ x.2 tS⟩
 |lst _=>exact x
 |tup _=>exact x
 |mD _=>exact x
 |o9 _=>exact x
 |set _ _=>exact x
 |own _=>exact x
 |kG _=>exact x
 |met _ _=>exact x
 |y0 _ _=>exact x
 |qI _=>exact x
 |ext _=>exact x
structure Sub(H iZ H':aq):Prop where
 le:d7 iZ H'
 ge:∀b o,H b=J o->∃u,iZ b=J u
 cl:kL H->kL iZ
theorem Sub.refl(h:d7 H H'):Sub H H H':=⟨h,fun _ o e=>⟨o,e⟩,id⟩
theorem Sub.all(h:∀b o,H b=J o->∃u,H' b=J u)(c:kL H->kL H'):Sub H H' H':=⟨d7.refl _,h,c⟩
theorem dc(h:H p=av):d7 H (upd H p o):=fun b u q=>by rw[bt (eB q h)];exact q
theorem uR(c:kL H)(h:H p=av)(aL:lp (upd H p o) p o):kL (upd H p o):=fun a u e=>by
 by_cases z:a=p
 .subst z;rw[aG]at e;cases e;exact aL
 ·rw[bt z]at e
  exact(c a u e).mono (dc h)
theorem Sub.new(h:H p=av)(hs:d7 H H')(e:H' p=J o)(aL:lp (upd H p o) p o):Sub H (upd H p o) H' :=
 ⟨fun b u q=>by
  by_cases z:b=p
  .subst z;rw[aG]at q;cases q;exact e
  .rw[bt z]at q;exact hs b u q,fun b u q=>⟨u,dc h b u q⟩,fun c=>uR c h aL⟩
theorem Sub.ins{ai:ag}{fs:List (ah×V)}(h:H p=J (.ins C ai fs))(hs:∀b u,b≠p->H b=J u->H' b=J u)(e:H' p=J (.ins C ai oh)):Sub H (upd H p (.ins C ai oh)) H' :=
 ⟨fun b u q=>by
  by_cases z:b=p
  .subst z;rw[aG]at q;cases q;exact e
  .rw[bt z]at q;exact hs b u z q,fun b u q=>by
  by_cases z:b=p
  .subst z;exact⟨_,aG⟩
  .exact⟨u,by rw[bt z];exact q⟩,fun c a u q=>by
  have hd:H ai=J (.own p):=c p _ h
  have bB:ai≠p:=fun z=>by rw[z,h]at hd;cases hd
  by_cases z:a=p
  ·subst z;rw[aG]at q;cases q
   show upd H a _ ai=_
   rw[bt bB];exact hd
  ·rw[bt z]at q
   have x:=c a u q
   revert x
   generalize u=o
   clear q
   induction o with
   |ins rZ d' ajz =>
    intro (x:H d'=J (.own a))
    show upd H p _ d'=_
    rw[bt (fun y=>by rw[y,h]at x;cases x)];exact x
   |iP dX u bQ=>intro x;exact bQ x
   |_=>intro _;trivial⟩
section
variable {X:bA} {ak:List (ag×bH)} {ae:St} {H H' iZ:aq} {s s0:aM}
theorem fW.sub{fs ex:List ag}{al aw:br}(wM:fW fs ex hh H h al)(u:fW fs ex hh H' h aw)(d:Sub H iZ H'):fW fs ex hh iZ h aw:=by
 refine⟨u.keep,u.slot,fun b o e n ay=>?_,u.there,fun b xs e=>?_,fun b o v e=>?_,fun b aI e=>?_⟩
 ·cases q:iZ b with
  |none=>rfl
  |some v=>have:=d.le b v q;rw[u.free b o e n ay]at this;cases this
 ·obtain⟨v,b5⟩:=d.ge b _ (wM.mm b xs e)
  have:=d.le b v b5;rw[u.mm b xs e]at this;cases this;exact b5
 ·obtain⟨z,b5⟩:=d.ge b _ (wM.lH b o v e)
  have:=d.le b z b5;rw[u.lH b o v e]at this;cases this;exact b5
 ·obtain⟨m0,eY⟩:=wM.ml b aI e
  obtain⟨z,b5⟩:=d.ge b _ eY
  obtain⟨m,aU⟩:=u.ml b aI e
  have:=d.le b z b5;rw[aU]at this;cases this;exact⟨m,b5⟩
theorem fG.sub(x:fG P w H' h)(c:kL iZ)(d:d7 iZ H'):fG P w iZ h:=fun a o e=>(x a o (d a o e)).sub (c a o e)
end
inductive hX(H H':aq)(Q:aq->Prop):Prop where
 |mk (iZ:aq) (s:Sub H iZ H') (q:Q iZ):hX H H' Q
theorem cv.keep{sp:b0}(F:cv P w K mg base c8 k f fd aI sp)
  (h:∀vs H Q E,rO vs H Q E->sp vs H (fun v H'=>hX H H' (Q v)) E):cv P w K mg base c8 k f fd aI rO:=by
 refine⟨fun vs H Q E q=>F.len vs H _ E (h vs H Q E q),fun A outer s H args us vs Q E az eY aj r q=>m3 (F.run A outer s H args us vs _ E az eY aj r (h vs H Q E q)) fun rs aX c=>?_⟩
 cases rs with
 |error e=>exact c
 | ok er =>
  cases er with
  |ret u =>
   obtain⟨v,H',os,bare,un,aT,dN,iZ,d,hF⟩:=c
   exact⟨v,iZ,os,bare,fW.sub (fW.refl (h:=s.heap)) un d,aT.sub (d.cl eY.aT.closed) d.le,dN,hF⟩
  |next=>exact c
  |brk=>exact c
  |cont=>exact c
theorem c1.OQ{x:ah}{st:bz}{sp:b0}(F:c1 K x d0 st f fd)(S:bW N aI (bI st))(len:∀vs H Q E,sp vs H Q E->vs.length=aI.length)
  (lI:∀(bl:ar)(A:dq)(outer:List Env)(s:aM)(H:aq)(vs:List V)(Q:bG)(E:bT),fH k (A.deeper (envOfC d0 (bI st) s.heap.objs.size f bl))->sp vs H Q E->
   ∃t,h7 (lE c8 P w K mg base N d0 (bI st) f bl A outer s H E).rE (kA st) t/\t {nx:=fun _ H'=>hX H H' (Q .bc),rt:=fun v H'=>hX H H' (Q v)} (start N vs) H):cv P w K mg base c8 (k+1) f fd aI sp :=
 (F.ok (sp:=fun vs H Q E=>∃jX,Q=(fun v H'=>hX H H' (jX v))/\sp vs H jX E) S (fun vs H Q E ⟨jX,_,h⟩=>len vs H jX E h) (fun bl A outer s H vs Q E az ⟨jX,e,h⟩=>by
  subst e
  exact lI bl A outer s H vs jX E az h)).keep fun vs H Q E h=>⟨Q,rfl,h⟩
end cN
end
variable {L:List Bool}
section
namespace dG
noncomputable def dW(n:Nat):Nat->List Bool
 |0=>[]
 |w+1=>n.testBit w::dW n w
noncomputable def aF(n:Nat):Nat:=if n=0 then 0 else n.log2+1
theorem iM(n w:Nat):(dW n w).length=w:=by
 induction w with
 |zero=>rfl
 |succ w bQ=>simp[dW,bQ]
theorem Bz(n:Nat):n<2^aF n:=by
 unfold aF
 split
 .omega
 .exact Nat.lt_log2_self
theorem jI{w:Nat}(h:n<2^w):aF n<=w:=by
 unfold aF
 split
 .omega
 ·rename_i bg
  exact(Nat.log2_lt bg).mpr h
theorem vq(h:n≠0):0<aF n:=by unfold aF;rw[if_neg h];omega
theorem TH(h:n≠0):2^(aF n-1)<=n:=by
 unfold aF;rw[if_neg h];exact Nat.log2_self_le h
noncomputable def kF(a:Nat)(l:List Bool):Nat:=l.foldl (fun x b=>2*x+b.toNat) a
theorem ajs(a:Nat):kF a []=a:=rfl
theorem S3(a:Nat)(b:Bool)(l:List Bool):kF a (b::l)=kF (2*a+b.toNat) l:=rfl
theorem X4(a:Nat)(l m:List Bool):kF a (l++m)=kF (kF a l) m:=by simp[kF,List.foldl_append]
theorem S4(a n w:Nat):kF a (dW n w)=a*2^w+n%2^w:=by
 induction w generalizing a with
 |zero=>simp[dW,kF,Nat.mod_one]
 | succ w bQ =>
  rw[dW,S3,bQ]
  have h:n%2^(w+1)=(n.testBit w).toNat*2^w+n%2^w:=by
   rw[Nat.pow_succ,Nat.mod_mul,Nat.testBit_eq_decide_div_mod_eq,Nat.add_comm,Nat.mul_comm]
   congr 1
   have:n/2^w%2<2:=Nat.mod_lt _ (by decide)
   by_cases q:n/2^w%2=1
   .simp[q]
   ·have:n/2^w%2=0:=by omega
    simp[this]
  rw[h,Nat.pow_succ,Nat.add_mul]
  have e:2*a*2^w=a*(2^w*2):=by rw[Nat.mul_comm 2 a,Nat.mul_assoc,Nat.mul_comm 2 (2^w)]
  omega
theorem My(h:n≠0):kF 1 (dW n (aF n-1))=n:=by
 rw[S4,Nat.one_mul]
 have al:=TH h
 have aw:=Bz n
 have bq:=vq h
 have e:2^aF n=2^(aF n-1)*2:=by rw[<-Nat.pow_succ];congr 1;omega
 have:n%2^(aF n-1)=n-2^(aF n-1):=by
  rw[Nat.mod_eq_sub_mod al,Nat.mod_eq_of_lt (by omega)]
 omega
noncomputable def fE(e:Nat):List Bool:=if e=8 then []else [aA]
noncomputable def cnt(n:Nat):List Bool :=
 List.replicate (aF (aF (n+1))-1) au++(fE (aF (aF (n+1)))++(dW (aF (n+1)) (aF (aF (n+1))-1)++dW (n+1) (aF (n+1)-1)))
theorem xo(h:n+1<2^255):(cnt n).length<=aF (n+1)+14:=by
 unfold cnt
 have hd:aF (n+1)<=255:=jI h
 have he:aF (aF (n+1))<=8:=jI (by omega)
 have aY:0<aF (n+1):=vq (by omega)
 simp only[ee,List.length_replicate,iM]
 have:(fE (aF (aF (n+1)))).length<=if aF (aF (n+1))=8 then 0 else 1:=by
  unfold fE;split<;>simp
 split at this<;>omega
noncomputable def ha(n:Int):List Bool:=if n<0 then aA::(cnt (-1-n).toNat).map (!·)else au::cnt n.toNat
end dG
namespace dG
structure Rm(L:List Bool)(p n:Nat):Prop where
 ones:∀j,j<aF (aF (n+1))-1->L.getD (p+j) aA=au
 zero:aF (aF (n+1))<8->L.getD (p+(aF (aF (n+1))-1)) aA=aA
 size:(L.drop (p+(aF (aF (n+1))-1)+(fE (aF (aF (n+1)))).length)).take (aF (aF (n+1))-1)=dW (aF (n+1)) (aF (aF (n+1))-1)
 more:(L.drop (p+(aF (aF (n+1))-1)+(fE (aF (aF (n+1)))).length+(aF (aF (n+1))-1))).take (aF (n+1)-1)=dW (n+1) (aF (n+1)-1)
 fits:p+(cnt n).length<=L.length
theorem Mo(n:Nat):(cnt n).length=(aF (aF (n+1))-1)+(fE (aF (aF (n+1)))).length+(aF (aF (n+1))-1)+(aF (n+1)-1):=by
 unfold cnt
 simp only[ee,List.length_replicate,iM]
 omega
theorem Ul{p:Nat}(h:cnt n <+: L.drop p)(aO:p<=L.length):Rm L p n:=by
 obtain⟨r,e⟩:=h
 have aC:=congrArg List.length e
 rw[ee,kv]at aC
 have key:∀j,j<(cnt n).length->L.getD (p+j) aA=(cnt n).getD j aA:=by
  intro j cw
  have:(L.drop p)[j]?=(cnt n)[j]?:=by rw[<-e,List.getElem?_append_left cw]
  rw[List.getElem?_drop]at this
  rw[eL,eL,this]
 have cl:=Mo n
 refine⟨fun j cw=>?_,fun pe=>?_,?_,?_,by omega⟩
 ·rw[key j (by omega)]
  unfold cnt
  rw[eL,List.getElem?_append_left (by simpa using cw),List.getElem?_replicate,if_pos cw];rfl
 ·have dA:(fE (aF (aF (n+1))))=[aA]:=by unfold fE;rw[if_neg (by omega)]
  rw[key _ (by rw[cl,dA];simp only[eA,List.length_nil];omega)]
  unfold cnt
  rw[dA,eL,List.getElem?_append_right (by simp)]
  simp
 ·have:L.drop (p+(aF (aF (n+1))-1)+(fE (aF (aF (n+1)))).length)=dW (aF (n+1)) (aF (aF (n+1))-1)++dW (n+1) (aF (n+1)-1)++r:=by
   rw[Nat.add_assoc,<-List.drop_drop,<-e]
   unfold cnt
   rw[<-h9,<-h9,h9 (List.replicate _ _++_),h9 (List.replicate _ _++_)]
   have:(aF (aF (n+1))-1)+(fE (aF (aF (n+1)))).length=(List.replicate (aF (aF (n+1))-1) au++fE (aF (aF (n+1)))).length:=by simp
   rw[this,List.drop_left]
  rw[this,h9,List.take_left' (iM _ _)]
 ·have:L.drop (p+(aF (aF (n+1))-1)+(fE (aF (aF (n+1)))).length+(aF (aF (n+1))-1))=dW (n+1) (aF (n+1)-1)++r:=by
   rw[Nat.add_assoc,Nat.add_assoc,<-List.drop_drop,<-e]
   unfold cnt
   have ba:(List.replicate (aF (aF (n+1))-1) au++(fE (aF (aF (n+1)))++(dW (aF (n+1)) (aF (aF (n+1))-1)++dW (n+1) (aF (n+1)-1))))++r=(List.replicate (aF (aF (n+1))-1) au++fE (aF (aF (n+1)))++dW (aF (n+1)) (aF (aF (n+1))-1))++(dW (n+1) (aF (n+1)-1)++r):=by simp
   rw[ba]
   have:(aF (aF (n+1))-1)+((fE (aF (aF (n+1)))).length+(aF (aF (n+1))-1))=(List.replicate (aF (aF (n+1))-1) au++fE (aF (aF (n+1)))++dW (aF (n+1)) (aF (aF (n+1))-1)).length:=by simp[iM,Nat.add_assoc]
   rw[this,List.drop_left]
  rw[this,List.take_left' (iM _ _)]
end dG
end
variable {l:List Bool}
section
namespace dG
open PySem cN
noncomputable def l2(b:Bool):Nat:=if b then 49 else 48
noncomputable def aR(l:List Bool):ah:=⟨(l.map l2).toArray⟩
theorem xy{a b:ah}(h:a.cps.toList=b.cps.toList):a=b:=by
 obtain⟨x⟩:=a;obtain⟨y⟩:=b
 exact congrArg ah.mk (Array.ext' h)
theorem jG(l:List Bool):(aR l).cps.toList=l.map l2:=by simp[aR]
theorem d8(l:List Bool):(aR l).length=l.length:=by simp[aR,ah.length]
theorem Uo{a b:Bool}(h:l2 a=l2 b):a=b:=by cases a<;>cases b<;>first|rfl|(revert h;decide)
theorem Bd{a b:List Bool}(h:aR a=aR b):a=b:=by
 have:=congrArg (fun x:ah=>x.cps.toList) h
 simp only[jG]at this
 exact List.map_inj_right (fun _ _=>Uo) |>.mp this
theorem kz(a b:List Bool):aR a++aR b=aR (a++b):=by
 apply xy
 show((aR a).cps++(aR b).cps).toList=_
 rw[Array.toList_append,jG,jG,jG,gf]
theorem s1:(ah.ofString "1")=aR [au]:=by decide+kernel
theorem s0:(ah.ofString "0")=aR [aA]:=by decide+kernel
theorem y2:(ah.ofString "")=aR []:=by decide+kernel
theorem Y1(a b:List Bool):decide (V.str (aR a)=V.str (aR b))=decide (a=b):=by
 by_cases h:a=b
 .subst h;simp
 ·have:¬V.str (aR a)=V.str (aR b):=fun q=>h (Bd (V.str.inj q))
  rw[gd h,gd this]
theorem WK:∀aN:List ah,(Txt.join (ah.ofString "") aN).cps.toList=(aN.map (·.cps.toList)).flatten:=by
 have e:(ah.ofString "").cps=#[]:=by decide+kernel
 have key:∀(aN:List ah)(acc:Array Nat),(aN.foldl (fun acc p=>acc++(ah.ofString "").cps++p.cps) acc).toList=acc.toList++(aN.map (·.cps.toList)).flatten:=by
  intro aN
  induction aN with
  |nil=>intro acc;simp
  |cons y r bQ=>intro acc;rw[List.foldl_cons,bQ,e];simp
 intro aN
 cases aN with
 |nil=>rfl
 |cons y r =>
  show((r.foldl (fun acc p=>acc++(ah.ofString "").cps++p.cps) y.cps)).toList=_
  rw[key];simp
theorem qV(ls:List (List Bool)):Txt.join (ah.ofString "") (ls.map aR)=aR ls.flatten:=by
 apply xy
 rw[WK,jG,fV,List.map_flatten]
 exact congrArg List.flatten (nd fun l _=>jG l)
theorem Yw(l:List Bool):(l.map fun b=>[b]).flatten=l:=by
 induction l with
 |nil=>rfl
 |cons b r bQ=>rw[gF,lx,bQ];rfl
theorem Lo(l:List Bool):Txt.join (ah.ofString "") (l.map fun b=>aR [b])=aR l:=by
 have:=qV (l.map fun b=>[b])
 rw[fV]at this
 rw[show(fun b=>aR [b])=aR ∘ (fun b=>[b])from rfl,this]
 exact congrArg aR (Yw l)
theorem Bv(b:Bool)(n:Int):Txt.mul (aR [b]) n=aR (List.replicate n.toNat b):=by
 unfold Txt.mul
 by_cases h:n<1
 .rw[if_pos h,show n.toNat=0 by omega];rfl
 ·rw[if_neg h]
  by_cases al:n=1
  .subst al;rfl
  ·have:(n == 1||(aR [b]).length == 0)=aA:=by simp[d8,al]
   rw[this,if_neg (by decide)]
   apply xy
   have key:∀(k:Nat)(acc:Array Nat),((List.replicate k (aR [b]).cps).foldl (· ++ ·) acc).toList=acc.toList++(List.replicate k b).map l2:=by
    intro k
    induction k with
    |zero=>intro acc;simp
    |succ k bQ=>intro acc;rw[List.replicate_succ,List.foldl_cons,bQ,List.replicate_succ];simp[aR]
   rw[jG]
   simpa using key n.toNat #[]
theorem ahk(lo aJ:Option Int)(n:Nat):cO.Str.strSliceIndices lo aJ 1 n=(List.range (el.fF n n aJ-el.fF n 0 lo)).map (el.fF n 0 lo+·):=by
 unfold cO.Str.strSliceIndices
 rw[<-sliceRange_one]
 simp only[show((1:Int) > 0)=True from eq_true (by decide),if_true]
 congr 1
 ·cases lo with
  |none=>rfl
  |some i =>
   simp only[el.fF]
   by_cases h:i<0
   .simp only[h,if_true];omega
   .simp only[h,if_false];omega
 ·cases aJ with
  |none=>rfl
  |some i =>
   simp only[el.fF]
   by_cases h:i<0
   .simp only[h,if_true];omega
   .simp only[h,if_false];omega
theorem vm(x:ah)(lo aJ:Option Int):(Txt.slice x lo aJ).cps.toList=(x.cps.toList.drop (el.fF x.length 0 lo)).take (el.fF x.length x.length aJ-el.fF x.length 0 lo):=by
 have aC:x.cps.toList.length=x.length:=by simp[ah.length]
 have al:=el.O3 x.length x.length (cE _) aJ
 have aw:=el.O3 x.length 0 (UF _) lo
 unfold Txt.slice
 rw[ahk]
 split
 ·rename_i c
  simp only[cq,kx,jD,beq_iff_eq]at c
  have a0:el.fF x.length 0 lo=0\/x.length=0:=by omega
  rcases a0 with a0|a0
  .rw[a0,List.drop_zero,UV (by omega)]
  ·have:x.cps.toList=[]:=List.length_eq_zero_iff.mp (by omega)
   rw[this];simp
 .rw[pick_run]
theorem La(l:List Bool)(lo aJ:Option Int):Txt.slice (aR l) lo aJ=aR ((l.drop (el.fF l.length 0 lo)).take (el.fF l.length l.length aJ-el.fF l.length 0 lo)):=by
 apply xy
 rw[vm,jG,jG,d8,List.map_take,List.map_drop]
theorem xt{b:Bool}(h:l[i]?=J b):(aR l).cps.toList[i]?=J (l2 b):=by rw[jG,e4,h];rfl
theorem LI(b:Bool):(⟨#[l2 b]⟩:ah)=aR [b]:=rfl
theorem YX(b:Bool):PySem.intText? (aR [b])=J (b.toNat:Int):=by cases b<;>decide+kernel
theorem vv(n:Nat):cO.Int.intBits ((n:Nat):Int)=aF n:=by
 unfold cO.Int.intBits aF
 by_cases h:n=0
 .subst h;rfl
 ·have:(((n:Nat):Int) == 0)=aA:=by simpa using h
  rw[this,if_neg (by decide),if_neg h]
  simp
theorem Y0{c:Nat}(h:(aR l).cps[i]?=J c):V.str ⟨#[c]⟩=V.str (aR [l.getD i aA]):=by
 have h':(aR l).cps.toList[i]?=J c:=by simpa using h
 rw[jG,e4]at h'
 rw[eL]
 cases e:l[i]? with
 |none=>rw[e]at h';cases h'
 |some b =>
  rw[e]at h'
  have:l2 b=c:=gy h'
  rw[<-this];rfl
end dG
end
section
namespace cN
open PySem PySem.Spec PyProof.Rows
section
variable {X:bA}
noncomputable def ed:=d6.or (T4 (X:=X)) XB
theorem gb:d6 X (kI .Sub) (mX fun i j =>.int (i-j)):=TY
noncomputable def kZ:=d6.or (T2 (X:=X)) XA
noncomputable def ke:=d6.or (Us (X:=X)) Yd
noncomputable def cX:=n2.or (n2.or (Tu (X:=X)) Ub) Uc
noncomputable def oJ:=q3.or (S1 (X:=X)) TQ
theorem i2.or{it:cu}{iG Ra:dJ}(h:i2 X eD it iG)(h':i2 X eD it Ra):i2 X eD it (fun ae H R=>iG ae H R\/Ra ae H R):=fun ak s ae H R aa q=>q.elim (h ak s ae H R aa) (h' ak s ae H R aa)
theorem iT{l:cu}{eV:TE}(aC:ck X l eV):i2 X eD l (fun ae H R=>Ol X.K eV ae H R\/Om eV ae H R):=(S6 aC).or (TU aC)
end
def dS(K:bK)(mg:ah->Option ar)(x:ah)(st:bz)(aI:List ah)(f:ag)(fd:ho):Prop:=c1 K x x st f fd/\Binds K fd aI []/\mg x=J (.ref f)
def bp(P:c6)(w:cM)(K:bK)(mg:ah->Option ar)(base:br)(k:Nat)(x:ah)(aI:List ah)(sp:b0):Prop :=
 ∃f fd,cv P w K mg base c8 k f fd aI sp/\Binds K fd aI []/\pJ K (.ref f)=au/\mg x=J (.ref f)
def fZ(P:c6)(w:cM)(K:bK)(mg:ah->Option ar)(base:br)(k:Nat)(C:ag)(m:ah)(aI:List ah)(sp:b0):Prop :=
 ∃f fd,cv P w K mg base c8 k f fd aI sp/\Binds K fd aI []/\sx K C m f
def jl(P:c6)(w:cM)(K:bK)(mg:ah->Option ar)(base:br)(k:Nat)(x:ah)(C:ag)(aI:List ah)(sp:b0):Prop :=
 ∃f fd,xc K C f/\cv P w K mg base c8 k f fd aI sp/\Binds K fd aI []/\mg x=J (.ref C)
def ek(mg:ah->Option ar)(x:ah)(v:V):Prop:=∃u,mg x=J u/\RelV v u
section
variable {X:bA} {k hD:Nat} {x m:ah} {C:ag} {aI:List ah} {sp:b0} {e o:cu} {aK:List cu} {t:gx} {cf:TE} {p aV apos:Pos} {v:V}
theorem hM(h:ek X.mg x v)(bb:h6 X x:=by rfl)(hd:(x == ("__debug__":ah))=aA:=by decide+kernel):ck X (.Name x p) (pD v):=by
 obtain⟨u,al,aw⟩:=h
 exact Tb bb al aw hd
theorem bX(h:bp X.prog X.w X.K X.mg X.base k x aI sp)(az:fH hD X.A)(bh:hr X (e::aK) t)(hk:k<=hD:=by decide)(bb:h6 X x:=by rfl)(jK:(x == ("__debug__":ah))=aA:=by decide+kernel)
  (he:dr (e::aK) X.env=(aA,eval e X.env)::dr aK X.env:=by rfl) (fR:(backTo aV (dr aK X.env)).any (·.1)=aA:=by rfl):ck X (.Call (.Name x p) (e::aK) [] aV) (I8 sp [] iK t):=by
 obtain⟨f,fd,F,aj,kD,hm⟩:=h
 exact Tc F (az.mono hk) bb hm kD aj .nil wy bh jK he fR
theorem sJ{pl:Sem Bool}(h:fZ X.prog X.w X.K X.mg X.base k C m aI sp)(c:ff X.K C)(az:fH hD X.A)(he:ck X o cf)(bh:hr X (e::aK) t)(hk:k<=hD:=by decide)
  (jM:dr (e::aK) X.env=(aA,eval e X.env)::dr aK X.env:=by rfl) (fR:(backTo aV (dr aK X.env)).any (·.1)=aA:=by rfl)
  (bo:eval (.Call (.Attribute o m apos) (e::aK) [] aV) X.env=(do
   let iS <-eval o X.env
   standAt apos.atName
   let (f,first) <-holding [iS] (getMethod iS m pl)
   callWith aV f first (backTo aV (dr (e::aK) X.env)) (backToKw aV (rW [] X.env))):=by rfl) :
  ck X (.Call (.Attribute o m apos) (e::aK) [] aV) (C7 C m sp [] iK cf t):=by
 obtain⟨f,fd,F,aj,hm⟩:=h
 exact S9 he c hm F (az.mono hk) aj .nil wy bh jM fR bo
theorem ig{pl:Sem Bool}(h:fZ X.prog X.w X.K X.mg X.base k C m aI sp)(c:ff X.K C)(az:fH hD X.A)(he:ck X o cf)(hk:k<=hD:=by decide)
  (bo:eval (.Call (.Attribute o m apos) [] [] aV) X.env=(do
   let iS <-eval o X.env
   standAt apos.atName
   let (f,first) <-holding [iS] (getMethod iS m pl)
   callWith aV f first (backTo aV (dr [] X.env)) (backToKw aV (rW [] X.env))):=by rfl) :
  ck X (.Call (.Attribute o m apos) [] [] aV) (C7 C m sp [] iK cf C8):=by
 obtain⟨f,fd,F,aj,hm⟩:=h
 exact Y6 he c hm F (az.mono hk) aj .nil wy bo
theorem pW(h:jl X.prog X.w X.K X.mg X.base k x C aI sp)(az:fH hD X.A)(bh:hr X (e::aK) t)(hk:k+1<=hD:=by decide)(bb:h6 X x:=by rfl)(jK:(x == ("__debug__":ah))=aA:=by decide+kernel)
  (he:dr (e::aK) X.env=(aA,eval e X.env)::dr aK X.env:=by rfl) (fR:(backTo aV (dr aK X.env)).any (·.1)=aA:=by rfl):ck X (.Call (.Name x p) (e::aK) [] aV) (QZ C sp [] iK t):=by
 obtain⟨f,fd,M,F,aj,hm⟩:=h
 exact Ta M F (az.mono hk) bb hm aj .nil wy bh jK he fR
end
theorem dS.ok{x:ah}{st:bz}{sp:b0}(F:dS K mg x st aI f fd)(S:bW N aI (bI st))(len:∀vs H Q E,sp vs H Q E->vs.length=aI.length)
  (lI:∀(bl:ar)(A:dq)(outer:List Env)(s:aM)(H:aq)(vs:List V)(Q:bG)(E:bT),fH k (A.deeper (envOfC x (bI st) s.heap.objs.size f bl))->sp vs H Q E->
   ∃t,h7 (lE c8 P w K mg base N x (bI st) f bl A outer s H E).rE (kA st) t/\t {nx:=fun _ H'=>hX H H' (Q .bc),rt:=fun v H'=>hX H H' (Q v)} (start N vs) H):bp P w K mg base (k+1) x aI sp :=
 ⟨f,fd,F.1.OQ S len lI,F.2.1,F.1.kD,F.2.2⟩
section
variable {X:bA} {e:cu} {aV:Pos}
theorem dk:d6 X (hS .Eq) CR:=Uw
theorem tQ:d6 X (hS .NotEq) OZ:=Ur
theorem tP:d6 X (hS .LtE) (mX fun i j =>.aE (decide (i<=j))):=Ut
theorem kY:d6 X (hS .Gt) (mX fun i j =>.aE (decide (j<i))):=Uu
theorem CJ:d6 X (hS .GtE) (mX fun i j =>.aE (decide (j<=i))):=Uv
theorem jC.or'{f:ar}{r e1:List V->aq->bG->Prop}(h:jC X f r)(h':jC X f e1):jC X f (fun xs H Q=>r xs H Q\/e1 xs H Q):=fun ak s ae H xs us Q aa dN q=>q.elim (h ak s ae H xs us Q aa dN) (h' ak s ae H xs us Q aa dN)
noncomputable def Ba:=jC.or' (YH (X:=X)) Wc
noncomputable def jF:=jC.or' (Xm (X:=X)) WO
theorem FV{cf:TE}(bh:ck X e cf):ck X (.UnaryOp .Not e aV) (fun ae H Q=>cf ae H fun x H'=>∃k,Aa X.K x H' k/\Q (.aE (!k)) H'):=by
 intro ak s ae H Q aa h
 refine UnaryOp_ (cU (bh ak s ae H _ aa h) fun v s1 bM=>?_)
 obtain⟨x,H1,bf,cd,k,wL,cg⟩:=bM
 exact not_of (cU (Ms ak s1 ae H1 x v (fun b H'=>b=k/\Q (.aE (!k)) H') bf cd ⟨k,wL,I,cg⟩) fun b s2 ⟨ax,bE,e,cj⟩=>by subst e;exact⟨.aE (!b),ax,bE,I,cj⟩)
end
end cN
namespace cN
open PySem
theorem sR:jT "int"=J (.type "int"):=by decide+kernel
theorem F7:jT "str"=J (.type "str"):=by decide+kernel
theorem By:jT "bool"=J (.type "bool"):=by decide+kernel
theorem q2:jT "tuple"=J (.type "tuple"):=by decide+kernel
theorem FX:jT "list"=J (.type "list"):=by decide+kernel
theorem ef:jT "len"=J (.builtin "len"):=by decide+kernel
theorem gP:jT "isinstance"=J (.builtin "isinstance"):=by decide+kernel
theorem F8:jT "min"=J (.builtin "min"):=by decide+kernel
theorem Un:jT "abs"=J (.builtin "abs"):=by decide+kernel
theorem YI:jT "sorted"=J (.builtin "sorted"):=by decide+kernel
theorem sS:jT "all"=J (.builtin "all"):=by decide+kernel
end cN
end
variable {t:Bool} {g:cN.gE} {d:Nat} {en:cN.ko} {cL:cN.TE} {fo:cN.St} {dp:cN.eW}
section
namespace cN
open PySem PySem.Spec PyProof.Rows dG
theorem fX{u:cZ}:upd (upd H a o) a u=upd H a u:=by
 funext b
 unfold upd
 split<;>rfl
theorem FO{Q:bG}{D:ag}(n:Nat)(xs gI:Nat->V)(S:St->Prop)(aZ:n<=bU)(bg:S fo)
  (yk:∀i H,i<n->en.go i H) (HF:∀H,en.stop n H) (bV:∀i H x H',i<n->en.pI i H x H'->H'=H/\x=xs i)
  (bo:∀i bO H1,i<n->S bO->∀R:St->V->aq->Prop,(∀bC,S bC->R bC (gI i) H1)->g (xs i) bO H1 fun bC ax=>cL bC ax fun y bJ=>R bC y bJ)
  (aY:Q (.ref D) (upd H D (.lst ((List.range n).map gI)))) :
  mu en g pF cL Q fo H D:=by
 refine⟨fun i m bO ax=>i<=n/\m=n-i/\S bO/\ax=upd H D (.lst ((List.range i).map gI)),⟨n,UF _,I,bg,I⟩,?_⟩
 rintro i m bO ax ⟨al,rfl,aw,rfl⟩
 rcases hv i n with z|z
 ·refine .inr ⟨yk i _ z,fun x bJ y=>?_⟩
  obtain⟨rfl,rfl⟩:=bV i _ x bJ z y
  refine bo i bO _ z aw (fun bC y d5=>∃xs bY,d5 D=J (.lst xs)/\xs.length<bU/\bY<n-i/\(i+1<=n/\bY=n-(i+1)/\S bC/\upd d5 D (.lst (xs++[y]))=upd H D (.lst ((List.range (i+1)).map gI)))) fun bC eN=>?_
  refine⟨_,n-(i+1),aG,?_,by omega,by omega,rfl,eN,?_⟩
  .rw[cq,kx];omega
  .rw[fX,List.range_succ,gf];rfl
 ·have e:i=n:=by omega
  subst e
  exact .inl ⟨HF _,aY⟩
theorem XR{c:Int}{D:Ends}(Pv:Nat->St->aq->Prop)(bg:Pv 0 ae H)
  (hs:∀i ae H,i<n->Pv i ae H->g (.int (lo+i*c)) ae H fun bC ax=>dp {D with nx:=Pv (i+1),ct:=Pv (i+1),bk:=D.nx} bC ax) (hd:∀ae H,Pv n ae H->D.nx ae H) :
  ∃W:Nat->Nat->St->aq->Prop,(∃m,W 0 m ae H)/\∀i m ae H,W i m ae H->
   ((sk lo c n).stop i H/\D.nx ae H)\/((sk lo c n).go i H/\∃N:St->aq->Prop,(∀bR H',N bR H'->∃bY,bY<m/\W (i+1) bY bR H')/\∀x H',(sk lo c n).pI i H x H'->g x ae H' fun bC ax=>dp {D with nx:=N,ct:=N,bk:=D.nx} bC ax):=by
 refine⟨fun i m ae H=>i<=n/\m=n-i/\Pv i ae H,⟨n,UF _,I,bg⟩,?_⟩
 rintro i m ae H ⟨al,rfl,aw⟩
 rcases hv i n with z|z
 ·refine .inr ⟨z,Pv (i+1),fun bR H' q=>⟨n-(i+1),by omega,by omega,rfl,q⟩,?_⟩
  rintro x H' ⟨rfl,rfl⟩
  exact hs i ae _ z aw
 ·have e:i=n:=by omega
  subst e
  exact .inl ⟨cE _,hd ae H aw⟩
end cN
namespace cN
open PySem
theorem A5(h:H a=J o):upd H a o=H:=by
 funext b
 unfold upd
 split
 .rename_i e;rw[e,h]
 .rfl
end cN
namespace dG
theorem Zo(n k:Nat):n/2^k=2*(n/2^(k+1))+(n.testBit k).toNat:=by
 rw[Nat.testBit_eq_decide_div_mod_eq,Nat.pow_succ,<-Nat.div_div_eq_div_mul]
 have:n/2^k%2<2:=Nat.mod_lt _ (by decide)
 by_cases q:n/2^k%2=1
 .simp[q];omega
 ·have:n/2^k%2=0:=by omega
  simp[this];omega
theorem YJ(h:j<d):(dW n d)[j]?=J (n.testBit (d-1-j)):=by
 induction d generalizing j with
 |zero=>omega
 | succ d bQ =>
  cases j with
  |zero=>simp[dW]
  |succ j =>
   rw[dW,List.getElem?_cons_succ,bQ (by omega)]
   congr 2
   omega
theorem X8(h:((l.drop i).take d).map (xor t)=dW n d)(cw:j<d)(aC:i+d<=l.length):∃b,l[i+j]?=J b/\xor t b=n.testBit (d-1-j):=by
 have e:=YJ (n:=n) cw
 rw[<-h,e4,List.getElem?_take_of_lt cw,List.getElem?_drop]at e
 cases q:l[i+j]? with
 |none=>rw[q]at e;cases e
 |some b =>
  rw[q]at e
  exact⟨b,I,gy e⟩
theorem xv(l:List Bool):l.map (xor aA)=l:=by
 rw[show(xor aA)=(id:Bool->Bool)from funext fun b=>by cases b<;>rfl,List.map_id]
end dG
namespace cN
open PySem
theorem FN(K:bK)(t:ar):fp K t t=J au:=by
 unfold fp;rw[beq_self_eq_true,if_pos rfl]
end cN
namespace dG
theorem Kp{a:List Bool}(h:a.map (!·) <+: L):a <+: L.map (!·):=by
 obtain⟨r,e⟩:=h
 refine⟨r.map (!·),?_⟩
 rw[<-e,gf,fV]
 congr 1
 conv=>lhs;rw[<-List.map_id a]
 exact nd fun b _=>(Bool.not_not b).symm
theorem KG(l:List Bool)(t:Bool):(l.map (xor t)).map (!·)=l.map (xor (!t)):=by
 rw[fV]
 exact nd fun b _=>by cases t<;>cases b<;>rfl
theorem KY{n:Int}(al : -(2^255)<n)(aw:n<2^255-1):(ha n).length<=270:=by
 have c:∀m:Nat,m+1<2^255->(cnt m).length<=269:=fun m h=>by
  have:=xo h
  have:=jI h
  omega
 unfold ha
 split
 .rw[eA,cq];have:=c (-1-n).toNat (by omega);omega
 .rw[eA];have:=c n.toNat (by omega);omega
end dG
end
variable {h':br}
section
namespace cN
open PySem PySem.Spec PyProof.Rows
def w5(e:ag)(o:Option ag)(c:Option ar)(d:Option ag):Prop:=(o=d/\(d=av\/c=J .none))\/(d=J e/\o=av/\c=J .none)
def kM(h:br)(e:ag)(cls:ar)(d:Option ag)(T:ag)(er:ar):Prop :=
 ∃e0 vs kf iW,h.get? e=J e0/\e0.cls=cls/\w5 e e0.dict vs[2]? d/\e0.data=.fields vs/\vs[1]?=J (.ref T)/\T≠e/\h.get? T=J kf/\kf.data=.fields iW/\iW[3]?=J er/\True
structure vf(fs:List ag)(e:ag)(T:Option ag)(h h':br):Prop where
 keep:∀b o,b≠e->J b≠T->b∉fs->h.get? b=J o->h'.get? b=J o
 slot:∀b o,b≠e->J b≠T->h.get? b=J o->∃dU,h'.get? b=J {o with slots:=dU}
section
variable {M:Model} {A:dq} {E:ar->aM->Prop} {s:aM} {base:br} {env:Env} {outer:List Env} {L e T:ag} {e0:bH} {vs:Array ar} {head:ar} {abE:Bool} {Q:Unit->aM->Prop} {cls:ar} {d:Option ag} {er:ar}
theorem VM(o:bH)(f):(o.mapFields f).dict=o.dict:=by
 obtain⟨c,d,ZV,dU⟩:=o;cases ZV<;>rfl
theorem Gp(ot:A.frames=J (env::outer))(aC:s.heap.FunFrames base (env::outer))(aH:env.frame=J L)(he:s.heap.get? e=J e0)(hd:e0.data=.fields vs)(g7:1<vs.size)(md:w5 e e0.dict vs[2]? d)
  (h:∀h' dT,kM h' e e0.cls d dT (rawInt L)->s.heap.get? dT=av->h'.FunFrames base (env::outer)->vf ((env::outer).filterMap (·.frame)) e av s.heap h'->Q () {s with heap:=h'}) :
  bP M A (do let a <-frameOf env;let pl <-entryPlaceOf L abE;let b <-EntryCells.newEntry head a .none (rawInt L) .none pl;setField (.ref e) 1 b) Q E s:=by
 have abW:e∉(env::outer).filterMap (·.frame):=fun hm=>by
  obtain⟨_,o,aL,jL⟩:=aC.mem hm
  rw[he]at aL;injection aL with aL;subst aL;exact jL vs hd
 refine b3 (wpAny_frameOf_fun ot aC aH fun ip yy=>?_)
 refine b3 (wpAny_entryPlaceOf fun pl fR=>?_)
 unfold EntryCells.newEntry newFields
 refine b3 (wpAny_newObj_type ?_ (fR.sizeOk5 _ _ _ _ _))
 have NM:ip.get? e=J e0:=(yy.2.1 e abW).trans he
 generalize N8:({cls :=.type "traceback",dict:=av,data :=.fields ([head,.ref L,.none,rawInt L,.none]++(if pl.isEmpty then List.replicate 6 ar.none else pl)).toArray}:bH)=kf
 have NN:=fO (h:=ip) kf NM
 refine uz NN hd g7 ?_
 have l9:ip.objs.size≠e:=Nat.ne_of_gt (eu NM)
 have tn:=bH.data_mapFields hd (·.setIfInBounds 1 (ar.ref ip.objs.size))
 have abU:=br.get?_update_self (bH.mapFields (·.setIfInBounds 1 (ar.ref ip.objs.size))) NN (bH.isFreed_of_fields tn)
 have GZ:((ip.push kf).update e (bH.mapFields (·.setIfInBounds 1 (ar.ref ip.objs.size)))).get? ip.objs.size=J kf :=
  (br.get?_update_other _ _ (d1 l9)).trans (hi ip (by rw[<-N8];rfl))
 have keep:∀b o,b≠e->ip.get? b=J o->((ip.push kf).update e (bH.mapFields (·.setIfInBounds 1 (ar.ref ip.objs.size)))).get? b=J o:=fun b o mI aj=>by
  rw[br.get?_update_other _ _ (d1 mI)];exact fO _ aj
 have tK:∀b o,s.heap.get? b=J o->(∀vs,o.data≠.fields vs)->b≠e:=fun b o aj jL q=>by
  rw[q,he]at aj;injection aj with aj;subst aj;exact jL vs hd
 refine h _ ip.objs.size ⟨_,_,kf,_,abU,bH.cls_mapFields _ _,(by rw[VM,Array.getElem?_setIfInBounds_ne (by decide)];exact md),tn,by simp[g7],l9,GZ,by rw[<-N8],?_,trivial⟩ ?_ (aC.of_keeps fun b o aj jL=>?_) ⟨fun b o mI _ tl aj=>keep b o mI ((yy.2.1 b tl).trans aj),fun b o mI _ aj=>?_⟩
 .first|(simp;done)|(rcases fR with rfl|⟨_,_,_,_,_,_,_,rfl⟩<;>simp)
 .exact br.get?_none_of_le (by rw[yy.1];exact cE _)
 ·obtain⟨dU,hs⟩:=yy.2.2 b o aj
  exact⟨_,keep b _ (tK b o aj jL) hs,I⟩
 ·obtain⟨dU,hs⟩:=yy.2.2 b o aj
  exact⟨dU,keep b _ mI hs⟩
theorem yH(aC:s.heap.FunFrames base outer)(bo:kM s.heap e cls d T er)
  (h:∀h',kM h' e cls d T .none->h'.FunFrames base outer->(∀b o,b≠T->s.heap.get? b=J o->h'.get? b=J o)->Q () {s with heap:=h'}):bP M A (setFlight (.ref e) av) Q E s:=by
 obtain⟨e0,vs,kf,iW,he,hc,kU,hd,al,l9,cc,ik,bq,md⟩:=bo
 have yx:3<iW.size:=(Array.getElem?_eq_some_iff.mp bq).1
 unfold setFlight
 refine b3 (jB he hd al ?_)
 rw[if_pos (show(ar.ref T != ar.none)=au from by simp)]
 have other:∀b,b≠T->(s.heap.update T (bH.mapFields (·.setIfInBounds 3 ((av:Option ag).elim ar.none fun f=>rawInt f)))).get? b=s.heap.get? b:=fun b aj=>br.get?_update_other _ _ (d1 aj)
 have tK:∀b o,s.heap.get? b=J o->(∀vs,o.data≠.fields vs)->b≠T:=fun b o aj jL q=>by
  rw[q,cc]at aj;injection aj with aj;subst aj;exact jL iW ik
 refine uz cc ik yx (h _ ⟨e0,vs,_,_,(other e (d1 l9)).trans he,hc,kU,hd,al,l9,br.get?_update_self _ cc (bH.isFreed_of_fields (bH.data_mapFields ik _)),bH.data_mapFields ik _,by simp[yx],md⟩
  (aC.of_keeps fun b o aj jL=>⟨o,(other b (tK b o aj jL)).trans aj,rfl⟩) fun b o aj q=>(other b aj).trans q)
theorem Il(ot:A.frames=J (env::outer))(aC:s.heap.FunFrames base (env::outer))(aH:env.frame=J L)(bo:kM s.heap e cls d T .none)
  (h:∀h' dT,kM h' e cls d dT (rawInt L)->s.heap.get? dT=av->h'.FunFrames base (env::outer)->vf ((env::outer).filterMap (·.frame)) e (J T) s.heap h'->Q () {s with heap:=h'}):bP M A (noteFrame (.ref e) env) Q E s:=by
 obtain⟨e0,vs,kf,iW,he,hc,kU,hd,al,l9,cc,ik,bq,md⟩:=bo
 unfold noteFrame
 simp only[aH]
 refine b3 (jB he hd al ?_)
 rw[if_pos (show(ar.ref T != ar.none)=au from by simp)]
 refine b3 (jB cc ik bq ?_)
 rw[if_neg (show ¬((ar.none == rawInt L)=au)from by simp[rawInt])]
 refine b3 (uz cc ik (Array.getElem?_eq_some_iff.mp bq).1 ?_)
 have other:∀b,b≠T->(s.heap.update T (bH.mapFields (·.setIfInBounds 3 ar.none))).get? b=s.heap.get? b:=fun b aj=>br.get?_update_other _ _ (d1 aj)
 have tK:∀b o,s.heap.get? b=J o->(∀vs,o.data≠.fields vs)->b≠T:=fun b o aj jL q=>by
  rw[q,cc]at aj;injection aj with aj;subst aj;exact jL iW ik
 have back:∀b,(s.heap.update T (bH.mapFields (·.setIfInBounds 3 ar.none))).get? b=av->s.heap.get? b=av:=fun b aj=>by
  by_cases z:b=T
  ·subst z
   rw[br.get?_update_self _ cc (bH.isFreed_of_fields (bH.data_mapFields ik _))]at aj;cases aj
  .rw[other b z]at aj;exact aj
 subst hc
 refine Gp (s:={s with heap:=s.heap.update T (bH.mapFields (·.setIfInBounds 3 ar.none))}) ot (aC.of_keeps fun b o aj jL=>⟨o,(other b (tK b o aj jL)).trans aj,I⟩) aH ((other e (d1 l9)).trans he) hd (Array.getElem?_eq_some_iff.mp al).1 kU fun h' dT gX dR lS kl=>?_
 exact h h' dT gX (back _ dR) lS ⟨fun b o al aw bq b4=>kl.keep b o al (by simp) bq ((other b (fun z=>aw (by rw[z]))).trans b4),fun b o al aw b4=>kl.slot b o al (by simp) ((other b (fun z=>aw (by rw[z]))).trans b4)⟩
theorem Xf(ot:A.frames=J (env::outer))(aC:s.heap.FunFrames base (env::outer))(aH:env.frame=J L)(bo:kM s.heap e cls d T .none)
  (h:∀h' dT,kM h' e cls d dT .none->s.heap.get? dT=av->vf ((env::outer).filterMap (·.frame)) e (J T) s.heap h'->Q () {s with heap:=h'}):bP M A (leaving env (.ref e)) Q E s:=by
 unfold leaving
 refine b3 (Il ot aC aH bo fun al dT gX dR lS kl=>?_)
 refine yH lS gX fun aw kH _ nS=>h aw dT kH dR ⟨fun b o al aw bq b4=>nS b o (fun z=>by rw[z,dR]at b4;cases b4) (kl.keep b o al aw bq b4),fun b o al aw b4=>?_⟩
 obtain⟨dU,e⟩:=kl.slot b o al aw b4
 exact⟨dU,nS b _ (fun z=>by rw[z,dR]at b4;cases b4) e⟩
theorem WJ(ot:A.frames=J (env::outer))(aC:s.heap.FunFrames base (env::outer))(aH:env.frame=J L)(he:s.heap.get? e=J e0)(hd:e0.data=.fields vs)(al:vs[1]?=J .none)(md:w5 e e0.dict vs[2]? d)
  (h:∀h' dT,kM h' e e0.cls d dT .none->s.heap.get? dT=av->vf ((env::outer).filterMap (·.frame)) e av s.heap h'->Q () {s with heap:=h'}):bP M A (leaving env (.ref e)) Q E s:=by
 unfold leaving noteFrame
 simp only[aH]
 refine b3 (b3 (jB he hd al ?_))
 rw[if_neg (by decide)]
 refine Gp ot aC aH he hd (Array.getElem?_eq_some_iff.mp al).1 md fun al dT gX dR lS kl=>?_
 refine yH lS gX fun aw kH _ nS=>h aw dT kH dR ⟨fun b o al aw bq b4=>nS b o (fun z=>by rw[z,dR]at b4;cases b4) (kl.keep b o al aw bq b4),fun b o al aw b4=>?_⟩
 obtain⟨dU,e⟩:=kl.slot b o al aw b4
 exact⟨dU,nS b _ (fun z=>by rw[z,dR]at b4;cases b4) e⟩
end
noncomputable def hJ(P:c6)(w:cM):lb:=fun outer H s E e aX=>∃a C d H' T,e=.ref a/\aX.os=s.os/\AllBare aX.gens/\fW (iO outer) [] H H' s.heap aX.heap/\fG P w H' aX.heap/\
 kM aX.heap a (.ref C) d T .none/\H' a=av/\H' T=av/\s.heap.get? a=av/\s.heap.get? T=av/\E (.ref C) d H'
theorem fG.there(ok:fG P w H h)(e:H a=J o):∃u,h.get? a=J u:=by
 have x:=ok a o e
 cases o with
 |lst xs=>obtain⟨_,_,_,_,e⟩:=x;exact⟨_,e⟩
 |tup xs=>obtain⟨_,_,_,p⟩:=x;obtain⟨o,e,_⟩:=p;exact⟨_,e⟩
 |mD fY=>obtain⟨_,_,_,_,o,_,_,e,_⟩:=x;exact⟨_,e⟩
 |o9 fY=>exact(show False from x).elim
 |set S n=>obtain⟨o,_,_,_,e,_⟩:=x;exact⟨_,e⟩
 |ins C ai fs=>obtain⟨_,_,_,e,_⟩:=x;exact⟨_,e⟩
 |own y=>exact x
 |kG fs=>obtain⟨_,⟨_,_,_,e,_⟩,_⟩:=x;exact⟨_,e⟩
 |y0 lo aJ=>obtain⟨_,_,_,e⟩:=x;exact⟨_,e⟩
 |iP dX u=>obtain⟨e,_⟩:=x;exact⟨_,e⟩
 |qI aI=>exact⟨_,x⟩
 |met f y=>exact⟨_,x⟩
 |ext uw=>exact x.2.1
theorem fG.none(ok:fG P w H h)(e:h.get? a=av):H a=av:=by
 cases q:H a with
 |none=>rfl
 |some o=>obtain⟨u,z⟩:=ok.there q;rw[e]at z;cases z
section
variable {P:c6} {w:cM} {K:bK} {mg:ah->Option ar} {base:br} {N:List ah} {d0:ah} {c7:Scope} {f:ag} {bl:ar} {A:dq} {outer:List Env} {s:aM} {H:aq} {E:bT}
theorem Mv{X:bA}{s1:aM}{T:Option ag}(aa:Inv X ak ae H1 s1)(ay:X.ex=[])(hs:X.stack=X.env::X.outer)(S:vf (iO X.stack) a T s1.heap h')
  (jh:X.dV.heap.get? a=av) (hn:∀t,T=J t->X.dV.heap.get? t=av) (fa:H1 a=av) (j6:∀t,T=J t->H1 t=av):fW (iO X.outer) [] X.i0 H1 X.dV.heap h'/\fG X.prog X.w H1 h':=by
 have B:=aa.base
 rw[ay]at B
 have Ih:∀b o,X.dV.heap.get? b=J o->b≠a:=fun b o e z=>by rw[z,jh]at e;cases e
 have neT:∀b o,X.dV.heap.get? b=J o->J b≠T:=fun b o e z=>by have:=hn b z.symm;rw[e]at this;cases this
 have rC:∀b o,X.dV.heap.get? b=J o->b≠X.env.locals:=fun b o e=>fU (e3 (eu e) aa.ok.above)
 refine⟨⟨fun b o e n aj ay=>?_,fun b o e n aj ay=>?_,B.free,fun b o e ay=>?_,B.mm,B.lH,B.ml⟩,fun b u e=>(aa.aT b u e).oN (fun c v hc q=>?_) (fun _ q=>q) fun _ _ q=>q⟩
 ·refine S.keep b o (Ih b o e) (neT b o e) (fun z=>?_) (B.keep b o e n aj ay)
  exact(cR.mp (aa.rP b z)).elim (rC b o e) aj
 ·obtain⟨dU,aU⟩:=B.slot b o e n aj ay
  obtain⟨lQ,ba⟩:=S.slot b _ (Ih b o e) (neT b o e) aU
  exact⟨lQ,ba⟩
 ·obtain⟨o',aU⟩:=B.there b o e ay
  obtain⟨lQ,ba⟩:=S.slot b _ (Ih b o e) (neT b o e) aU
  exact⟨_,ba⟩
 ·have nA:∃z,H1 c=J z:=by
   rcases hc with rfl|hc
   .exact⟨_,e⟩
   .exact⟨_,hc⟩
  obtain⟨z,bL⟩:=nA
  refine S.keep c v (fun y=>?_) (fun y=>?_) (fun y=>?_) q
  .rw[y,fa]at bL;cases bL
  .rw[j6 c y.symm]at bL;cases bL
  .rw[aa.zj c y]at bL;cases bL
end
section
variable {P:c6} {w:cM} {K:bK} {mg:ah->Option ar} {base:br} {N:List ah} {d0:ah} {c7:Scope} {f:ag} {bl:ar} {A:dq} {outer:List Env} {s:aM} {H:aq} {E:bT}
def J2(X:bA)(E:bT):Prop:=∀(ak:List (ag×bH))(ae:St)(H1:aq)(s1:aM)(a C:ag)(e0:bH)(vs:Array ar)(d:Option ag),Inv X ak ae H1 s1->s1.heap.get? a=J e0->e0.cls=.ref C->e0.data=.fields vs->vs[1]?=J .none->w5 a e0.dict vs[2]? d->
 H1 a=av->X.dV.heap.get? a=av->E (.ref C) d H1->X.xe (.ref a) s1
theorem K6:J2 (lE (hJ P w) P w K mg base N d0 c7 f bl A outer s H E) E:=by
 intro ak ae H1 s1 a C e0 vs d aa he hc hd al md fa jh q
 refine WJ (base:=base) aa.ok.frames aa.stack I he hd al md fun h' dT gX dR lS=>?_
 have j6:=aa.aT.none dR
 obtain⟨u,hk⟩:=Mv (T:=av) aa rfl rfl lS jh (fun t z=>by cases z) fa (fun t z=>by cases z)
 refine⟨a,C,d,H1,dT,I,aa.os,aa.bare,u,hk,hc ▸ gX,fa,j6,jh,?_,q⟩
 cases z:s.heap.get? dT with
 |none=>rfl
 |some o =>
  obtain⟨o',e⟩:=aa.base.there dT o z (show dT∉([]:List ag) by simp)
  rw[dR]at e;cases e
theorem Iv:Passes (hJ P w) (lE (hJ P w) P w K mg base N d0 c7 f bl A outer s H E) E:=by
 intro ak ae H1 s1 e s2 aa h
 obtain⟨a,C,d,ax,T,rfl,os,bare,un,aT,lG,fa,j6,jh,hn,q⟩:=h
 have bE:Inv (lE (hJ P w) P w K mg base N d0 c7 f bl A outer s H E) ak ae ax s2:=aa.xO (ch:=[]) os un aT bare (fun b z=>absurd z (by simp))
 have old:∀b,s1.heap.get? b=av->s.heap.get? b=av:=fun b aj=>by
  cases z:s.heap.get? b with
  |none=>rfl
  |some o =>
   obtain⟨o',e⟩:=aa.base.there b o z (show b∉([]:List ag) by simp)
   rw[aj]at e;cases e
 refine Xf (base:=base) bE.ok.frames bE.stack I lG fun h' dT gX dR lS=>?_
 obtain⟨u,hk⟩:=Mv (T:=J T) bE rfl rfl lS (old a jh) (fun t z=>by cases z;exact old T hn) fa (fun t z=>by cases z;exact j6)
 refine⟨a,C,d,ax,dT,I,bE.os,bE.bare,u,hk,gX,fa,bE.aT.none dR,old a jh,?_,q⟩
 cases z:s.heap.get? dT with
 |none=>rfl
 |some o =>
  obtain⟨o',e⟩:=bE.base.there dT o z (show dT∉([]:List ag) by simp)
  rw[dR]at e;cases e
end
end cN
end
variable {T:ag} {dg:Tok} {np rQ:Pos} {pn:List (ag×bH)} {Eh:cN.St->cN.bT}
section
namespace cN
open PySem PySem.W PySem.Spec PyProof.Rows
structure ExcC(K:Frag)(C:ag):Prop where
 ga:findIn K (.ref C) "__getattribute__"=J (J (.builtin "BaseException.__getattribute__"))
 gt:findIn K (.ref C) "__getattr__"=J av
 cl:findIn K (.ref C) "__class__"=J (J (.builtin "object.__class__"))
 dX:mroIn K C (.type "object")=J au
 be:mroIn K C (.type "BaseException")=J au
 is:isClsIn K C=au
 aZ:specialIn K (.builtin "object.__class__") "__get__"=J (J (.builtin "getset_descriptor.__get__"))
 dg:takesIn K (.builtin "object.__class__")=J au
section
variable {K:Frag} {prog:c6} {w:cM} {A:dq} {E:ar->aM->Prop} {h:br} {g:Array GenState} {d:Drawn} {t:Nat} {os:OsState} {x C:ag} {ox:bH} {pz:Option bH} {name:ah}
theorem Zi{R:Result->aM->Prop}(X:K.In h)(aa:InstAt h x ox C pz)(c:ExcC K C)
  (aY:bP (model prog w) A.in1 (cO.«object.__getattribute__» ⟨[.ref x,.str name dg],[]⟩) (fun cY aX=>match cY with|.done (.ret v)=>R (.ok (.ret v)) aX|_=>False) (fun _ _=>False) ⟨h,g,d,t,os⟩) :
  mr (model prog w) A (.call (.builtin "BaseException.__getattribute__") ⟨[.ref x,.str name dg],[]⟩) R ⟨h,g,d,t,os⟩:=by
 have w9:=aa.type (M:=model prog w)
 have sr:=looks_mroIn (M:=model prog w) X c.be
 refine Jy F.attr_ValueError.ga.plain F.entry_bexc_ga (check_slot (i:="BaseException.__getattribute__") (owner:="BaseException") (n:="__getattribute__") (by decide+kernel) (by decide+kernel) (w9.andThen sr) (F.args_bexc_ga _ _) ?_)
 refine kJ aY (fun cY aX z=>?_) fun _ _ z=>False.elim z
 rcases cY with(_|_|_|_)|_<;>first|exact z|exact z.elim
theorem Ug{fill:Bool}(X:K.In h)(aa:InstAt h x ox C pz)(c:ExcC K C)
  (aY:∀A:dq,bP (model prog w) A (cO.«object.__getattribute__» ⟨[.ref x,.str name dg],[]⟩) (fun cY aX=>match cY with|.done (.ret v)=>Q v aX/\handedIn v=au|_=>False) (fun _ _=>False) ⟨h,g,d,t,os⟩) :
  bP (model prog w) A (getAttrBy (.ref x) (.str name dg) fill expr) Q E ⟨h,g,d,t,os⟩:=by
 have w9:=aa.type (M:=model prog w)
 have sr:=looks_findIn (M:=model prog w) X c.ga
 have cN:=looks_findIn (M:=model prog w) X c.gt
 have hP:=F.attr_ValueError.ga.bind (.ref x)
 have yA:(expr&&onTheHeap (ar.builtin "BaseException.__getattribute__"))=aA:=by cases expr<;>rfl
 have qx:(ar.builtin "BaseException.__getattribute__" == ar.builtin "object.__getattribute__")=aA:=by decide+kernel
 have lL:(onTheHeap (ar.ref C)&&ar.builtin "BaseException.__getattribute__" == ar.builtin "object.__getattribute__")=aA:=by rw[qx];rfl
 unfold getAttrBy
 refine wpAny_holding (b3 (w9.at (b3 (sr.at ?_))))
 dsimp only
 rw[if_neg (by rw[lL];decide)]
 have rest:∀A:dq,mr (model prog w) A (.call (.builtin "BaseException.__getattribute__") ⟨[.ref x,.str name dg],[]⟩) (fun r aX=>match r with|.ok (.ret v)=>Q v aX/\handedIn v=au|_=>False) ⟨h,g,d,t,os⟩:=fun A=>Zi X aa c (kJ (aY A.in1) (fun cY aX z=>by rcases cY with(_|_|_|_)|_<;>first|exact z|exact z.elim) fun _ _ z=>z.elim)
 repeat (any_goals (first|assumption|with_reducible refine cN.at ?_|wp_step))
 refine m3 (rest A) fun r aX z=>?_
 cases r with
 |error e=>exact z.elim
 |ok er=>cases er with
  |ret v=>exact handed_on z.2 z.1
  |next=>exact z.elim
  |brk=>exact z.elim
  |cont=>exact z.elim
theorem Vr{Q:Fin->aM->Prop}(X:K.In h)(aa:InstAt h x ox C pz)(c:ExcC K C)(aY:Q (.done (.ret (.ref C))) ⟨h,g,d,t,os⟩):
  bP (model prog w) A (cO.«object.__getattribute__» ⟨[.ref x,.str "__class__" dg],[]⟩) Q E ⟨h,g,d,t,os⟩:=by
 have w9:=aa.type (M:=model prog w)
 obtain⟨eF,hc⟩:=Option.isSome_iff_exists.mp (show(clsIn K C).isSome=au from c.is)
 have aH:findObj K C pz "__class__"=J (.bind (.builtin "getset_descriptor.__get__") (.builtin "object.__class__")):=by
  unfold findObj
  rw[hc,Option.bind_some,c.cl,Option.bind_some]
  simp[c.aZ,c.dg]
 have sr:=looks_find (M:=model prog w) X aa aH
 repeat (any_goals (first|assumption|with_reducible refine w9.at ?_|with_reducible refine sr.at ?_|wp_step))
 refine class_get (s:=⟨h,g,d,t,os⟩) (ox:=ox) (od:=pz) X aa c.dX ?_
 repeat (any_goals (first|assumption|wp_step))
theorem Yx{Q:Option ar->aM->Prop}(X:K.In s.heap)(aa:InstAt s.heap x ox C pz)(c:ExcC K C)(aY:Q (J (.ref C)) {s with toks:=s.toks+1}):bP (model prog w) A (getAttr? (.ref x) "__class__") Q E s:=by
 obtain⟨h,g,d,t,os⟩:=s
 unfold getAttr? getAttrBy?
 refine b3 (wpAny_mkText (b3 (wpAny_attempt ?_)))
 exact Ug X aa c fun A=>Vr X aa c ⟨ey aY,I⟩
theorem LR(c:ExcC K C):KitX K (.ref x) (.ref C) (fun h=>∃ox pz,InstAt h x ox C pz) where
 ty:=fun _ _ _ ⟨_,_,aa⟩=>aa.type
 it:=fun _ _ X _=>by
  obtain⟨MY,mJ⟩:=Option.isSome_iff_exists.mp (show(clsIn K C).isSome=au from c.is)
  unfold clsIn at mJ
  split at mJ
  ·rename_i jt d' MX lQ aL
   intro uA jX qQ aX k q
   unfold isType loadHead
   exact b3 (wpAny_loadPart (k _ _ (X _ _ aL)) (ey q))
  .cases mJ
 ne:=fun h aip dd bj n dU X acX=>by
  obtain⟨MY,mJ⟩:=Option.isSome_iff_exists.mp (show(clsIn K C).isSome=au from c.is)
  refine Bool.eq_false_iff.mpr fun q=>?_
  have e:C=aip:=ar.ref.inj (beq_iff_eq.mp q)
  subst e
  unfold clsIn at mJ
  split at mJ
  ·rename_i jt d' MX lQ aL
   have z:=(X _ _ aL).symm.trans acX
   cases z
  .cases mJ
 ca:=fun X ⟨_,_,aa⟩ k=>Yx X aa c k
end
section
variable {P:c6} {w:cM} {K:bK} {mg:ah->Option ar} {base:br}
def BQ(H:aq)(E:bT):bT:=fun c d H'=>hX H H' (E c d)
theorem cv.adv{sp:b0}(F:cv P w K mg base (hJ P w) k f fd aI sp)
  (h:∀vs H Q E,rO vs H Q E->sp vs H (fun v H'=>hX H H' (Q v)) (BQ H E)):cv P w K mg base (hJ P w) k f fd aI rO:=by
 refine⟨fun vs H Q E q=>F.len vs H _ _ (h vs H Q E q),fun A outer s H args us vs Q E az eY aj r q=>m3 (F.run A outer s H args us vs _ _ az eY aj r (h vs H Q E q)) fun rs aX c=>?_⟩
 cases rs with
 | error e =>
  obtain⟨a,C,d,H',T,rfl,os,bare,un,aT,lG,fa,j6,jh,hn,iZ,dd,hF⟩:=c
  have nn:∀b,H' b=av->iZ b=av:=fun b aj=>by
   cases z:iZ b with
   |none=>rfl
   |some o=>have:=dd.le b o z;rw[aj]at this;cases this
  exact⟨a,C,d,iZ,T,I,os,bare,fW.sub (fW.refl (h:=s.heap)) un dd,aT.sub (dd.cl eY.aT.closed) dd.le,lG,nn a fa,nn T j6,jh,hn,hF⟩
 | ok er =>
  cases er with
  |ret u =>
   obtain⟨v,H',os,bare,un,aT,dN,iZ,d,hF⟩:=c
   exact⟨v,iZ,os,bare,fW.sub (fW.refl (h:=s.heap)) un d,aT.sub (d.cl eY.aT.closed) d.le,dN,hF⟩
  |next=>exact c
  |brk=>exact c
  |cont=>exact c
theorem c1.aeV{x:ah}{st:bz}{sp:b0}(F:c1 K x d0 st f fd)(S:bW N aI (bI st))(len:∀vs H Q E,sp vs H Q E->vs.length=aI.length)
  (lI:∀(bl:ar)(A:dq)(outer:List Env)(s:aM)(H:aq)(vs:List V)(Q:bG)(E:bT),fH k (A.deeper (envOfC d0 (bI st) s.heap.objs.size f bl))->sp vs H Q E->
   ∃t,h7 (lE (hJ P w) P w K mg base N d0 (bI st) f bl A outer s H (BQ H E)) (kA st) t/\t {nx:=fun _ H'=>hX H H' (Q .bc),rt:=fun v H'=>hX H H' (Q v)} (start N vs) H):cv P w K mg base (hJ P w) (k+1) f fd aI sp:=by
 refine cv.adv (sp:=fun vs H Q E=>∃jX qQ,Q=(fun v H'=>hX H H' (jX v))/\E=BQ H qQ/\sp vs H jX qQ) ?_ fun vs H Q E h=>⟨Q,E,I,I,h⟩
 obtain⟨iB,od,gK,doc,pm,an,bl,ct,mV,rfl,rz,mK⟩:=F.ex
 refine Kb rz mK S (fun vs H Q E ⟨jX,qQ,_,_,h⟩=>len vs H jX qQ h) fun A outer s H vs Q E az bM=>?_
 obtain⟨jX,qQ,aU,ba,pj⟩:=bM
 subst aU ba
 exact lI bl A outer s H vs jX qQ az pj
end
def va(CX:lb)(X:bA)(E:St->bT):Prop:=∀(ak:List (ag×bH))(ae:St)(H:aq)(s:aM)(e:ar)(aX:aM),Inv X ak ae H s->CX X.stack H s (E ae) e aX->X.xe e aX
variable {X:bA}
theorem Passes.x{E:bT}(h:Passes CX X E):va CX X fun _=>E:=h
abbrev qd:List ar:=[.type "ValueError",.type "Exception",.type "BaseException",.type "object"]
structure ClsAt(K:Frag)(h:br)(C:ag):Prop where
 ex:∃(bm:List ar)(N:ag)(nm q:ah)(bs:List ar)(hdct:Bool)(sn:List ah)(sub:List ar)(ab:Bool)(col:Option Bool)(dd:Option ag)(k0 k1 k2 k3 k5:Option ar)(mN:ah->Option ar),
  h.get? C=J (excClassObj nm q C N bs bm hdct sn sub ab col dd k0 k1 k2 k3 k5 "ValueError.__new__")/\h.Ns N mN/\mN "__init__"=av/\OwnTail h qd bm
variable {K:Frag}
theorem clsAt(X:K.In h)(q:excIn K C qd "ValueError.__new__"=au):ClsAt K h C:=by
 unfold excIn at q
 split at q
 ·rename_i dd eF dU aL
  split at q
  ·rename_i rZ bm k0 k1 k2 k3 n k5 hm hs
   simp only[jD,beq_iff_eq,Bool.not_eq_true']at q
   obtain⟨⟨⟨⟨⟨rfl,rfl⟩,NK⟩,bo⟩,aT⟩,ys⟩:=q
   obtain⟨nm,bs,mro,ns,yY,hd,sn,sub,ab,col,del⟩:=eF
   dsimp only at hm NK aT ys
   subst hm NK
   have rp:dU=#[k0,k1,k2,k3,J (.builtin "ValueError.__new__"),k5]:=by
    obtain⟨l⟩:=dU
    simp only at hs
    rw[hs]
   subst rp
   exact⟨bm,ns,nm,yY,bs,hd,sn,sub,ab,col,dd,k0,k1,k2,k3,k5,_,X _ _ aL,.of_isNs (isNs_of_in X aT),nsMap_none_of_in X aT ys,tail_of_in X bo⟩
  .cases q
 .cases q
def ahO(C:ag)(E:bT)(t:gx):eW:=fun _ ae H=>t ae H fun vs H1=>vs.length<=bU/\E (.ref C) av H1
theorem LM{x:ah}{l3:Pos}{t:gx}{E:bT}(T:J2 X E)(hb:excIn X.K C qd "ValueError.__new__"=au)(hm:X.mg x=J (.ref C))(fb:X.A.handled=av)(bh:hr X (e::aK) t)
  (hex:X.ex=[]:=by rfl) (bb:h6 X x:=by rfl) (jK:(x == ("__debug__":ah))=aA:=by decide+kernel)
  (he:dr (e::aK) X.env=(aA,eval e X.env)::dr aK X.env:=by rfl) (fR:(backTo l3 (dr aK X.env)).any (·.1)=aA:=by rfl) :
  kq X (.Raise (J (.Call (.Name x np) (e::aK) [] l3)) av aV) (ahO C E t):=by
 intro ak s ae H D aa h
 obtain⟨bm,N,nm,q,bs,hdct,sn,sub,ab,col,dd,k0,k1,k2,k3,k5,mN,al,aw,bq,b4⟩:=(clsAt aa.ok.mod.pk hb).ex
 refine wpAny_Raise_call_subU (nm:=nm) (q:=q) (N:=N) (bs:=bs) (hdct:=hdct) (sn:=sn) (sub:=sub) (ab:=ab) (col:=col) (dd:=dd) (k0:=k0) (k1:=k1) (k2:=k2) (k3:=k3) (k5:=k5) F.excBase_ValueError (bmB:=qd) (by decide+kernel) F.excBase_ValueError (mN:=mN) (b4.hasType (by decide+kernel)) fb ?_ bq (sP aa bb hm ⟨I,?_⟩ jK)
 .rw[he];show(aA||(backTo l3 (dr aK X.env)).any (·.1))=aA;rw[fR];rfl
 have aO:=bh l3 ak s ae H _ aa h
 rw[he]at aO ⊢
 refine Calls.evalArgs_plain (cU aO fun us s1 bM=>?_)
 obtain⟨vs,H1,bf,r,aC,cg⟩:=bM
 refine ⟨I,by show us.length<=_;rw[<-r.length];exact aC,bf.bk _ _ al,aw.keeps bf.bk,b4.keeps bf.bk,fun h' a hm=>?_⟩
 obtain⟨tt,bo,_,_⟩:=hm.there
 refine T ak ae H1 _ a C _ _ av (bf.kept (h':=h') (t':=s1.toks) hm.keeps) bo I I I (.inl ⟨I,.inl I⟩) (bf.aT.none hm.new) ?_ cg
 cases z:X.dV.heap.get? a with
 |none=>rfl
 |some o =>
  obtain⟨o',e⟩:=bf.base.there a o z (by rw[hex];simp)
  rw[hm.new]at e;cases e
noncomputable def si(a C:ag)(d:Option ag):cZ :=.ext fun h=>∃o vs,h.get? a=J o/\o.cls=.ref C/\w5 a o.dict vs[2]? d/\o.data=.fields vs/\True
theorem Tz{d:Option ag}{er:ar}(f:kM h a (.ref C) d T er):hV P w H h a (si a C d):=by
 obtain⟨e0,vs,kf,iW,he,hc,kU,hd,_,_,_,_,_,md⟩:=f
 exact⟨⟨e0,vs,he,hc,kU,hd,md⟩,⟨e0,he⟩,fun al aw ⟨o,vs,aU,ba,eM,f7,BP⟩ k=>⟨o,vs,k o aU,ba,eM,f7,BP⟩⟩
theorem Xi{D:ag}{o:bH}{b:Bool}{Q:Bool->aM->Prop}(X:K.In s.heap)(he:s.heap.get? a=J o)(hc:o.cls=.ref C)(xN:ExcC K D)(qJ:typeIn K (.ref D)=J (.type "type"))
  (hm:mroIn K C (.ref D)=J b) (aY:Q b s):bP M A (excMatches (.ref a) (.ref D)) Q E s:=by
 obtain⟨h,g,d,t,os⟩:=s
 have sr:=looks_typeIn (M:=M) X qJ
 have cN:=looks_mroIn (M:=M) X xN.be
 have Si:=looks_mroIn (M:=M) X hm
 have ajp:=(LR (x:=a) xN).it M h X
 have Sj:Looks M h (isType (.ref D)) au:=by
  obtain⟨MY,mJ⟩:=Option.isSome_iff_exists.mp (show(clsIn K D).isSome=au from xN.is)
  unfold clsIn at mJ
  split at mJ
  ·rename_i jt d' MX lQ aL
   intro uA jX qQ aX k q
   unfold isType loadHead
   exact b3 (wpAny_loadPart (k _ _ (X _ _ aL)) (ey q))
  .cases mJ
 have f:=tc_notTuple
 unfold excMatches isExcClass isInstance
 repeat (first|(with_reducible refine ajf he ?_;rw[hc])|with_reducible refine sr.at ?_|with_reducible refine Sj.at ?_|with_reducible refine cN.at ?_|with_reducible refine Si.at ?_|wp_step)
 cases b
 .repeat (first|exact aY|wp_step)
 .repeat (first|exact aY|wp_step)
section
variable {X:bA} {ak:List (ag×bH)} {ae:St} {H1 ax:aq} {s1 s2:aM} {h':br} {a C T dT:ag} {d:Option ag}
theorem Inv.MW(bf:Inv X ak ae H1 s1)(bE:Inv X ak ae ax s2)(hex:X.ex=[])(jh:s1.heap.get? a=av)(hn:s1.heap.get? T=av)(fa:ax a=av)(j6:ax T=av)
  (keep:∀b o,b≠a->b≠T->b∉iO X.stack->s2.heap.get? b=J o->h'.get? b=J o)
  (slot:∀b o,b≠a->b≠T->s2.heap.get? b=J o->∃dU,h'.get? b=J {o with slots:=dU}) (lG:kM h' a (.ref C) d dT .none):Inv X ak ae (upd ax a (si a C d)) {s2 with heap:=h',toks:=t'}:=by
 have ne:∀b o,s1.heap.get? b=J o->b≠a/\b≠T:=fun b o e=>⟨fun z=>(by rw[z,jh]at e;cases e),fun z=>(by rw[z,hn]at e;cases e)⟩
 have tJ:∀b o,X.dV.heap.get? b=J o->b≠a/\b≠T:=fun b o e=>by
  obtain⟨o',e'⟩:=bf.base.there b o e (by rw[hex];simp)
  exact ne b o' e'
 have rC:∀b o,X.dV.heap.get? b=J o->b≠X.env.locals:=fun b o e=>fU (e3 (eu e) bE.ok.above)
 have mS:X.env.locals≠a/\X.env.locals≠T:=by
  obtain⟨m,⟨o,_,_,aL,_⟩,_⟩:=bf.loc
  exact ne _ o aL
 have yM:∀x c,X.env.cells.lookup x=J c->c≠a/\c≠T:=fun x c e=>by
  obtain⟨v,o,aL,_⟩:=bf.cell x c e
  exact ne c o aL
 have cellK:∀x c,X.env.cells.lookup x=J c->∀v,s2.heap.IsCell c v->h'.IsCell c v:=fun x c e v ⟨o,aL,hd⟩=>by
  obtain⟨dU,q⟩:=slot c o (yM x c e).1 (yM x c e).2 aL
  exact⟨_,q,hd⟩
 refine⟨bE.ok,bE.os,bE.bare,⟨fun b o e n aj ay=>?_,fun b o e n aj ay=>?_,fun b o e n ay=>?_,fun b o e ay=>?_,fun b xs e=>?_,fun b o u e=>?_,fun b aI e=>?_⟩,?_,fun x c e=>?_,?_,fun x c e=>?_,fun p aO=>?_,fun b u e=>?_,bE.len⟩
 ·refine keep b o (tJ b o e).1 (tJ b o e).2 (fun z=>?_) (bE.base.keep b o e n aj ay)
  exact(cR.mp (bE.rP b z)).elim (rC b o e) aj
 ·obtain⟨dU,aU⟩:=bE.base.slot b o e n aj ay
  obtain⟨lQ,ba⟩:=slot b _ (tJ b o e).1 (tJ b o e).2 aU
  exact⟨lQ,ba⟩
 .rw[bt (tJ b o e).1];exact bE.base.free b o e n ay
 ·obtain⟨o',aU⟩:=bE.base.there b o e ay
  obtain⟨lQ,ba⟩:=slot b _ (tJ b o e).1 (tJ b o e).2 aU
  exact⟨_,ba⟩
 ·have:=bE.base.mm b xs e
  rw[bt (eB this fa)];exact this
 ·have:=bE.base.lH b o u e
  rw[bt (eB this fa)];exact this
 ·obtain⟨more,this⟩:=bE.base.ml b aI e
  exact⟨more,by rw[bt (eB this fa)];exact this⟩
 ·obtain⟨m,⟨o,aK,fK,aL,r⟩,aC⟩:=bE.loc
  obtain⟨dU,q⟩:=slot _ o mS.1 mS.2 aL
  refine⟨m,⟨_,aK,fK,q,r⟩,fun i x v aU ba eM=>?_⟩
  obtain⟨u,r,l⟩:=aC i x v aU ba eM
  refine⟨u,r,?_⟩
  rcases l with l|⟨k,c,e,z⟩
  .exact .inl l
  .exact .inr ⟨k,c,e,cellK x c e _ z⟩
 ·obtain⟨v,z⟩:=bE.cell x c e
  exact⟨v,cellK x c e v z⟩
 .rw[bt mS.1];exact bE.free
 .rw[bt (yM x c e).1];exact bE.kT x c e
 ·obtain⟨e,n,ne',mT,dd⟩:=bE.pin p aO
  obtain⟨aU,_⟩:=bf.pin p aO
  refine⟨keep p.1 p.2 (ne _ _ aU).1 (ne _ _ aU).2 (fun z=>(cR.mp (bE.rP _ z)).elim ne' mT) e,?_,ne',mT,dd⟩
  rw[bt (ne _ _ aU).1];exact n
 ·by_cases aj:b=a
  ·subst aj
   rw[aG]at e;cases e
   exact Tz lG
  ·rw[bt aj]at e
   refine(bE.aT b u e).oN (fun c v hc q=>?_) (fun c r=>by rw[bt (eB r fa)];exact r) fun c xs r=>by rw[bt (eB r fa)];exact r
   have nA:∃z,ax c=J z:=by
    rcases hc with rfl|hc
    .exact⟨_,e⟩
    .exact⟨_,hc⟩
   obtain⟨z,bL⟩:=nA
   refine keep c v (eB bL fa) (eB bL j6) (fun y=>?_) q
   rw[bE.zj c y]at bL;cases bL
end
def air(X:bA)(pn:List (ag×bH))(Eh:St->bT)(e:ar)(aX:aM):Prop:=∃a C d T bR H1 H' s1,e=.ref a/\Inv {X with pn:=pn} [] bR H1 s1/\Inv {X with pn:=pn} [] bR H' aX/\kM aX.heap a (.ref C) d T .none/\
 H' a=av/\H' T=av/\s1.heap.get? a=av/\s1.heap.get? T=av/\Eh bR (.ref C) d H'
noncomputable def bA.Q3(X:bA)(pn:List (ag×bH))(Eh:St->bT):bA:={X with pn:=pn,xe:=air X pn Eh}
noncomputable def bA.vV(X:bA)(pn:List (ag×bH))(e:ag):bA:={X with pn:=pn,A:=X.A.mark (J (.ref e)),calm:=aA,xe:=fun _ _=>False}
theorem A0:va (hJ X.prog X.w) (X.Q3 pn Eh) Eh:=by
 intro ak ae H1 s1 e s2 aa h
 obtain⟨a,C,d,ax,T,rfl,os,bare,un,aT,lG,fa,j6,jh,hn,q⟩:=h
 have bf:Inv {X with pn:=pn} [] ae H1 s1:=Inv.m1 (X:={X with pn:=pn}) (Inv.Iw (pins':=[]) aa (by simp))
 exact⟨a,C,d,T,ae,H1,ax,s1,I,bf,bf.xO (ch:=[]) os un aT bare (fun b z=>absurd z (by simp)),lG,fa,j6,jh,hn,q⟩
def ahR(K:Frag)(D:ag)(i:Nat)(Eh:St->bT)(dp pG:eW):eW:=fun qP ae H=>dp qP ae H/\∀bR C d H' a,Eh bR (.ref C) d H'->H' a=av->mroIn K C (.ref D)=J au/\
 pG {nx:=fun ae H=>qP.nx (ae.set i av) H,rt:=qP.rt,bk:=fun ae H=>qP.bk (ae.set i av) H,ct:=fun ae H=>qP.ct (ae.set i av) H} (bR.set i (J (.ref a))) (upd H' a (si a C d))
theorem bA.Ok.ae4(ok:X.Ok)(pn:List (ag×bH)):bA.Ok {X with pn:=pn} :=
 ⟨ok.mod,ok.kind,ok.glob,ok.blt,ok.above,ok.inj,ok.has,ok.sZ,ok.hd,ok.frames,ok.wH,ok.BY,ok.bs,ok.oe,ok.tL,ok.vH,ok.l6,ok.qh⟩
theorem bA.Ok.hand(ok:bA.Ok {X with pn:=pn})(e:ag):bA.Ok (X.vV pn e) :=
 ⟨ok.mod,ok.kind,ok.glob,ok.blt,ok.above,ok.inj,ok.has,ok.sZ,fun z=>Bool.noConfusion z,ok.frames,ok.wH,ok.BY,ok.bs,ok.oe,ok.tL,ok.vH,ok.l6,ok.qh⟩
theorem Inv.hand(aa:Inv {X with pn:=pn} [] ae H s)(e:ag):Inv (X.vV pn e) [] ae H s :=
 ⟨aa.ok.hand e,aa.os,aa.bare,aa.base,aa.loc,aa.cell,aa.free,aa.kT,aa.pin,aa.aT,aa.len⟩
theorem Inv.ins(aa:Inv X ak ae H s):Inv {X with pn:=X.pn++ak} [] ae H s :=
 ⟨aa.ok.ae4 _,aa.os,aa.bare,aa.base,aa.loc,aa.cell,aa.free,aa.kT,fun p aO=>aa.pin p (by simpa using aO),aa.aT,aa.len⟩
theorem Inv.CO{Y:bA}(ok:X.Ok)(aa:Inv {X with pn:=X.pn++ak} [] ae H s):Inv X ak ae H s :=
 ⟨ok,aa.os,aa.bare,aa.base,aa.loc,aa.cell,aa.free,aa.kT,fun p aO=>aa.pin p (by simpa using aO),aa.aT,aa.len⟩
theorem Inv.Dh{e:ag}(ok:X.Ok)(aa:Inv (X.vV (X.pn++ak) e) [] ae H s):Inv X ak ae H s :=
 ⟨ok,aa.os,aa.bare,aa.base,aa.loc,aa.cell,aa.free,aa.kT,fun p aO=>aa.pin p (by simpa [bA.vV] using aO),aa.aT,aa.len⟩
theorem Inv.gone{n:ah}{Q:Unit->aM->Prop}(aa:Inv X ak ae H s)(cK:X.N.Nodup)(aJ:X.N[i]?=J n)(aC:X.env.scope.names.lookup n=J .local)
  (h:∀aX,Inv X ak (ae.set i av) H aX->Q () aX):bP M A (do bindName X.env n .none;unbindBehindTheSuite X.env n aV) Q E s:=by
 obtain⟨m,aZ,aci⟩:=id aa.loc
 have G6:(X.env.scope.kind ==.class||(X.env.scope.kind ==.module&&X.env.locals != X.env.globals))=aA:=by rw[aa.ok.kind];rfl
 have Ci:i<ae.length:=by rw[aa.len];exact(i4.mp aJ).1
 refine wpAny_nameGoes_keeps aC aZ G6 fun h' v nC hs=>?_
 obtain⟨ON,_,_,N7,_⟩:=id aZ
 have tracked:fG X.prog X.w H h':=fun b dX e=>by
  refine(aa.aT b dX e).oN (fun c iu hc q=>(hs.2 c ?_).trans q) (fun _ q=>q) fun _ _ q=>q
  rintro rfl
  rcases hc with rfl|hc
  .rw[aa.free]at e;cases e
  .rw[aa.free]at hc;cases hc
 refine h _ ⟨aa.ok,aa.os,aa.bare,⟨fun b o e n aj ay=>?_,fun b o e n aj ay=>?_,aa.base.free,fun b o e ay=>?_,aa.base.mm,aa.base.lH,aa.base.ml⟩,⟨_,nC,fun j y jA aU ba eM=>?_⟩,fun y c e=>?_,aa.free,aa.kT,fun p aO=>?_,tracked,by simpa using aa.len⟩
 .exact(hs.2 b (fU (e3 (eu e) aa.ok.above))).trans (aa.base.keep b o e n aj ay)
 ·obtain⟨dU,aU⟩:=aa.base.slot b o e n aj ay
  exact⟨dU,(hs.2 b (fU (e3 (eu e) aa.ok.above))).trans aU⟩
 ·obtain⟨o',aU⟩:=aa.base.there b o e ay
  exact⟨o',(hs.2 b (fU (e3 (eu e) aa.ok.above))).trans aU⟩
 ·by_cases cw:j=i
  ·subst cw
   rw[List.getElem?_set_self Ci]at ba
   cases ba
  ·rw[List.getElem?_set_ne (d1 cw)]at ba
   obtain⟨u',e1,q⟩:=aci j y jA aU ba eM
   refine⟨u',e1,?_⟩
   rcases q with⟨k,e⟩|⟨k,c,e,z⟩
   ·refine .inl ⟨k,?_⟩
    have:y≠n:=fun e=>cw (FJ cK aU (e ▸ aJ))
    simp[this,e]
   .exact .inr ⟨k,c,e,z.sameBut hs (aa.qe y c e)⟩
 ·obtain⟨iu,z⟩:=aa.cell y c e
  exact⟨iu,z.sameBut hs (aa.qe y c e)⟩
 ·obtain⟨e,n,ne,mT,d⟩:=aa.pin p aO
  exact⟨(hs.2 p.1 ne).trans e,n,ne,mT,d⟩
theorem Mz{QS:List bz}{MU:bz}{x n:ah}{D:ag}{pG:eW}(aj:∀pn,h7 (X.Q3 pn Eh) body dp)(fb:∀pn e,h7 (X.vV pn e) (MU::QS) pG)
  (hm:X.mg x=J (.ref D)) (xN:ExcC X.K D) (qJ:typeIn X.K (.ref D)=J (.type "type")) (cK:X.N.Nodup) (aJ:X.N[i]?=J n:=by rfl) (aC:X.env.scope.names.lookup n=J .local:=by rfl)
  (hs:X.stack=X.env::X.outer:=by rfl) (aH:X.env.frame=J X.env.locals:=by rfl) (hex:X.ex=[]:=by rfl) (bb:h6 X x:=by rfl) (jK:(x == ("__debug__":ah))=aA:=by decide+kernel) :
  kq X (.Try body [.ExceptHandler (J (.Name x np)) (J n) (MU::QS) aV] [] [] rQ) (ahR X.K D i Eh dp pG):=by
 intro ak s ae H qP aa ⟨al,aw⟩
 have ok:=aa.ok
 refine wpAny_Try_except (kJ (aj (X.pn++ak) [] s ae H qP (aa.ins.nQ _) al) (fun f s1 z=>?_) (fun e s1 z=>?_))
 ·cases f with
  |next =>
   obtain⟨bR,H',hK,q⟩:=z
   exact cy (X:=X) ak s1 bR H' qP (Inv.CO (Y:=X) ok (Inv.m1 (X:={X with pn:=X.pn++ak}) hK)) q
  |brk=>obtain⟨bR,H',hK,q⟩:=z;exact⟨bR,H',Inv.CO (Y:=X) ok (Inv.m1 (X:={X with pn:=X.pn++ak}) hK),q⟩
  |cont=>obtain⟨bR,H',hK,q⟩:=z;exact⟨bR,H',Inv.CO (Y:=X) ok (Inv.m1 (X:={X with pn:=X.pn++ak}) hK),q⟩
  |ret u=>obtain⟨v,bR,H',hK,r,q⟩:=z;exact⟨v,bR,H',Inv.CO (Y:=X) ok (Inv.m1 (X:={X with pn:=X.pn++ak}) hK),r,q⟩
 obtain⟨a,C,d,T,bR,H1,H',s0,rfl,bf,bE,lG,fa,j6,jh,hn,q⟩:=z
 obtain⟨N4,bo⟩:=aw bR C d H' a q fa
 have fr:X.A.frames=J (X.env::X.outer):=ok.frames.trans (congrArg J hs)
 have fst:s1.heap.FunFrames X.base (X.env::X.outer):=hs ▸ bE.stack
 refine Il fr fst aH lG fun h' dT gX dR lS kl=>?_
 refine yH (s:={s1 with heap:=h'}) lS gX fun aw kH iX nS=>?_
 have pw:∀b o,s1.heap.get? b=J o->b≠dT:=fun b o e z=>by rw[z,dR]at e;cases e
 have k2:∀b o,b≠a->b≠T->b∉iO X.stack->s1.heap.get? b=J o->aw.get? b=J o:=fun b o aU ba eM f7=>nS b o (pw b o f7) (kl.keep b o aU (fun z=>ba (gy z)) (fun z=>eM (by rw[hs];exact z)) f7)
 have dM:∀b o,b≠a->b≠T->s1.heap.get? b=J o->∃dU,aw.get? b=J {o with slots:=dU}:=fun b o aU ba f7=>by
  obtain⟨dU,e⟩:=kl.slot b o aU (fun z=>ba (gy z)) f7
  exact⟨dU,nS b _ (pw b o f7) e⟩
 have JL:=(bf.MW (h':=aw) (t':=s1.toks) bE hex jh hn fa j6 k2 dM kH).hand a
 refine wpAny_handleBy_cons (codeAny_handlers_test (sP JL bb hm ?_ jK)) (by intro q;cases q)
 obtain⟨e0,vs,kf,iW,he,hc,kU,hd,_⟩:=id kH
 refine Xi (K:=X.K) JL.fT he hc xN qJ N4 ?_
 refine codeAny_handlers_suite_as (yH (s:={s1 with heap:=aw}) iX kH fun bq ui lR oP=>?_)
 have dZ:∀b o,b≠dT->aw.get? b=J o->bq.get? b=J o:=oP
 have Sg:=(bf.MW (h':=bq) (t':=s1.toks) bE hex jh hn fa j6 (fun b o aU ba eM f7=>oP b o (pw b o f7) (k2 b o aU ba eM f7)) (fun b o aU ba f7=>by
  obtain⟨dU,e⟩:=dM b o aU ba f7
  exact⟨dU,oP b _ (pw b o f7) e⟩) ui).hand a
 refine FC (X:=X.vV (X.pn++ak) a) (v :=.ref a) Sg cK aJ (.inl aC) I (fun qF lh=>?_) (.inr aC)
 refine kJ (fb (X.pn++ak) a [] qF _ _ _ lh bo) (fun f wC z=>?_) fun _ _ z=>False.elim z
 cases f with
 |next =>
  obtain⟨zq,fB,kn,mi⟩:=z
  exact Inv.gone (kn.Dh ok) cK aJ aC fun ua lj=>⟨_,fB,lj,mi⟩
 |brk =>
  obtain⟨zq,fB,kn,mi⟩:=z
  exact Inv.gone (kn.Dh ok) cK aJ aC fun ua lj=>⟨_,fB,lj,mi⟩
 |cont =>
  obtain⟨zq,fB,kn,mi⟩:=z
  exact Inv.gone (kn.Dh ok) cK aJ aC fun ua lj=>⟨_,fB,lj,mi⟩
 |ret u =>
  obtain⟨v,zq,fB,kn,qA,mi⟩:=z
  exact Inv.gone (kn.Dh ok) cK aJ aC fun ua lj=>⟨v,_,fB,lj,qA,mi⟩
section
variable {X:bA}
inductive JJ(K:bK)(xs:List V)(H:aq)(Q:Bool->Prop):Prop where
 |mk (a C:ag) (d:Option ag) (c:V) (b:Bool) (e:xs=[.ref a,c]) (h:H a=J (si a C d)) (k:ExcC K C) (l:d=av\/∃ai fs,d=J ai/\H ai=J (.kG fs)) (m:∀nk,RelV c nk->fp K (.ref C) nk=J b) (q:Q b):JJ K xs H Q
theorem oa:jC X (.builtin "isinstance") (fun xs H Q=>JJ X.K xs H fun b=>Q (.aE b) H):=by
 intro ak s ae H xs us Q aa r h
 obtain⟨a,C,d,c,b,rfl,de,hb,hd,j3,q⟩:=h
 obtain⟨u,iu,rfl,cd,dB⟩:=vals2 r
 cases(show u=ar.ref a from cd)
 obtain⟨⟨o,vs,aU,ba,eM,f7,_⟩,_⟩:=(show hV X.prog X.w H s.heap a (si a C d)from aa.aT a _ de)
 have en:∃ox pz,W.InstAt s.heap a ox C pz:=by
  obtain⟨cls,dict,data,dU⟩:=o
  subst ba f7
  rcases eM with⟨eM,_⟩|⟨_,eM,_⟩
  ·dsimp only at eM
   subst eM
   rcases hd with rfl|⟨ai,fs,rfl,ay⟩
   .exact⟨_,av,aU,I,I,trivial⟩
   ·obtain⟨u,aaC⟩:=aa.aT.there ay
    exact⟨_,J u,aU,I,I,aaC⟩
  ·dsimp only at eM
   subst eM
   exact⟨_,av,aU,I,I,trivial⟩
 exact pK (LR hb) aa.fT en (j3 iu dB) (fun z=>nomatch z) fun dg=>⟨.aE b,H,aa.tok _,I,q⟩
theorem Tf:d6 X (kI .Mult) (qB (fun i j=>cO.Int.intBits i<=2^20/\cO.Int.intBits j<=2^20) fun i j =>.int (i*j)):=rJ fun _ _ _ _ _ _ _ hc q=>mul_int q (IntMulOk.of_bits hc.1 hc.2)
theorem qD(az:fH k A):A.units+64<cLine:=by have:=az.un;omega
end
end cN
namespace cN
open PySem
theorem Wd:jT "ValueError"=J (.type "ValueError"):=by decide+kernel
end cN
end
section
namespace cN
open PySem PySem.W PySem.Spec PyProof.Rows PySem.Builtin.ObjectAttr
end cN
end
section
namespace cN
open PySem PySem.W PySem.Spec PyProof.Rows
noncomputable abbrev ajr:=ah->St->aq->bG->Prop
def p1(P:c6)(w:cM)(K:bK)(mg:ah->Option ar)(base:br)(k:Nat)(C:ag)(m:ah)(aI:List ah)(sp:b0):Prop :=
 ∃f fd,cv P w K mg base (hJ P w) k f fd aI sp/\Binds K fd aI []/\sx K C m f
end cN
end
section
namespace dG
open PySem cN
theorem YW(l:List Bool)(k:Nat)(h:k<=l.length):Txt.slice (aR l) av (J (k:Int))=aR (l.take k):=by
 rw[La,el.y3,el.y4,Nat.min_eq_left (by omega),List.drop_zero,Nat.sub_zero]
end dG
end
variable {gu:cN.gO}
section
namespace cN
open PySem PySem.W PySem.Spec PyProof.Rows
section
variable {X:bA}
noncomputable def rF:=d6.or (ed (X:=X)) xI
noncomputable def Ip:=d6.or (kZ (X:=X)) TZ
end
section
variable {X:bA}
def Dy(i j:Int):Prop:=0<j/\(cO.Int.intBits j<=9000\/cO.Int.intBits i<=cO.Int.intBits j+4000)
theorem Ll{j:Int}(h:j≠0):j.natAbs.log2+1=cO.Int.intBits j:=by
 unfold cO.Int.intBits
 rw[if_neg (by simpa using h)]
theorem Dy.ok{i j:Int}(h:Dy i j):cO.divisionGoesByPylong i j=aA:=by
 unfold cO.divisionGoesByPylong
 have cw:=Ll (Int.ne_of_gt h.1)
 have aw:=h.2
 have g5:(j == 0)=aA:=by have:=h.1;simp;omega
 simp only[Bool.and_eq_false_iff,decide_eq_false_iff_not,g5,if_neg (show ¬(aA=au)from by decide)]
 rcases aw with aw|aw
 .left;omega
 ·right
  by_cases aJ:i=0
  .subst aJ;rw[if_pos (by decide)];omega
  ·have ab8:=Ll aJ
   rw[if_neg (by simpa using aJ)]
   omega
theorem vp:d6 X (kI .FloorDiv) (qB Dy fun i j =>.int (i/j)):=rJ fun i j _ _ _ _ _ hc q=>by
 have e:i.fdiv j=i/j:=Int.fdiv_eq_ediv_of_nonneg _ (Int.le_of_lt hc.1)
 exact floordiv_int (by have:=hc.1;omega) (by rw[e];exact q) (.inl hc.ok)
end
noncomputable def so(K:bK)(a:ag)(xs:List V):ko:=⟨fun i H=>c3 K H a xs/\i<xs.length,fun i H x H'=>H'=H/\xs[xs.length-1-i]?=J x,fun i H=>c3 K H a xs/\xs.length<=i⟩
theorem YQ(a it:ag)(xs:List V):Turn P w K eD (so K a xs) [it] it (fun i h=>i<=xs.length/\h.IsRevIter it a ((xs.length:Int)-1-i)) where
 mem:=by simp
 obj:=fun i h st b aj=>by
  have e:b=it:=by simpa using aj
  subst e
  obtain⟨_,o,e,c,d⟩:=st
  exact⟨o,e,fun v z=>by rw[d]at z;cases z⟩
 keep:=fun i h h' st k=>⟨st.1,st.2.at fun o e=>k it (by simp) o e⟩
 item:=by
  intro X cP hw gm hc i ak s ae H E aa aH st bb
  subst cP hw gm
  obtain⟨aY,aJ⟩:=bb
  obtain⟨bj,dN,p,bL⟩:=aa.list aY
  have ay:xs[xs.length-1-i]?=J (xs[xs.length-1-i]'(by omega)):=c4 _
  obtain⟨u,da,fc⟩:=dN.get ay
  obtain⟨f0,f1,f2,hP,f4,h2⟩:=aH it (by simp)
  have eR:((xs.length:Int)-1-i)=((xs.length-1-i:Nat):Int):=by omega
  have ir:=st.2
  rw[eR]at ir
  refine wpAny_pyNext_rev_item ir p.isList (x:=u) (by simpa using da) fun h' hR nK=>?_
  have bf:Inv X ak ae H {s with heap:=h'}:=aa.turned (t':=s.toks) (fun b o aj e=>(nK.2 b aj).trans e) f0 f1 hP f4 h2
  have g5:(((xs.length-1-i:Nat):Int)-1)=((xs.length:Int)-1-((i+1:Nat):Int)):=by omega
  rw[g5]at hR
  obtain⟨o,e,c,d⟩:=id hR
  exact⟨u,I,xK (s:={s with heap:=h'}) e c d (by decide) ⟨_,H,bf,fc,⟨I,ay⟩,⟨by omega,hR⟩,fun b aj=>(aH b aj).1⟩⟩
 done:=by
  intro X cP hw gm hc i ak s ae H E aa aH st bb
  subst cP hw gm
  obtain⟨aY,ay⟩:=bb
  obtain⟨f0,f1,f2,hP,f4,h2⟩:=aH it (by simp)
  have eR:((xs.length:Int)-1-i) = -1:=by have:=st.1;omega
  have ir:=st.2
  rw[eR]at ir
  exact wpAny_pyNext_rev_end (aa.ok.hd hc) ir fun h' fk=>⟨I,aa.turned (t':=s.toks) (fun b o aj e=>fk b o aj e) f0 f1 hP f4 h2⟩
 self:=fun _ _ _ _ _ st h=>wpAny_pyIter_revIter st.2 h
section
variable {X:bA} {eD:cu}
def adh(K:bK)(eV:TE):dJ:=fun ae H R=>eV ae H fun x H1=>∃a xs,x=.ref a/\c3 K H1 a xs/\R (so K a xs) H1
theorem TV{l:cu}{eV:TE}{p:Pos}(bb:h6 X "reversed")(hm:X.mg "reversed"=av)(aC:ck X l eV)(hs:dr [l] X.env=[(aA,eval l X.env)]:=by rfl):i2 X eD (.Call (.Name "reversed" p) [l] [] aV) (adh X.K eV):=by
 intro ak s ae H R aa h
 have bh:hr X [l] _:=ao aC aB (hs:=hs.trans rfl)
 refine Call_ (nj aa bb hm boot_reversed (callWith_type1 (cU (bh aV ak s ae H (fun vs H1=>∃x,vs=[x]/\∃a xs,x=.ref a/\c3 X.K H1 a xs/\R (so X.K a xs) H1) aa ?_) fun us s1 ⟨vs,H1,bf,cd,cg⟩=>?_) (by rw[hs];rfl) I))
 ·have h':eV ae H fun x H1=>∃a xs,x=.ref a/\c3 X.K H1 a xs/\R (so X.K a xs) H1:=h
  show eV ae H fun x H1=>∃y,[x]=[y]/\_
  exact cast (congrArg (eV ae H) (funext fun x=>funext fun H1=>propext ⟨fun q=>⟨x,I,q⟩,fun⟨y,e,q⟩=>by cases e;exact q⟩)) h'
 ·obtain⟨x,rfl,a,xs,rfl,aY,q⟩:=cg
  obtain⟨u,rfl,fc⟩:=vals1 cd
  obtain rfl:u=ar.ref a:=fc
  obtain⟨bj,dN,pl,bL⟩:=bf.list aY
  have cB:=dN.length
  refine call_reversed_list pl.isList ?_
  have bE:Inv X ak ae H1 {s1 with heap:=s1.heap.push (revObj a ((bj.toArray.size:Int)-1))}:=bf.kept (t':=s1.toks) fun b o e=>fO _ e
  have C5:(s1.heap.push (revObj a ((bj.toArray.size:Int)-1))).IsRevIter s1.heap.objs.size a ((xs.length:Int)-1-((0:Nat):Int)):=by
   have eY:((bj.toArray.size:Int)-1)=((xs.length:Int)-1-((0:Nat):Int)):=by rw[eH,<-cB];omega
   rw[eY]
   exact⟨_,hi _ I,I,I⟩
  refine wpAny_pyIter_revIter C5 ?_
  refine⟨_,[_],_,_,H1,I,bE,YQ a _ xs,⟨UF _,C5⟩,fun b aj=>?_,q⟩
  have e:=ft.mp aj
  subst e
  exact bf.og (cE _) (bf.aT.fresh (cE _))
theorem Tx{D:Ends}(Pv:Nat->St->aq->Prop)(bg:Pv 0 ae H)(aC:∀i ae H,i<=xs.length->Pv i ae H->c3 K H a xs)
  (hs:∀i x ae H,i<xs.length->xs[xs.length-1-i]?=J x->Pv i ae H->g x ae H fun bC ax=>dp {D with nx:=Pv (i+1),ct:=Pv (i+1),bk:=D.nx} bC ax) (hd:∀ae H,Pv xs.length ae H->D.nx ae H) :
  ∃W:Nat->Nat->St->aq->Prop,(∃m,W 0 m ae H)/\∀i m ae H,W i m ae H->
   ((so K a xs).stop i H/\D.nx ae H)\/((so K a xs).go i H/\∃N:St->aq->Prop,(∀bR H',N bR H'->∃bY,bY<m/\W (i+1) bY bR H')/\∀x H',(so K a xs).pI i H x H'->g x ae H' fun bC ax=>dp {D with nx:=N,ct:=N,bk:=D.nx} bC ax):=by
 refine⟨fun i m ae H=>i<=xs.length/\m=xs.length-i/\Pv i ae H,⟨xs.length,UF _,I,bg⟩,?_⟩
 rintro i m ae H ⟨al,rfl,aw⟩
 rcases hv i xs.length with z|z
 ·refine .inr ⟨⟨aC i ae H al aw,z⟩,Pv (i+1),fun bR H' q=>⟨xs.length-(i+1),by omega,by omega,rfl,q⟩,?_⟩
  rintro x H' ⟨rfl,ay⟩
  exact hs i x ae _ z ay aw
 ·have e:i=xs.length:=by omega
  subst e
  exact .inl ⟨⟨aC _ ae H (cE _) aw,cE _⟩,hd ae H aw⟩
theorem sM(hc:X.calm=au):jC X (.builtin "all") (fun xs H Q=>∃a,∃bs:List Bool,xs=[.ref a]/\c3 X.K H a (bs.map .aE)/\Q (.aE (bs.all id)) H):=by
 intro ak s ae H xs us Q aa r h
 obtain⟨a,bs,rfl,aY,q⟩:=h
 obtain⟨u,rfl,fc⟩:=vals1 r
 obtain rfl:u=ar.ref a:=fc
 obtain⟨bj,dN,pl,bL⟩:=aa.list aY
 have cB:=dN.length
 have iA:a<s.heap.objs.size:=by obtain⟨o,aL,_⟩:=pl.isList;exact eu aL
 refine call_all_walkS (wpAny_pyIter_list pl.isList ?_)
 refine⟨s.heap.objs.size,[s.heap.objs.size,a],[s.heap.objs.size],_,bj.toArray.size,_,_,fun i=>bs.getD i aA,I,(Walks.list (A:=X.A.in1) (aa.ok.hd hc) s.heap.objs.size a (fU iA) bj.toArray).toS,⟨⟨_,hi _ I,I,I⟩,?_⟩,?_,fun aX jN=>?_⟩
 .obtain⟨o,aL,r⟩:=pl.isList;exact⟨o,fO _ aL,r⟩
 ·intro i v s2 ajq qR b5 cj
  have tA:bj[i]?=J v:=by simpa using b5
  have aJ:i<bs.length:=by
   have:=(i4.mp tA).1
   rw[cq]at cB;omega
  have aj:(bs.map V.aE)[i]?=J (.aE (bs.getD i aA)):=by rw[e4,c4 aJ,eL,c4 aJ];rfl
  obtain⟨u,da,fc⟩:=dN.get aj
  rw[tA]at da;cases da
  obtain rfl:v=ar.bool (bs.getD i aA):=fc
  exact zu cj
 ·have gQ:(List.range bj.toArray.size).all (fun i=>bs.getD i aA)=bs.all id:=by
   rw[eH,<-cB,cq]
   apply Bool.eq_iff_iff.mpr
   rw[i5,i5]
   constructor
   ·intro h x ay
    obtain⟨i,aJ,rfl⟩:=List.mem_iff_getElem.mp ay
    have:=h i (List.mem_range.mpr aJ)
    rw[eL,c4 aJ]at this
    exact this
   ·intro h i aJ
    have tr:=List.mem_range.mp aJ
    rw[eL,c4 tr]
    exact h _ (List.getElem_mem tr)
  rw[gQ]
  refine⟨.aE _,H,?_,I,q⟩
  have bE:Inv X ak ae H {s with heap:=s.heap.push {cls :=.type "list_iterator",data :=.fields #[.ref a,.int 0 0]}}:=aa.kept (t':=s.toks) fun b o e=>fO _ e
  obtain⟨f0,f1,f2,hP,f4,h2⟩:=aa.og (b:=s.heap.objs.size) (cE _) (aa.aT.fresh (cE _))
  have e:aX={s with heap:=aX.heap,toks:=aX.toks}:=by
   obtain⟨al,g1,hl,t1,Io⟩:=aX
   have:=jN.gens;have:=jN.drawn;have:=jN.os
   dsimp only at *
   subst_vars;rfl
  have gM:=bE.turned (t':=aX.toks) (it:=s.heap.objs.size) (h':=aX.heap) (fun b o aj e=>jN.heap b o (by simpa using aj) e) f0 f1 hP f4 h2
  rw[e]
  exact gM
end
theorem Fw(l:List V):o7 l (J 1) av=l.drop 1:=by
 unfold o7 el.fF
 cases l with
 |nil=>rfl
 |cons a r=>simp
theorem YF(l:List V):o7 l av (J (-1))=l.take (l.length-1):=by
 unfold o7 el.fF
 cases l with
 |nil=>rfl
 |cons a r =>
  simp only[show((-1:Int)<0)from by decide,if_true,List.drop_zero,Nat.sub_zero]
  congr 1
  simp only[eA]
  omega
theorem Fx{Q:bG}{D:ag}(f:V->V)(S:St->Prop)(bL:xs.length<=bU)(bg:S fo)(c0:H D=av)(aC:c3 K H a xs)
  (bo:∀x,x∈xs->∀bO H1,S bO->d7 H H1->∀R:St->V->aq->Prop,(∀bC,S bC->R bC (f x) H1)->g x bO H1 fun bC ax=>cL bC ax fun y bJ=>R bC y bJ)
  (aY:Q (.ref D) (upd H D (.lst (xs.map f)))) :
  mu (pT K a) g pF cL Q fo H D:=by
 refine⟨fun i m bO ax=>i<=xs.length/\m=xs.length-i/\S bO/\ax=upd H D (.lst ((xs.take i).map f)),⟨xs.length,UF _,I,bg,I⟩,?_⟩
 rintro i m bO ax ⟨al,rfl,aw,rfl⟩
 have gR:=(dc (o :=.lst ((xs.take i).map f)) c0).seq aC
 rcases hv i xs.length with z|z
 ·refine .inr ⟨⟨xs,xs[i],gR,c4 z⟩,?_⟩
  rintro x bJ ⟨rfl,ay⟩
  have ay:=ay xs gR
  refine bo x (hY ay) bO _ aw (dc c0) (fun bC y d5=>∃aN bY,d5 D=J (.lst aN)/\aN.length<bU/\bY<xs.length-i/\(i+1<=xs.length/\bY=xs.length-(i+1)/\S bC/\upd d5 D (.lst (aN++[y]))=upd H D (.lst ((xs.take (i+1)).map f)))) fun bC eN=>?_
  refine⟨_,xs.length-(i+1),aG,?_,by omega,by omega,rfl,eN,?_⟩
  .rw[cq,jn];omega
  .rw[fX,lu,ay,gf];rfl
 ·have e:i=xs.length:=by omega
  subst e
  rw[List.take_length]
  rw[List.take_length]at gR
  exact .inl ⟨⟨xs,gR,cE _⟩,aY⟩
theorem Xl{Q:bG}{D:ag}(keep:V->Bool)(f:V->V)(S:St->Prop)(bL:xs.length<=bU)(bg:S fo)(c0:H D=av)(aC:c3 K H a xs)
  (bo:∀x,x∈xs->∀bO H1,S bO->d7 H H1->∀(R:St->V->aq->Prop)(kt:St->aq->Prop),(∀bC,S bC->if keep x=au then R bC (f x) H1 else kt bC H1)->g x bO H1 fun bC ax=>gu bC ax fun b bJ=>if b=au then cL bC bJ fun y gv=>R bC y gv else kt bC bJ)
  (aY:Q (.ref D) (upd H D (.lst ((xs.filter keep).map f)))) :
  mu (pT K a) g gu cL Q fo H D:=by
 refine⟨fun i m bO ax=>i<=xs.length/\m=xs.length-i/\S bO/\ax=upd H D (.lst (((xs.take i).filter keep).map f)),⟨xs.length,UF _,I,bg,I⟩,?_⟩
 rintro i m bO ax ⟨al,rfl,aw,rfl⟩
 have gR:=(dc (o :=.lst (((xs.take i).filter keep).map f)) c0).seq aC
 rcases hv i xs.length with z|z
 ·refine .inr ⟨⟨xs,xs[i],gR,c4 z⟩,?_⟩
  rintro x bJ ⟨rfl,ay⟩
  have ay:=ay xs gR
  refine bo x (hY ay) bO _ aw (dc c0) (fun bC y d5=>∃aN bY,d5 D=J (.lst aN)/\aN.length<bU/\bY<xs.length-i/\(i+1<=xs.length/\bY=xs.length-(i+1)/\S bC/\upd d5 D (.lst (aN++[y]))=upd H D (.lst (((xs.take (i+1)).filter keep).map f))))
   (fun bC fB=>∃bY,bY<xs.length-i/\(i+1<=xs.length/\bY=xs.length-(i+1)/\S bC/\fB=upd H D (.lst (((xs.take (i+1)).filter keep).map f)))) fun bC eN=>?_
  have kB:xs.take (i+1)=xs.take i++[x]:=by rw[lu,ay];rfl
  by_cases hk:keep x=au
  ·rw[if_pos hk]
   refine⟨_,xs.length-(i+1),aG,?_,by omega,by omega,rfl,eN,?_⟩
   ·rw[cq]
    have:=List.length_filter_le keep (xs.take i)
    rw[jn]at this;omega
   .rw[fX,kB,List.filter_append,gf,List.filter_cons_of_pos hk];rfl
  ·rw[if_neg hk]
   refine⟨xs.length-(i+1),by omega,by omega,rfl,eN,?_⟩
   rw[kB,List.filter_append,gf,List.filter_cons_of_neg hk];simp
 ·have e:i=xs.length:=by omega
  subst e
  rw[List.take_length]
  rw[List.take_length]at gR
  exact .inl ⟨⟨xs,gR,cE _⟩,aY⟩
end cN
end
section
namespace dG
open PySem cN
noncomputable def fL:List Int->Int×Int
 |[]=>(1,0)
 |a::r=>(a*(fL r).1+(fL r).2,(fL r).1)
def Tail(r:List Int):Prop:=(∀x∈r,1<=x)/\∀h:r≠[],2<=r.getLast h
noncomputable def Good:List Int->Prop
 |[]=>False
 |_::r=>Tail r
noncomputable def e7(p q:Int):List Int:=if h:0<q then(p/q)::e7 q (p%q)else []
termination_by q.toNat
decreasing_by
 have:=hL p h
 have:=hu p (Int.ne_of_gt h)
 omega
theorem ng{p q:Int}(h:0<q):e7 p q=(p/q)::e7 q (p%q):=by rw[e7,dif_pos h]
theorem q1(p:Int):e7 p 0=[]:=by rw[e7,dif_neg (by decide)]
theorem Br(i:Int):cO.Int.intBits i=aF i.natAbs:=by
 unfold cO.Int.intBits aF
 by_cases h:i=0
 .subst h;rfl
 .rw[if_neg (by simpa using h),if_neg (by omega)]
theorem Lr{B:Nat}:∀{s:List Int},(∀x∈s,x.natAbs<2^B)->(fL s).1.natAbs<=2^((B+1)*s.length)/\(fL s).2.natAbs<=2^((B+1)*s.length)
 |[],_=>⟨by rw[List.length_nil,Nat.mul_zero];decide,by rw[List.length_nil,Nat.mul_zero];decide⟩
 | a::r,h=>by
  obtain⟨al,aw⟩:=Lr (s:=r) fun x ay=>h x (dP _ ay)
  have bh:=h a (eI ..)
  have e:(B+1)*(a::r).length=(B+1)*r.length+(B+1):=by rw[eA,Nat.mul_succ]
  rw[e,Nat.pow_add]
  obtain⟨T,cc⟩:∃T,T=2^((B+1)*r.length):=⟨_,rfl⟩
  rw[<-cc]at al aw ⊢
  have aj:1<=2^B:=Nat.one_le_two_pow
  have ba:2^(B+1)=2^B*2:=Nat.pow_succ ..
  rw[ba]
  obtain⟨b,G4⟩:∃b,b=2^B:=⟨_,rfl⟩
  rw[<-G4]at bh aj ⊢
  have eM:T*(b*2)=b*T+T*b:=by rw[<-Nat.mul_assoc,Nat.mul_two,Nat.mul_comm b T]
  have k1:T*1<=T*b:=Nat.mul_le_mul_left _ aj
  constructor
  ·show(a*(fL r).1+(fL r).2).natAbs<=_
   have z:=Int.natAbs_add_le (a*(fL r).1) (fL r).2
   rw[Int.natAbs_mul]at z
   have m:a.natAbs*(fL r).1.natAbs<=b*T:=Nat.mul_le_mul (Nat.le_of_lt bh) al
   omega
  ·show(fL r).1.natAbs<=_
   have:0<=b*T:=UF _
   omega
theorem Mp{i:Int}(h:i.natAbs<=2^k):cO.Int.intBits i<=k+1:=by
 rw[Br]
 refine jI ?_
 rw[Nat.pow_succ]
 have:=Nat.two_pow_pos k
 omega
theorem TI{i:Int}(h:i.natAbs<2^k):cO.Int.intBits i<=k:=by rw[Br];exact jI h
theorem Zp{p q:Int}{B:Nat}(h:0<q)(hs:(p/q).natAbs<2^B):cO.Int.intBits p<=cO.Int.intBits q+(B+1):=by
 rw[Br,Br]
 refine jI ?_
 have e:=Int.mul_ediv_add_emod p q
 have k4:=hu p (Int.ne_of_gt h)
 have cd:=hL p h
 have z:=Int.natAbs_add_le (q*(p/q)) (p%q)
 rw[e,Int.natAbs_mul]at z
 have aY:=Bz q.natAbs
 have m:q.natAbs*(p/q).natAbs<=q.natAbs*2^B:=Nat.mul_le_mul_left _ (Nat.le_of_lt hs)
 rw[Nat.pow_add,Nat.pow_succ]
 have pv:q.natAbs*2^B<=2^aF q.natAbs*2^B:=Nat.mul_le_mul_right _ (Nat.le_of_lt aY)
 have aj:1<=2^B:=Nat.one_le_two_pow
 have Oz:2^aF q.natAbs*1<=2^aF q.natAbs*2^B:=Nat.mul_le_mul_left _ aj
 have eM:2^aF q.natAbs*(2^B*2)=2^aF q.natAbs*2^B+2^aF q.natAbs*2^B:=by rw[<-Nat.mul_assoc,Nat.mul_two]
 omega
noncomputable def qi(s:List Int):Bool:=if s.length<2 then decide (s.length=1)else s.tail.all (fun x=>decide (0<x))&&decide (1<s.getLastD 0)
theorem Lq(s:List Int):qi s=au↔Good s:=by
 unfold qi
 match s with
 |[]=>simp[Good]
 |[a]=>simp[Good,Tail]
 | a::b::r =>
  rw[if_neg (by simp)]
  rw[jD,i5,n5]
  have e:(a::b::r).getLastD 0=(b::r).getLast (p4 _ _):=by
   rw[List.getLastD_cons,List.getLastD_eq_getLast?,List.getLast?_eq_some_getLast (p4 _ _)];rfl
  rw[e]
  constructor
  ·rintro⟨al,aw⟩
   exact⟨fun x ay=>by have:=lr (al x ay);omega,fun _=>by omega⟩
  ·rintro⟨al,aw⟩
   exact⟨fun x ay=>fu (by have:=al x ay;omega),by have:=aw (p4 _ _);omega⟩
theorem Good.ne{s:List Int}(h:Good s):s≠[]:=by intro e;subst e;exact h
end dG
end
variable {elts:List cu}
section
namespace cN
open PySem PySem.W PySem.Spec PyProof.Rows
section
variable {X:bA} {ak:List (ag×bH)} {ae:St} {H:aq} {s:aM} {h':br}
theorem Inv.Dd(aa:Inv X ak ae H s)(k:∀b u,b∉ch->s.heap.get? b=J u->h'.get? b=J u)(aH:∀b∈ch,pS X ak H b)(bh:s.heap.objs.size<=a)(new:hV X.prog X.w (upd H a o) h' a o):
  Inv X ak ae (upd H a o) {s with heap:=h',toks:=t'}:=by
 have aZ:=aa.aT.fresh bh
 have jO:∀b u,H b=J u->b∉ch:=fun b u e z=>by have:=(aH b z).1;rw[this]at e;cases e
 have ne:∀b u,s.heap.get? b=J u->b≠a:=fun b u e z=>by subst z;exact absurd (e3 (eu e) bh) (Nat.lt_irrefl _)
 refine aa.step (g':=s.gens) (d':=s.drawn) (ch:=ch) (fun b aj=>?_) (fun b o _ _ hc e _=>k b o hc e) (fun b o _ _ hc e _=>⟨o.slots,k b o hc e⟩) (fun b u _ e n=>by rw[bt (ne b u e)];exact n)
  (fun b o hc e=>⟨o,k b o hc e⟩) (fun b xs e=>by rw[bt (eB e aZ)];exact e) (fun b u v e=>by rw[bt (eB e aZ)];exact e) (fun b aI e=>⟨#[],by rw[bt (eB e aZ),e];simp⟩) (fun m hm=>?_) (fun b u e=>?_) aa.bare
 ·obtain⟨f0,f1,f2,hP,f4,h2⟩:=aH b aj
  exact⟨hP,f1,f4,h2⟩
 ·obtain⟨dX,aK,fK,aL,r⟩:=hm
  exact⟨dX,aK,fK,k _ dX (fun z=>(aH _ z).2.1 I) aL,r⟩
 ·by_cases aj:b=a
  .subst aj;rw[aG]at e;cases e;exact new
  ·rw[bt aj]at e
   refine(aa.aT b u e).oN (fun c v hc q=>k c v ?_ q) (fun c q=>by rw[bt (eB q aZ)];exact q) fun c xs q=>by rw[bt (eB q aZ)];exact q
   rcases hc with z|z
   .rw[z];exact jO b u e
   .exact jO c _ z
theorem Inv.Jg(aa:Inv X ak ae H s)(k:∀b u,b∉ch->s.heap.get? b=J u->h'.get? b=J u)(aH:∀b∈ch,pS X ak H b):Inv X ak ae H {s with heap:=h',toks:=t'}:=by
 have jO:∀b u,H b=J u->b∉ch:=fun b u e z=>by have:=(aH b z).1;rw[this]at e;cases e
 refine aa.step (g':=s.gens) (d':=s.drawn) (ch:=ch) (fun b aj=>?_) (fun b o _ _ hc e _=>k b o hc e) (fun b o _ _ hc e _=>⟨o.slots,k b o hc e⟩) (fun _ _ _ _ n=>n)
  (fun b o hc e=>⟨o,k b o hc e⟩) (fun _ _ e=>e) (fun _ _ _ e=>e) (fun b aI e=>⟨#[],by rw[e];simp⟩) (fun m hm=>?_) (fun b u e=>?_) aa.bare
 ·obtain⟨f0,f1,f2,hP,f4,h2⟩:=aH b aj
  exact⟨hP,f1,f4,h2⟩
 ·obtain⟨dX,aK,fK,aL,r⟩:=hm
  exact⟨dX,aK,fK,k _ dX (fun z=>(aH _ z).2.1 I) aL,r⟩
 ·refine(aa.aT b u e).oN (fun c v hc q=>k c v ?_ q) (fun _ q=>q) fun _ _ q=>q
  rcases hc with z|z
  .rw[z];exact jO b u e
  .exact jO c _ z
end
noncomputable def sl(K:bK)(a:ag)(xs:List V):ko :=
 ⟨fun i H=>c3 K H a xs/\i<xs.length,fun i H x H'=>∃(T:ag)(y:V),H T=av/\xs[i]?=J y/\x=.ref T/\H'=upd H T (.tup [.int (i:Nat),y]),fun i H=>c3 K H a xs/\xs.length<=i⟩
theorem XX(a e it:ag)(xs:List V)(al:e≠it)(aw:a≠e)(bq:a≠it):
  Turn P w K (.Tuple elts k aV) (sl K a xs) [e,it] e (fun i h=>i<=xs.length/\(∃old,IsEnum h e it (i:Nat) old)/\h.IsListIter it a i) where
 mem:=by simp
 obj:=fun i h st b aj=>by
  obtain⟨_,⟨old,ir⟩,iV⟩:=st
  rcases cR.mp aj with z|z
  ·subst z
   exact⟨_,ir,fun v z=>by cases z⟩
  ·obtain rfl:=ft.mp z
   obtain⟨o,e,c,d⟩:=iV
   exact⟨o,e,fun v z=>by rw[d]at z;cases z⟩
 keep:=fun i h h' st k=>by
  obtain⟨aJ,⟨old,ir⟩,iV⟩:=st
  exact⟨aJ,⟨old,k e (by simp) _ ir⟩,iV.at fun o e=>k it (by simp) o e⟩
 item:=by
  intro X cP hw gm hc i ak s ae H E aa aH st bb
  subst cP hw gm
  obtain⟨aY,aJ⟩:=bb
  obtain⟨bj,dN,p,bL⟩:=aa.list aY
  have cB:=dN.length
  have W:=WalksT.enumerate (prog:=X.prog) (w:=X.w) (aa.ok.hd hc) e it a al aw bq bj.toArray
  refine W.item i s _ _ (by rw[eH];omega) ⟨st.2.1,st.2.2,p.isList⟩ fun T vals h' dg b5 cc HI mid eK=>?_
  refine⟨_,I,W.go elts k aV i T _ _ _ mid fun GQ hR yF=>?_⟩
  obtain⟨t,u,da,rfl⟩:=b5
  have HK:bj[i]?=J u:=by simpa using da
  have bV:xs[i]?=J (xs[i]'aJ):=c4 aJ
  obtain⟨dt,qw,fc⟩:=dN.get bV
  rw[HK]at qw;cases qw
  have ya:=aa.aT.fresh cc
  have hn:T∉[e,it]:=W.apart i T h' mid
  refine⟨.ref T,upd H T (.tup [.int (i:Nat),xs[i]'aJ]),?_,I,⟨T,_,ya,bV,I,I⟩,⟨by omega,hR.1,hR.2.1⟩,fun b aj=>?_⟩
  ·refine aa.Dd (ch:=[e,it]) (t':=dg) (fun b o aj fk=>yF b o aj (eK b o aj fk)) aH cc ?_
   refine⟨by show 2<=bU;decide,[ar.int (i:Nat) t,u],.cons ⟨t,rfl⟩ (.cons fc .nil),?_⟩
   obtain⟨o,aL,r⟩:=HI
   exact⟨o,yF T o hn aL,r⟩
  ·have:=(aH b aj).1
   rw[bt]
   .exact this
   .intro z;subst z;exact hn aj
 done:=by
  intro X cP hw gm hc i ak s ae H E aa aH st bb
  subst cP hw gm
  obtain⟨aY,aJ⟩:=bb
  obtain⟨bj,dN,p,bL⟩:=aa.list aY
  have cB:=dN.length
  have W:=WalksT.enumerate (prog:=X.prog) (w:=X.w) (aa.ok.hd hc) e it a al aw bq bj.toArray
  have eR:i=bj.toArray.size:=by rw[eH];have:=st.1;omega
  subst eR
  exact W.done s _ _ ⟨st.2.1,st.2.2,p.isList⟩ fun h' dg eK=>⟨I,aa.Jg (t':=dg) eK aH⟩
 self:=fun A i s Q E st h=>by
  obtain⟨_,⟨old,ir⟩,_⟩:=st
  exact wpAny_pyIter_enum ir h
section
variable {X:bA}
def adg(K:bK)(eV:TE):dJ:=fun ae H R=>eV ae H fun x H1=>∃a xs,x=.ref a/\c3 K H1 a xs/\R (sl K a xs) H1
theorem S7{l:cu}{eV:TE}{p:Pos}(bb:h6 X "enumerate")(hm:X.mg "enumerate"=av)(aC:ck X l eV)(hs:dr [l] X.env=[(aA,eval l X.env)]:=by rfl):i2 X (.Tuple elts k rQ) (.Call (.Name "enumerate" p) [l] [] aV) (adg X.K eV):=by
 intro ak s ae H R aa h
 have bh:hr X [l] _:=ao aC aB (hs:=hs.trans rfl)
 refine Call_ (nj aa bb hm boot_enumerate (callWith_type1 (cU (bh aV ak s ae H (fun vs H1=>∃x,vs=[x]/\∃a xs,x=.ref a/\c3 X.K H1 a xs/\R (sl X.K a xs) H1) aa ?_) fun us s1 ⟨vs,H1,bf,cd,cg⟩=>?_) (by rw[hs];rfl) I))
 ·have h':eV ae H fun x H1=>∃a xs,x=.ref a/\c3 X.K H1 a xs/\R (sl X.K a xs) H1:=h
  show eV ae H fun x H1=>∃y,[x]=[y]/\_
  exact cast (congrArg (eV ae H) (funext fun x=>funext fun H1=>propext ⟨fun q=>⟨x,I,q⟩,fun⟨y,e,q⟩=>by cases e;exact q⟩)) h'
 ·obtain⟨x,rfl,a,xs,rfl,aY,q⟩:=cg
  obtain⟨u,rfl,fc⟩:=vals1 cd
  obtain rfl:u=ar.ref a:=fc
  obtain⟨bj,dN,pl,bL⟩:=bf.list aY
  have iA:a<s1.heap.objs.size:=by obtain⟨o,aL,_⟩:=pl.isList;exact eu aL
  refine call_enumerate_list pl.isList fun h' he aJ g7 eK=>?_
  have bE:Inv X ak ae H1 {s1 with heap:=h'}:=bf.kept (t':=s1.toks) eK
  refine wpAny_pyIter_enum he ?_
  refine⟨_,[s1.heap.objs.size+1,s1.heap.objs.size],_,_,H1,I,bE,XX a _ _ xs (Nat.succ_ne_self _) (fU (Nat.lt_succ_of_lt iA)) (fU iA),⟨UF _,⟨_,he⟩,aJ⟩,fun b aj=>?_,q⟩
  rcases cR.mp aj with z|z
  .subst z;exact bf.og (by omega) (bf.aT.fresh (by omega))
  ·obtain rfl:=ft.mp z
   exact bf.og (cE _) (bf.aT.fresh (cE _))
theorem Zg{D:Ends}(Pv:Nat->St->aq->Prop)(bg:Pv 0 ae H)(aC:∀i ae H,i<=xs.length->Pv i ae H->c3 K H a xs)
  (hs:∀i x ae H T,xs[i]?=J x->H T=av->Pv i ae H->g (.ref T) ae (upd H T (.tup [.int (i:Nat),x])) fun bC ax=>dp {D with nx:=Pv (i+1),ct:=Pv (i+1),bk:=D.nx} bC ax) (hd:∀ae H,Pv xs.length ae H->D.nx ae H) :
  ∃W:Nat->Nat->St->aq->Prop,(∃m,W 0 m ae H)/\∀i m ae H,W i m ae H->
   ((sl K a xs).stop i H/\D.nx ae H)\/((sl K a xs).go i H/\∃N:St->aq->Prop,(∀bR H',N bR H'->∃bY,bY<m/\W (i+1) bY bR H')/\∀x H',(sl K a xs).pI i H x H'->g x ae H' fun bC ax=>dp {D with nx:=N,ct:=N,bk:=D.nx} bC ax):=by
 refine⟨fun i m ae H=>i<=xs.length/\m=xs.length-i/\Pv i ae H,⟨xs.length,UF _,I,bg⟩,?_⟩
 rintro i m ae H ⟨al,rfl,aw⟩
 rcases hv i xs.length with z|z
 ·refine .inr ⟨⟨aC i ae H al aw,z⟩,Pv (i+1),fun bR H' q=>⟨xs.length-(i+1),by omega,by omega,rfl,q⟩,?_⟩
  rintro x H' ⟨T,y,cc,bV,rfl,rfl⟩
  exact hs i y ae H T bV cc aw
 ·have e:i=xs.length:=by omega
  subst e
  exact .inl ⟨⟨aC _ ae H (cE _) aw,cE _⟩,hd ae H aw⟩
end
end cN
end
section
namespace dG
open PySem cN
noncomputable def more:List Int->List Bool
 |[]=>[aA]
 |b::r=>au::(cnt (b-1).toNat++more r).map (!·)
noncomputable def j8:List Int->List Bool
 |[]=>[]
 |a::r=>ha a++more r
noncomputable def odd(k:Nat):Bool:=decide (k%2=1)
theorem Bh(k:Nat):odd (k+1)=!odd k:=by
 unfold odd
 have h:k%2=0\/k%2=1:=by omega
 rcases h with h|h
 ·have:(k+1)%2=1:=by omega
  simp[h,this]
 ·have:(k+1)%2=0:=by omega
  simp[h,this]
noncomputable def h4(k:Nat)(x:Int)(last:Bool):List Bool:=((if k=0 then ha x else cnt (x-1).toNat)++[!last]).map (xor (odd k))
noncomputable def gT:Nat->List Int->List (List Bool)
 |_,[]=>[]
 |k,x::r=>h4 k x r.isEmpty::gT (k+1) r
theorem Fh(k:Nat)(s:List Int):(gT k s).length=s.length:=by
 induction s generalizing k with
 |nil=>rfl
 |cons x r bQ=>simp only[gT,eA,bQ]
theorem Me{s:List Int}{x:Int}(h:s[i]?=J x):(gT k s)[i]?=J (h4 (k+i) x (decide (i+1=s.length))):=by
 induction s generalizing k i with
 |nil=>cases h
 | cons y r bQ =>
  cases i with
  |zero =>
   cases h
   show J (h4 k x r.isEmpty)=_
   congr 2
   cases r<;>simp
  |succ i =>
   have h':r[i]?=J x:=h
   have:=bQ (k:=k+1) h'
   show(gT (k+1) r)[i]?=_
   rw[this]
   congr 2
   .omega
   .simp
theorem YO(l:List Bool)(t:Bool):(l.map (!·)).map (xor t)=l.map (xor (!t)):=by
 rw[fV]
 exact nd fun b _=>by cases t<;>cases b<;>rfl
theorem Y7(hk:k≠0)(b:Int)(r:List Int):(gT k (b::r)).flatten=(cnt (b-1).toNat++more r).map (xor (odd k)):=by
 induction r generalizing k b with
 |nil =>
  show(h4 k b au++[])=_
  rw[List.append_nil]
  unfold h4
  rw[if_neg hk];rfl
 |cons c r bQ =>
  show h4 k b aA++(gT (k+1) (c::r)).flatten=_
  rw[bQ (by omega) c]
  unfold h4
  rw[if_neg hk,Bh,more,<-YO,<-gf,h9];rfl
theorem Td(a:Int)(r:List Int):(gT 0 (a::r)).flatten=j8 (a::r):=by
 have eY:∀l:List Bool,l.map (xor (odd 0))=l:=fun l=>xv l
 cases r with
 |nil =>
  show(h4 0 a au++[])=_
  rw[List.append_nil]
  unfold h4
  rw[if_pos rfl,eY];rfl
 |cons b r =>
  show h4 0 a aA++(gT 1 (b::r)).flatten=_
  rw[Y7 (by decide)]
  unfold h4
  rw[if_pos rfl,eY]
  show _=ha a++(au::(cnt (b-1).toNat++more r).map (!·))
  rw[h9]
  congr 1
  show au::List.map (xor (odd 1)) _=au::_
  congr 1
  exact nd fun b _=>by cases b<;>rfl
noncomputable def eF(p q:Int):Int:=if h:0<q then eF q (p%q)else p
termination_by q.toNat
decreasing_by
 have:=hL p h
 have:=hu p (Int.ne_of_gt h)
 omega
theorem BC{p q:Int}(h:0<q):eF p q=eF q (p%q):=by rw[eF,dif_pos h]
theorem xE(p:Int):eF p 0=p:=by rw[eF,dif_neg (by decide)]
end dG
namespace cN
open PySem PySem.Spec PyProof.Rows
theorem Sub.trans'{X:aq}(a:Sub H H1 X)(b:Sub H1 ax H'):Sub H ax H' :=
 ⟨b.le,fun c o e=>let ⟨u,da⟩:=a.ge c o e;b.ge c u da,fun z=>b.cl (a.cl z)⟩
theorem Sub.HS{ai r:ag}{fs:List (ah×V)}(h:H p=J (.ins C ai fs))(az:H r=av)(hs:∀b u,b≠p->H b=J u->H' b=J u)(e:H' p=J (.ins C ai oh))(l5:H' r=J o)(aL:lp (upd (upd H p (.ins C ai oh)) r o) r o):
  Sub H (upd (upd H p (.ins C ai oh)) r o) H':=by
 have acJ:r≠p:=fun z=>by rw[z,h]at az;cases az
 refine Sub.trans' (Sub.ins h hs e) (.new (by rw[bt acJ];exact az) (fun b u q=>?_) l5 aL)
 by_cases z:b=p
 .subst z;rw[aG]at q;cases q;exact e
 .rw[bt z]at q;exact hs b u z q
end cN
end
section
namespace dG
open PySem cN
end dG
end
section
namespace cN
open PySem PySem.W PySem.Spec PyProof.Rows
theorem uP{Q:bG}{D:ag}(gI:Nat->V)(S:St->Prop)(bL:xs.length<=bU)(bg:S fo)(c0:H D=av)(aC:c3 K H a xs)
  (bo:∀i x,xs[i]?=J x->∀bO H1,S bO->d7 H H1->∀R:St->V->aq->Prop,(∀bC,S bC->R bC (gI i) H1)->g x bO H1 fun bC ax=>cL bC ax fun y bJ=>R bC y bJ)
  (aY:Q (.ref D) (upd H D (.lst ((List.range xs.length).map gI)))) :
  mu (pT K a) g pF cL Q fo H D:=by
 refine⟨fun i m bO ax=>i<=xs.length/\m=xs.length-i/\S bO/\ax=upd H D (.lst ((List.range i).map gI)),⟨xs.length,UF _,I,bg,I⟩,?_⟩
 rintro i m bO ax ⟨al,rfl,aw,rfl⟩
 have gR:=(dc (o :=.lst ((List.range i).map gI)) c0).seq aC
 rcases hv i xs.length with z|z
 ·refine .inr ⟨⟨xs,xs[i],gR,c4 z⟩,?_⟩
  rintro x bJ ⟨rfl,ay⟩
  have ay:=ay xs gR
  refine bo i x ay bO _ aw (dc c0) (fun bC y d5=>∃aN bY,d5 D=J (.lst aN)/\aN.length<bU/\bY<xs.length-i/\(i+1<=xs.length/\bY=xs.length-(i+1)/\S bC/\upd d5 D (.lst (aN++[y]))=upd H D (.lst ((List.range (i+1)).map gI)))) fun bC eN=>?_
  refine⟨_,xs.length-(i+1),aG,by rw[cq,kx];omega,by omega,by omega,rfl,eN,?_⟩
  rw[fX,List.range_succ,gf];rfl
 ·have e:i=xs.length:=by omega
  subst e
  exact .inl ⟨⟨xs,gR,cE _⟩,aY⟩
end cN
end
section
namespace dG
open PySem cN
noncomputable def mp:List Int->List Bool
 |[]=>[]
 |b::r=>au::(cnt (b-1).toNat++mp r).map (!·)
def Lt(a b:List Bool):Prop:=(aR a).cps.toList<(aR b).cps.toList
noncomputable instance (a b:List Bool):Decidable (Lt a b):=inferInstanceAs (Decidable (_<_))
theorem MI(a:List Bool):¬Lt a []:=by
 unfold Lt;rw[jG,jG];exact List.not_lt_nil _
theorem MF(y:Bool)(b:List Bool):Lt [] (y::b):=by
 unfold Lt;rw[jG,jG];exact List.nil_lt_cons _ _
variable {a:List Bool}
theorem Gg{x y:Bool}{b:List Bool}:Lt (x::a) (y::b)↔(x=aA/\y=au)\/(x=y/\Lt a b):=by
 unfold Lt
 rw[jG,jG,jG,jG,gF,gF,List.cons_lt_cons_iff]
 cases x<;>cases y<;>simp[l2]
theorem Ka{b c:List Bool}(h:Lt a b)(aw:Lt b c):Lt a c:=List.lt_trans h aw
theorem MG(a b:List Bool):Lt a b\/a=b\/Lt b a:=by
 induction a generalizing b with
 |nil=>cases b with
  |nil=>exact .inr (.inl I)
  |cons y b=>exact .inl (MF y b)
 | cons x a bQ=>cases b with
  |nil=>exact .inr (.inr (MF x a))
  |cons y b =>
   rw[Gg,Gg]
   rcases bQ b with h|h|h
   .cases x<;>cases y<;>simp[h]
   .subst h;cases x<;>cases y<;>simp
   .cases x<;>cases y<;>simp[h]
noncomputable def fP:List Bool->List Bool->Nat
 |x::a,y::b=>if x=y then fP a b+1 else 0
 |_,_=>0
theorem Uk{b:List Bool}:∀{m:Nat},m<fP a b->∃x,a[m]?=J x/\b[m]?=J x:=by
 induction a generalizing b with
 |nil=>intro m h;exact absurd h (by cases b<;>exact Nat.not_lt_zero _)
 | cons x a bQ =>
  cases b with
  |nil=>intro m h;exact absurd h (Nat.not_lt_zero _)
  | cons y b =>
   intro m h
   unfold fP at h
   split at h
   ·rename_i e
    subst e
    cases m with
    |zero=>exact⟨x,I,I⟩
    |succ m=>exact bQ (b:=b) (by omega)
   .exact absurd h (Nat.not_lt_zero _)
theorem F4{b:List Bool}:fP a b<=a.length/\fP a b<=b.length:=by
 induction a generalizing b with
 |nil=>cases b<;>exact⟨UF _,UF _⟩
 | cons x a bQ =>
  cases b with
  |nil=>exact⟨UF _,UF _⟩
  |cons y b =>
   unfold fP
   split
   .exact⟨Nat.succ_le_succ bQ.1,Nat.succ_le_succ bQ.2⟩
   .exact⟨UF _,UF _⟩
theorem TG(a b:List Bool):fP a b=a.length\/fP a b=b.length\/∃x y,a[fP a b]?=J x/\b[fP a b]?=J y/\x≠y:=by
 induction a generalizing b with
 |nil=>left;cases b<;>rfl
 | cons x a bQ =>
  cases b with
  |nil=>right;left;rfl
  | cons y b =>
   unfold fP
   split
   ·rcases bQ b with h|h|⟨u,v,al,aw,bq⟩
    .left;rw[h];rfl
    .right;left;rw[h];rfl
    .right;right;exact⟨u,v,al,aw,bq⟩
   ·rename_i e
    exact .inr (.inr ⟨x,y,I,I,e⟩)
theorem T6{b:List Bool}(h:Lt a b):fP a b<b.length:=by
 induction a generalizing b with
 |nil=>cases b with
  |nil=>exact absurd h (MI _)
  |cons y b=>exact Nat.succ_pos _
 | cons x a bQ =>
  cases b with
  |nil=>exact absurd h (MI _)
  | cons y b =>
   unfold fP
   split
   ·rename_i e
    rcases Gg.mp h with⟨al,aw⟩|⟨_,h'⟩
    .rw[<-e,al]at aw;cases aw
    .exact Nat.succ_lt_succ (bQ h')
   .exact Nat.succ_pos _
end dG
end
variable {aN:List cN.V}
section
namespace cN
open PySem PySem.W PySem.Spec PyProof.Rows
section
variable {X:bA}
theorem Ye:d6 X (hS .LtE) (fun x y H Q=>z4 x y fun i j=>Q (.aE (!decide (j.cps.toList<i.cps.toList))) H):=by
 intro ak s ae H x y u v Q aa fc dN h
 obtain⟨i,j,rfl,rfl,q⟩:=h
 obtain⟨t,rfl⟩:=fc
 obtain⟨t',rfl⟩:=dN
 exact PySem.P.le_str (eX aa q I)
end
noncomputable def zF(K:bK)(a b:ag)(xs aN:List V):ko :=
 ⟨fun i H=>c3 K H a xs/\c3 K H b aN/\i<min xs.length aN.length,fun i H x H'=>∃(T:ag)(u v:V),H T=av/\xs[i]?=J u/\aN[i]?=J v/\x=.ref T/\H'=upd H T (.tup [u,v]),fun i H=>c3 K H a xs/\c3 K H b aN/\min xs.length aN.length<=i⟩
theorem YP(a b z dJ di d9 df:ag)(xs aN:List V)(D:ZipApart z dJ di d9 df a b):
  Turn P w K (.Tuple elts k aV) (zF K a b xs aN) [z,dJ,di,d9,df] z (fun i h=>i<=min xs.length aN.length/\IsZip h z dJ di .none/\IsPair h dJ (.ref d9) (.ref df)/\(∃a b,IsPair h di a b)/\h.IsListIter d9 a i/\h.IsListIter df b i) where
 mem:=by simp
 obj:=fun i h st c hc=>by
  obtain⟨_,ir,iV,⟨p,q,kj⟩,nL,jz⟩:=st
  rcases cR.mp hc with e|hc
  .subst e;exact⟨_,ir,fun v z=>by cases z⟩
  rcases cR.mp hc with e|hc
  .subst e;exact⟨_,iV,fun v z=>by cases z⟩
  rcases cR.mp hc with e|hc
  .subst e;exact⟨_,kj,fun v z=>by cases z⟩
  rcases cR.mp hc with e|hc
  ·subst e
   obtain⟨o,e,c,d⟩:=nL
   exact⟨o,e,fun v z=>by rw[d]at z;cases z⟩
  ·obtain rfl:=ft.mp hc
   obtain⟨o,e,c,d⟩:=jz
   exact⟨o,e,fun v z=>by rw[d]at z;cases z⟩
 keep:=fun i h h' st k=>by
  obtain⟨aJ,ir,iV,⟨p,q,kj⟩,nL,jz⟩:=st
  exact⟨aJ,k z (by simp) _ ir,k dJ (by simp) _ iV,⟨p,q,k di (by simp) _ kj⟩,nL.at fun o e=>k d9 (by simp) o e,jz.at fun o e=>k df (by simp) o e⟩
 item:=by
  intro X cP hw gm hc i ak s ae H E aa aH st bb
  subst cP hw gm
  obtain⟨oy,mQ,aJ⟩:=bb
  obtain⟨iq,oG,dm,yC⟩:=aa.list oy
  obtain⟨fS,oH,cD,yD⟩:=aa.list mQ
  have Hi:=oG.length
  have Hj:=oH.length
  have W:=WalksT.zip2 (prog:=X.prog) (w:=X.w) (aa.ok.hd hc) z dJ di d9 df a b D iq.toArray fS.toArray
  refine W.item i s _ _ (by rw[eH,eH];omega) ⟨st.2.1,st.2.2.1,st.2.2.2.1,st.2.2.2.2.1,st.2.2.2.2.2,dm.isList,cD.isList⟩ fun T vals h' dg b5 cc HI mid eK=>?_
  refine⟨_,I,W.go elts k aV i T _ _ _ mid fun GQ hR yF=>?_⟩
  obtain⟨gc,dt,qv,qw,rfl⟩:=b5
  have HL:iq[i]?=J gc:=by simpa using qv
  have HM:fS[i]?=J dt:=by simpa using qw
  have lM:xs[i]?=J (xs[i]'(by omega)):=c4 _
  have yB:aN[i]?=J (aN[i]'(by omega)):=c4 _
  obtain⟨v1,kC,qE⟩:=oG.get lM
  obtain⟨v2,lK,eO⟩:=oH.get yB
  rw[HL]at kC;cases kC
  rw[HM]at lK;cases lK
  have ya:=aa.aT.fresh cc
  have hn:T∉[z,di,d9,df]:=W.apart i T h' mid
  have CB:∀c∈[z,dJ,di,d9,df],c≠T:=fun c eS e=>by
   subst e
   rcases cR.mp eS with e|eS
   .exact hn (by rw[e];simp)
   rcases cR.mp eS with e|eS
   ·have bg:=eu st.2.2.1
    rw[<-e]at bg
    exact absurd (e3 bg cc) (Nat.lt_irrefl _)
   .exact hn (dP _ eS)
  refine⟨.ref T,upd H T (.tup [xs[i]'(by omega),aN[i]'(by omega)]),?_,I,⟨T,_,_,ya,lM,yB,I,I⟩,⟨by omega,hR.1,hR.2.1,hR.2.2.1,hR.2.2.2.1,hR.2.2.2.2.1⟩,fun c eS=>?_⟩
  ·refine aa.Dd (ch:=[z,di,d9,df]) (t':=dg) (fun c o nA qf=>yF c o nA (eK c o nA qf)) (fun c eS=>aH c ?_) cc ?_
   ·rcases cR.mp eS with e|eS
    .rw[e];simp
    .exact dP _ (dP _ eS)
   refine⟨by show 2<=bU;decide,[gc,dt],.cons qE (.cons eO .nil),?_⟩
   obtain⟨o,aL,r⟩:=HI
   exact⟨o,yF T o hn aL,r⟩
  ·rw[bt (CB c eS)]
   exact(aH c eS).1
 done:=by
  intro X cP hw gm hc i ak s ae H E aa aH st bb
  subst cP hw gm
  obtain⟨oy,mQ,aJ⟩:=bb
  obtain⟨iq,oG,dm,yC⟩:=aa.list oy
  obtain⟨fS,oH,cD,yD⟩:=aa.list mQ
  have Hi:=oG.length
  have Hj:=oH.length
  have W:=WalksT.zip2 (prog:=X.prog) (w:=X.w) (aa.ok.hd hc) z dJ di d9 df a b D iq.toArray fS.toArray
  have eR:i=min iq.toArray.size fS.toArray.size:=by rw[eH,eH];have:=st.1;omega
  subst eR
  refine W.done s _ _ ⟨st.2.1,st.2.2.1,st.2.2.2.1,st.2.2.2.2.1,st.2.2.2.2.2,dm.isList,cD.isList⟩ fun h' dg eK=>⟨I,aa.Jg (t':=dg) eK fun c eS=>aH c ?_⟩
  rcases cR.mp eS with e|eS
  .rw[e];simp
  .exact dP _ (dP _ eS)
 self:=fun A i s Q E st h=>wpAny_pyIter_zip st.2.1 h
section
variable {X:bA}
def adl(K:bK)(cf:gx):dJ:=fun ae H R=>cf ae H fun vs H1=>∃a b xs aN,vs=[.ref a,.ref b]/\c3 K H1 a xs/\c3 K H1 b aN/\R (zF K a b xs aN) H1
theorem MB{l m:cu}{p:Pos}(bb:h6 X "zip")(hm:X.mg "zip"=av)(bh:hr X [l,m] cf)(hs:dr [l,m] X.env=[(aA,eval l X.env),(aA,eval m X.env)]:=by rfl)(fl:dr [m] X.env=[(aA,eval m X.env)]:=by rfl):
  i2 X (.Tuple elts k rQ) (.Call (.Name "zip" p) [l,m] [] aV) (adl X.K cf):=by
 intro ak s ae H R aa h
 refine Call_ (nj aa bb hm boot_zip (PyProof.Rows.callWith_type1 (cU (bh aV ak s ae H (fun vs H1=>∃a b xs aN,vs=[.ref a,.ref b]/\c3 X.K H1 a xs/\c3 X.K H1 b aN/\R (zF X.K a b xs aN) H1) aa h) fun us s1 ⟨vs,H1,bf,cd,cg⟩=>?_) (by rw[hs,fl]) (by rw[fl];rfl)))
 obtain⟨a,b,xs,aN,rfl,oy,mQ,q⟩:=cg
 obtain⟨gc,dt,rfl,qE,eO⟩:=vals2 cd
 obtain rfl:gc=ar.ref a:=qE
 obtain rfl:dt=ar.ref b:=eO
 obtain⟨iq,oG,dm,yC⟩:=bf.list oy
 obtain⟨fS,oH,cD,yD⟩:=bf.list mQ
 have dE:a<s1.heap.objs.size:=by obtain⟨o,aL,_⟩:=dm.isList;exact eu aL
 have dM:b<s1.heap.objs.size:=by obtain⟨o,aL,_⟩:=cD.isList;exact eu aL
 refine call_zip_2 dm.isList cD.isList fun h' du dy hI zp uu g7 eK=>?_
 have bE:Inv X ak ae H1 {s1 with heap:=h'}:=bf.kept (t':=s1.toks) eK
 refine wpAny_pyIter_zip du ?_
 refine⟨_,_,_,_,H1,I,bE,YP a b _ _ _ _ _ xs aN (zipApart_new dE dM),⟨UF _,du,dy,⟨_,_,hI⟩,zp,uu⟩,fun c hc=>?_,q⟩
 have mc:s1.heap.objs.size<=c:=by
  rcases cR.mp hc with e|hc
  .rw[e];exact Nat.le_add_right ..
  rcases cR.mp hc with e|hc
  .rw[e];exact Nat.le_add_right ..
  rcases cR.mp hc with e|hc
  .rw[e];exact Nat.le_add_right ..
  rcases cR.mp hc with e|hc
  .rw[e];exact cE _
  .rw[ft.mp hc];exact Nat.le_add_right ..
 exact bf.og mc (bf.aT.fresh mc)
end
theorem L4{b:ag}{Q:bG}{D:ag}(gI:Nat->V)(S:St->Prop)(bL:min xs.length aN.length<=100000)(bg:S fo)(c0:H D=av)(jx:c3 K H a xs)(gR:c3 K H b aN)
  (bo:∀i x y,xs[i]?=J x->aN[i]?=J y->∀bO H1 T,S bO->d7 H H1->H1 T=av->∀R:St->V->aq->Prop,(∀bC bJ,S bC->d7 (upd H1 T (.tup [x,y])) bJ->R bC (gI i) bJ)->g (.ref T) bO (upd H1 T (.tup [x,y])) fun bC ax=>cL bC ax fun z bJ=>R bC z bJ)
  (aY:∀H':aq,d7 H H'->H' D=J (.lst ((List.range (min xs.length aN.length)).map gI))->Q (.ref D) H') :
  mu (zF K a b xs aN) g pF cL Q fo H D:=by
 refine⟨fun i m bO ax=>i<=min xs.length aN.length/\m=min xs.length aN.length-i/\S bO/\d7 H ax/\ax D=J (.lst ((List.range i).map gI)),⟨min xs.length aN.length,UF _,I,bg,dc c0,aG⟩,?_⟩
 rintro i m bO ax ⟨al,rfl,aw,hs,je⟩
 have cg:=hs.seq jx
 have cj:=hs.seq gR
 rcases hv i (min xs.length aN.length)with z|z
 ·refine .inr ⟨⟨cg,cj,z⟩,?_⟩
  rintro x bJ ⟨T,u,v,cc,da,b5,rfl,rfl⟩
  refine bo i u v da b5 bO ax T aw hs cc (fun bC y d5=>∃zs bY,d5 D=J (.lst zs)/\zs.length<bU/\bY<min xs.length aN.length-i/\(i+1<=min xs.length aN.length/\bY=min xs.length aN.length-(i+1)/\S bC/\d7 H (upd d5 D (.lst (zs++[y])))/\upd d5 D (.lst (zs++[y])) D=J (.lst ((List.range (i+1)).map gI)))) fun bC d5 eN ro=>?_
  have Ib:D≠T:=fun e=>by rw[e,cc]at je;cases je
  refine⟨(List.range i).map gI,min xs.length aN.length-(i+1),ro _ _ (by rw[bt Ib];exact je),?_,by omega,by omega,rfl,eN,?_,?_⟩
  ·rw[cq,kx]
   exact e3 (show i<100000 by omega) (by decide)
  ·intro c o e
   rw[bt (eB e c0)]
   refine ro c o ?_
   rw[bt (fun e'=>by rw[e',hs.free cc]at e;cases e)]
   exact hs c o e
  .rw[aG,List.range_succ,gf];rfl
 ·have e:i=min xs.length aN.length:=by omega
  subst e
  exact .inl ⟨⟨cg,cj,cE _⟩,aY ax hs je⟩
end cN
end
variable {r:List Bool} {rs:List (List Bool)}
section
namespace dG
open PySem cN
noncomputable def ent(a r:List Bool):List Bool:=cnt (fP a r)++cnt (r.length-fP a r)++r.drop (fP a r)
noncomputable def ents:List Bool->List (List Bool)->List Bool
 |_,[]=>[]
 |a,r::rs=>ent a r++ents r rs
noncomputable def yW(rs:List (List Bool)):List Bool:=cnt rs.length++ents [] rs
noncomputable def nT:List (List Bool)->Prop
 |[]=>True
 |[_]=>True
 |a::b::r=>Lt a b/\nT (b::r)
variable {a:List Bool} {r:List (List Bool)}
theorem SJ(h:nT (a::r)):nT r:=by
 cases r with
 |nil=>trivial
 |cons b r=>exact h.2
theorem TM(h:nT (a::r)):∀b∈r,Lt a b:=by
 induction r generalizing a with
 |nil=>intro b aj;cases aj
 |cons x r bQ =>
  intro b aj
  rcases cR.mp aj with e|aj
  .rw[e];exact h.1
  .exact Ka h.1 (bQ h.2 b aj)
noncomputable def vB:List (List Bool)->Bool
 |[]=>au
 |[_]=>au
 |a::b::r=>decide (Lt a b)&&vB (b::r)
theorem SM(rs:List (List Bool)):vB rs=au↔nT rs:=by
 induction rs with
 |nil=>exact⟨fun _=>trivial,fun _=>I⟩
 | cons a r bQ =>
  cases r with
  |nil=>exact⟨fun _=>trivial,fun _=>I⟩
  |cons b r =>
   rw[vB,nT,jD,bQ,decide_eq_true_iff]
theorem SK(h:nT r)(aw:∀b,r[0]?=J b->Lt a b):nT (a::r):=by
 cases r with
 |nil=>trivial
 |cons b r=>exact⟨aw b I,h⟩
theorem Xu(r:List Bool)(k:Nat)(h:k<=r.length):Txt.slice (aR r) (J (k:Int)) av=aR (r.drop k):=by
 rw[La]
 congr 1
 have aU:el.fF r.length 0 (J (k:Int))=k:=by
  unfold el.fF
  show(if(k:Int)<0 then _ else _)=_
  rw[if_neg (by omega)]
  omega
 have ba:el.fF r.length r.length av=r.length:=rfl
 rw[aU,ba,UV (by rw[kv];omega)]
noncomputable abbrev c2(rs:List (List Bool)):List V:=rs.map fun r=>V.str (aR r)
theorem i8(rs:List (List Bool)):(c2 rs).length=rs.length:=cq ..
theorem Kd{r:List Bool}(h:rs[i]?=J r):(c2 rs)[i]?=J (.str (aR r)):=by rw[e4,h];rfl
theorem Up(xs aN:List (List Bool)):c2 (xs++aN)=c2 xs++c2 aN:=gf ..
theorem L0(rs:List (List Bool)):∀a,ents a rs=((List.range rs.length).map fun i=>ent ((a::rs).getD i []) (rs.getD i [])).flatten:=by
 induction rs with
 |nil=>intro a;rfl
 |cons r rs bQ =>
  intro a
  rw[ents,bQ r,eA,List.range_succ_eq_map,gF,lx,fV]
  rfl
end dG
end
section
namespace cN
open PySem PySem.W PySem.Spec PyProof.Rows
section
variable {X:bA}
end
end cN
end
section
namespace dG
open PySem cN
theorem BG:nT rs↔rs.Pairwise Lt:=by
 induction rs with
 |nil=>exact⟨fun _ =>.nil,fun _=>trivial⟩
 | cons a r bQ =>
  constructor
  .intro h;exact .cons (TM h) (bQ.mp (SJ h))
  ·intro h
   have h':=List.pairwise_cons.mp h
   exact SK (bQ.mpr h'.2) fun b aj=>h'.1 b (hY aj)
theorem X9:∀{l gq:List ah},l.Perm gq->∀{rs:List (List Bool)},l=rs.map aR->∃ss,gq=ss.map aR/\rs.Perm ss:=by
 intro l gq h
 induction h with
 |nil=>intro rs e;exact⟨[],I,by cases rs with|nil=>exact .refl _|cons a r=>cases e⟩
 | cons x _ bQ =>
  intro rs e
  cases rs with
  |nil=>cases e
  |cons a r =>
   obtain⟨aU,ba⟩:=List.cons.inj e
   obtain⟨ss,al,aw⟩:=bQ ba
   exact⟨a::ss,by rw[al,aU];rfl,.cons a aw⟩
 | swap x y l =>
  intro rs e
  match rs,e with
  |a::b::r,e =>
   obtain⟨aU,ba⟩:=List.cons.inj e
   obtain⟨eM,f7⟩:=List.cons.inj ba
   exact⟨b::a::r,by rw[aU,eM,f7];rfl,.swap b a r⟩
 |trans _ _ adn ado =>
  intro rs e
  obtain⟨ss,al,aw⟩:=adn e
  obtain⟨iW,bq,b4⟩:=ado al
  exact⟨iW,bq,aw.trans b4⟩
end dG
namespace cN
open PySem PySem.W PySem.Spec PyProof.Rows
section
variable {X:bA}
theorem LH:∀{vs:List ar}{rs:List (List Bool)},Vals (dG.c2 rs) vs->StrsAre vs (rs.map dG.aR)
 |[],[],_ =>.nil
 | v::vs,b::ns,h=>by
  cases h with
  |cons a r =>
   obtain⟨t,rfl⟩:=(show ∃t,v=ar.str (dG.aR b) t from a)
   exact .cons _ _ (LH r)
 |[],_::_,h=>by cases h
 |_::_,[],h=>by cases h
theorem K8:∀{vs:List ar}{rs:List (List Bool)},StrsAre vs (rs.map dG.aR)->Vals (dG.c2 rs) vs
 |[],[],_ =>.nil
 |v::vs,b::ns,h=>by
  cases h with
  |cons x t r=>exact .cons ⟨t,I⟩ (K8 r)
 |[],_::_,h=>by cases h
 |_::_,[],h=>by cases h
end
end cN
end
section
namespace cN
open PySem PySem.W PySem.Spec PyProof.Rows
section
variable {X:bA}
noncomputable def aeS:=d6.or (tP (X:=X)) (Ye (X:=X))
end
end cN
end
section
namespace dG
open PySem cN
end dG
end
section
namespace cN
open PySem PySem.W PySem.Spec PyProof.Rows
end cN
end
section
namespace dG
open PySem
end dG
end
section
namespace cN
open PySem PySem.Spec
section
variable {w:cM} {aK BX:Array (Int×ar)} {t t':SetTable} {yG:List ah}
end
section
variable {prog:c6} {w:cM} {A:dq} {E:ar->aM->Prop} {s:aM} {a:ag} {aK:Array (Int×ar)} {fK:Nat} {t:SetTable} {yG:List ah}
end
section
variable {prog:c6} {w:cM} {A:dq} {E:ar->aM->Prop} {s:aM} {a:ag} {aK:Array (Int×ar)} {fK:Nat} {t:SetTable} {yG:List ah}
end
section
variable {prog:c6} {w:cM} {A:dq} {E:ar->aM->Prop} {s:aM} {a aa p:ag} {aK:Array (Int×ar)} {fK:Nat} {t:SetTable} {yG:List ah}
end
end cN
end
section
namespace cN
open PySem PySem.Spec PyProof.Rows
section
variable {prog:c6} {w:cM} {A:dq} {E:ar->aM->Prop} {s:aM} {a:ag} {aK:Array (Int×ar)} {fK:Nat} {t:SetTable} {yG:List ah}
end
end cN
end
section
namespace cN
open PySem PySem.W PySem.Spec PyProof.Rows
variable {Q:bG}
theorem KV{D:ag}(keep:Nat->Bool)(f:Nat->V)(S:St->Prop)(aZ:n<=100000)(bg:S fo)(c0:H D=av)
  (bo:∀i:Nat,i<n->∀bO H1,S bO->d7 H H1->∀(R:St->V->aq->Prop)(kt:St->aq->Prop),(∀bC,S bC->if keep i=au then R bC (f i) H1 else kt bC H1)->g (.int (lo+(i:Int))) bO H1 fun bC ax=>gu bC ax fun b bJ=>if b=au then cL bC bJ fun y gv=>R bC y gv else kt bC bJ)
  (aY:Q (.ref D) (upd H D (.lst (((List.range n).filter keep).map f)))) :
  mu (sm lo n) g gu cL Q fo H D:=by
 refine⟨fun i m bO ax=>i<=n/\m=n-i/\S bO/\ax=upd H D (.lst (((List.range i).filter keep).map f)),⟨n,UF _,I,bg,I⟩,?_⟩
 rintro i m bO ax ⟨al,rfl,aw,rfl⟩
 rcases hv i n with z|z
 ·refine .inr ⟨z,?_⟩
  rintro x bJ ⟨rfl,rfl⟩
  refine bo i z bO _ aw (dc c0) (fun bC y d5=>∃aN bY,d5 D=J (.lst aN)/\aN.length<bU/\bY<n-i/\(i+1<=n/\bY=n-(i+1)/\S bC/\upd d5 D (.lst (aN++[y]))=upd H D (.lst (((List.range (i+1)).filter keep).map f))))
   (fun bC fB=>∃bY,bY<n-i/\(i+1<=n/\bY=n-(i+1)/\S bC/\fB=upd H D (.lst (((List.range (i+1)).filter keep).map f)))) fun bC eN=>?_
  by_cases hk:keep i=au
  ·rw[if_pos hk]
   refine⟨_,n-(i+1),aG,?_,by omega,by omega,rfl,eN,?_⟩
   ·rw[cq]
    have:=List.length_filter_le keep (List.range i)
    rw[kx]at this
    exact Nat.lt_of_le_of_lt this (e3 (show i<100000 by omega) (by decide))
   .rw[fX,List.range_succ,List.filter_append,gf,List.filter_cons_of_pos hk];rfl
  ·rw[if_neg hk]
   refine⟨n-(i+1),by omega,by omega,rfl,eN,?_⟩
   rw[List.range_succ,List.filter_append,gf,List.filter_cons_of_neg hk];simp
 ·have e:i=n:=by omega
  subst e
  exact .inl ⟨cE _,aY⟩
section
variable {X:bA} {e jc ajw aK:cu} {cL eV pG iW:TE} {cD aV:Pos}
end
structure lZ(K:bK)(C:ag):Prop where
 makes:zr K C=au
 init:e2 K (.ref C) "__init__"=J (J (.builtin "object.__init__"))
 kD:pJ K (.ref C)=au
variable {c:Int}
section
variable {X:bA} {C:ag} {x:ah} {p aV:Pos}
theorem X3(M:lZ X.K C)(aa:Inv X ak ae H s)(h:∀x ai,H x=av->H ai=av->ai≠x->Q (.ref x) (upd (upd H ai (.own x)) x (.ins C ai []))):
  bP (model X.prog X.w) X.A (call (.ref C) []) (iv X ak ae Q) X.xe s:=by
 have aY:=h (s.heap.objs.size+1) s.heap.objs.size (aa.aT.fresh (Nat.le_succ _)) (aa.aT.fresh (cE _)) (fU (Nat.lt_succ_self _))
 have bE:=Inv.made (C:=C) aa
 have Y:=makes_of (M:=model X.prog X.w) aa.fT M.makes
 refine ux (Yl aa.fT M.makes M.init (fun self=>Looks.of_pure (oi_bind self)) ?_)
 have ba:((s.heap.push mn).push (mq C s.heap.objs.size)).get? (s.heap.objs.size+1)=J (mq C s.heap.objs.size):=by
  have:=hi (s.heap.push mn) (o:=mq C s.heap.objs.size) rfl
  rwa [br.size_push]at this
 have t1:Looks (model X.prog X.w) ((s.heap.push mn).push (mq C s.heap.objs.size)) (typeOf (.ref (s.heap.objs.size+1))) (.ref C):=(Looks.ld ba).andThen .now
 have gV:Looks (model X.prog X.w) ((s.heap.push mn).push (mq C s.heap.objs.size)) (isInstance (.ref (s.heap.objs.size+1)) (.type "object")) au:=t1.andThen (Y.top.keeps fun b o e=>fO _ (fO _ e))
 obtain⟨fb,g,d,t,os⟩:=s
 refine Jy oi_plain entry_oi (@check_slot (model X.prog X.w) _ _ _ "object.__init__" "object" "__init__" (.ref (fb.objs.size+1)) [] [] _ oi_kind oi_split gV (oi_args (.ref (fb.objs.size+1))) ?_)
 rw[oi_run]
 exact ey (And.intro I ⟨V.ref (fb.objs.size+1),_,bE,I,aY⟩)
def ahH(C:ag):TE:=fun _ H Q=>∀x ai,H x=av->H ai=av->ai≠x->Q (.ref x) (upd (upd H ai (.own x)) x (.ins C ai []))
theorem A8(M:lZ X.K C)(bb:h6 X x)(hm:X.mg x=J (.ref C))(jK:(x == ("__debug__":ah))=aA:=by decide):ck X (.Call (.Name x p) [] [] aV) (ahH C):=by
 intro ak s ae H Q aa h
 refine rX (sP aa bb hm ?_ jK)
 exact PySem.W.callWith_K0 aa.fT M.kD (X3 M aa h)
noncomputable def ag4:V->List V->aq->bG->Prop:=fun x vs H Q=>∃(l:ag)(rs:List (List Bool))(r:List Bool)(k:Nat),x=.ref l/\vs=[.str (dG.aR r)]/\H l=J (.lst (dG.c2 rs))/\rs[k]?=J r/\(∀j,j<k->rs[j]?≠J r)/\rs.length<100000/\Q .bc (upd H l (.lst (dG.c2 (rs.eraseIdx k))))
theorem Kc:∀(rs:List (List Bool))(k:Nat),(dG.c2 rs).eraseIdx k=dG.c2 (rs.eraseIdx k)
 |[],_=>rfl
 |_::_,0=>rfl
 |a::r,k+1=>congrArg (V.str (dG.aR a)::·) (Kc r k)
theorem Mk(a b:ah)(t u:Tok):MeetsSeq.EqGives (.str a t) (.str b u) (decide (a=b)):=by
 intro prog w A Q E s h
 exact wpAny_eqBool_str h
theorem KZ:∀{xs:List V}{bj:List ar},Vals xs bj->∀k:Nat,Vals (xs.eraseIdx k) (bj.eraseIdx k)
 |_,_,.nil,_ =>.nil
 |_,_,.cons a r,0=>r
 |_,_,.cons a r,k+1 =>.cons a (KZ r k)
theorem Yk:Ea X "list.remove" ag4:=by
 intro ak s ae H x vs v us Q aa bu dN h
 obtain⟨l,rs,r,k,rfl,rfl,ka,hk,yt,bL,q⟩:=h
 cases bu
 obtain⟨gc,rfl,⟨t,rfl⟩⟩:=vals1 dN
 obtain⟨z,bj,n,iU,aC,e⟩:=aa.tE ka
 have cB:=iU.length
 rw[dG.i8]at cB
 have acf:k<rs.length:=(i4.mp hk).1
 have iy:∀(j:Nat)(cw:j<bj.length),∃t',bj[j] =.str (dG.aR (rs[j]'(by omega))) t':=fun j cw=>by
  obtain⟨u,da,fc⟩:=iU.get (i:=j) (x :=.str (dG.aR (rs[j]'(by omega)))) (by unfold dG.c2;rw[e4,c4 (by omega)];rfl)
  rw[c4 cw]at da
  obtain⟨t',HH⟩:=(show ∃t,u=ar.str _ t from fc)
  exact⟨t',by rw[<-HH];exact gy da⟩
 let mE:ar->Bool:=fun y=>match y with|.str a _=>decide (a=dG.aR r)|_=>aA
 have he:∀y,y∈bj.toArray->MeetsSeq.EqGives y (.str (dG.aR r) t) (mE y):=fun y bV=>by
  obtain⟨j,cw,rfl⟩:=List.mem_iff_getElem.mp (List.mem_toArray.mp bV)
  obtain⟨t',e'⟩:=iy j cw
  rw[e']
  exact Mk _ _ _ _
 have eb:(100000:Nat)<=bU:=by decide
 have g7:bj.toArray.size<=bU:=by rw[eH];omega
 have pg:mE (bj.toArray[k]'(by rw[eH];omega))=au:=by
  obtain⟨t',e'⟩:=iy k (by omega)
  rw[List.getElem_toArray,e']
  have:=(i4.mp hk).2
  show decide (_=_)=au
  rw[this];exact fu I
 have Ho:∀m(hm:m<bj.toArray.size),m<k->mE bj.toArray[m]=aA:=fun m hm Hn=>by
  rw[eH]at hm
  obtain⟨t',e'⟩:=iy m hm
  rw[List.getElem_toArray,e']
  show decide (_=_)=aA
  refine gd fun z=>yt m Hn ?_
  rw[c4 (by omega),dG.Bd z]
 refine call_meets F.slot_list_remove ⟨_,e,I⟩ F.entry_list_remove (F.args_list_remove_2 _ _) (MeetsSeq.list_remove l bj.toArray n (.str (dG.aR r) t) mE he k (by rw[eH];omega) pg Ho g7) ⟨e,?_⟩
 refine⟨.bc,_,aa.H7 (its':=bj.eraseIdx k) ka e ?_ (by rw[<-Kc];exact KZ iU k) ?_,I,q⟩
 ·apply Array.ext'
  simp[Array.eraseIdxIfInBounds,show k<bj.length by omega]
 ·rw[dG.i8,List.length_eraseIdx]
  split<;>omega
theorem K0{i j:Int}(aJ:0<=i)(cw:0<=j)(qo:j<=1000)(hc:0<c):0<=cO.Range.rangeSize i j c/\cO.Range.rangeSize i j c<=1000:=by
 unfold cO.Range.rangeSize
 rw[if_pos hc]
 split
 ·have al:=Int.ediv_nonneg (a:=j-i-1) (b:=c) (by omega) (by omega)
  have aw:=Int.ediv_le_self (a:=j-i-1) c (by omega)
  omega
 .omega
theorem YV{i j:Int}(aJ:0<=i)(ab8:i<=1000)(cw:0<=j)(qo:j<=1000)(hc:0<c)(Ce:c<=1000):cO.Range.small i j c=au:=by
 obtain⟨al,aw⟩:=K0 aJ cw qo hc
 unfold cO.Range.small
 generalize cO.Range.rangeSize i j c=m at al aw ⊢
 simp only[cO.Range.rangeFitsLong,jD,Bool.or_eq_true,n5,beq_iff_eq,if_pos hc]
 omega
def adk(cf:gx):dJ:=fun ae H R=>cf ae H fun vs H1=>∃i j c:Int,vs=[.int i,.int j,.int c]/\(0<=i/\i<=1000/\0<=j/\j<=1000/\0<c/\c<=1000)/\R (sk i c (cO.Range.rangeSize i j c).toNat) H1
theorem Lg{a b c:cu}{p aV:Pos}(bb:h6 X "range")(hm:X.mg "range"=av)(bh:hr X [a,b,c] cf)
  (hs:dr [a,b,c] X.env=[(aA,eval a X.env),(aA,eval b X.env),(aA,eval c X.env)]:=by rfl) (fl:dr [b,c] X.env=[(aA,eval b X.env),(aA,eval c X.env)]:=by rfl) :
  i2 X eD (.Call (.Name "range" p) [a,b,c] [] aV) (adk cf):=by
 intro ak s ae H R aa h
 refine Call_ (nj aa bb hm boot_range (PyProof.Rows.callWith_type1 (cU (bh aV ak s ae H _ aa h) fun us s1 ⟨vs,H1,bf,cd,cg⟩=>?_) (by rw[hs,fl]) (by rw[fl];rfl)))
 obtain⟨i,j,c,e,⟨cg,cj,eN,rM,mi,qz⟩,q⟩:=cg
 subst e
 cases cd with
 | cons r iU =>
  cases iU with
  | cons e1 iU =>
   cases iU with
   | cons IA iU =>
    cases iU
    obtain⟨t,rfl⟩:=r
    obtain⟨t',rfl⟩:=e1
    obtain⟨I6,rfl⟩:=IA
    refine call_range_3 (by omega) ?_ (.inl (PyProof.noPylong_small (by omega)))
    refine wpAny_pyIter_range (IsRange.new ..) (YV cg cj eN rM mi qz) ?_
    have bE:Inv X ak ae H1 {s1 with heap:=s1.heap.push {cls :=.type "range",data :=.fields #[.int i t,.int j t',.int c I6]}}:=bf.kept (t':=s1.toks) fun b o e=>fO _ e
    refine⟨_,[_],_,_,H1,I,bE.kept (t':=s1.toks) fun b o e=>fO _ e,KH _ i c (cO.Range.rangeSize i j c).toNat,?_,fun b aj=>?_,q⟩
    ·have aU:i+((0:Nat):Int)*c=i:=by simp
     have ba:(((cO.Range.rangeSize i j c).toNat:Nat):Int)-((0:Nat):Int)=cO.Range.rangeSize i j c:=by have:=(K0 cg eN rM mi).1;omega
     show IsRangeIter _ _ (i+((0:Nat):Int)*c) ((((cO.Range.rangeSize i j c).toNat:Nat):Int)-((0:Nat):Int)) c
     rw[aU,ba]
     exact hi _ I
    ·have e:=ft.mp aj
     subst e
     exact bE.og (cE _) (bE.aT.fresh (cE _))
end
theorem Lz{D:ag}(gI:Nat->V)(S:St->Prop)(aZ:n<=100000)(bg:S fo)(c0:H D=av)
  (bo:∀i:Nat,i<n->∀bO H1,S bO->d7 H H1->∀R:St->V->aq->Prop,(∀bC bJ,S bC->d7 H1 bJ->R bC (gI i) bJ)->g (.int (lo+(i:Int)*c)) bO H1 fun bC ax=>cL bC ax fun z bJ=>R bC z bJ)
  (aY:∀H':aq,d7 H H'->H' D=J (.lst ((List.range n).map gI))->Q (.ref D) H') :
  mu (sk lo c n) g pF cL Q fo H D:=by
 refine⟨fun i m bO ax=>i<=n/\m=n-i/\S bO/\d7 H ax/\ax D=J (.lst ((List.range i).map gI)),⟨n,UF _,I,bg,dc c0,aG⟩,?_⟩
 rintro i m bO ax ⟨al,rfl,aw,hs,je⟩
 rcases hv i n with z|z
 ·refine .inr ⟨z,?_⟩
  rintro x bJ ⟨rfl,rfl⟩
  refine bo i z bO _ aw hs (fun bC y d5=>∃zs bY,d5 D=J (.lst zs)/\zs.length<bU/\bY<n-i/\(i+1<=n/\bY=n-(i+1)/\S bC/\d7 H (upd d5 D (.lst (zs++[y])))/\upd d5 D (.lst (zs++[y])) D=J (.lst ((List.range (i+1)).map gI)))) fun bC d5 eN ro=>?_
  refine⟨(List.range i).map gI,n-(i+1),ro _ _ je,?_,by omega,by omega,rfl,eN,?_,?_⟩
  .rw[cq,kx];exact e3 (show i<100000 by omega) (by decide)
  ·intro c o e
   rw[bt (eB e c0)]
   exact ro c o (hs c o e)
  .rw[aG,List.range_succ,gf];rfl
 ·have e:i=n:=by omega
  subst e
  exact .inl ⟨cE _,aY ax hs je⟩
end cN
end
section
namespace cN
open PySem PySem.Spec PyProof.Rows
end cN
end
variable {val:Nat->ah} {items:Array ar}
section
namespace cN
open PySem PySem.Spec
noncomputable def gs(val:Nat->ah):Nat->List ah
 |0=>[]
 |i+1=>if val i∈gs val i then gs val i else gs val i++[val i]
theorem xB(val:Nat->ah):∀i,(gs val i).length<=i
 |0=>cE _
 |i+1=>by
  have bQ:=xB val i
  unfold gs
  split
  .omega
  .rw[ee,kQ];omega
theorem Cz(val:Nat->ah)(i:Nat)(k:ah):(decide (k∈gs val i)||decide (k=val i))=decide (k∈gs val (i+1)):=by
 conv=>rhs;unfold gs
 by_cases h:val i∈gs val i
 ·rw[if_pos h]
  by_cases e:k=val i
  .subst e;simp[h]
  .simp[e]
 ·rw[if_neg h]
  by_cases e:k=val i<;>simp[e]
theorem Zc(val:Nat->ah)(i:Nat):(if decide (val i∈gs val i)=au then(gs val i).length else(gs val i).length+1)=(gs val (i+1)).length:=by
 conv=>rhs;unfold gs
 by_cases h:val i∈gs val i
 .rw[if_pos h,if_pos (fu h)]
 .rw[if_neg h,if_neg (by simpa using h),ee];rfl
section
variable {prog:c6} {w:cM} {A:dq} {R:Result->aM->Prop} {aa:ag} {b9 wr:List ag} {G:Array GenState->Array GenState->Prop} {n:Nat} {Pv:Nat->ar->Prop} {St:Nat->aM->Prop}
abbrev n4(prog:c6)(w:cM)(h:br)(S:ag)(val:Nat->ah)(i:Nat):Prop:=h.SetOf (PySem.strKind prog w) S (fun k=>decide (k∈gs val i)) (gs val i).length
theorem n4.keep{S:ag}(t:n4 prog w h S val i)(k:∀o,h.get? S=J o->h'.get? S=J o):n4 prog w h' S val i:=by
 obtain⟨o,aK,fK,dp,aL,rest⟩:=t
 exact⟨o,aK,fK,dp,k o aL,rest⟩
theorem Lb(W:WalksS prog w A.in1 aa b9 wr G n Pv St)(S:ag)(vQ:S∉b9)(val:Nat->ah)(acY:∀i v,Pv i v->∃t,v=.str (val i) t)(aj:n+1<scanBound):
  ∀(m i:Nat)(s:aM),n-i=m->i<=n->St i s->n4 prog w s.heap S val i->(∀aX,Moved (S::wr) G s aX->n4 prog w aX.heap S val n->R (.ok (.ret .none)) aX)->
   mr (model prog w) A (.builtin "set.update.loop" ⟨[.ref S,.ref aa],[]⟩) R s:=by
 have NC:S∉wr:=fun h=>vQ (W.sub _ h)
 have up:∀b∈wr,b∈S::wr:=fun b h=>dP _ h
 intro m
 induction m with
 |zero =>
  intro i s hm aJ st cc b8
  obtain rfl:i=n:=by omega
  refine codeAny_builtin PyProof.Rows.F.entry_set_update_loop ?_
  rw[dq.under_plainId PyProof.Rows.F.plain_set_update_loop _]
  refine b3 (m:=pyNext (.ref aa)) (W.done s _ _ st fun aX jN=>?_)
  exact ey (b8 aX (jN.mono up) (cc.keep fun o e=>jN.heap S _ NC e))
 | succ m bQ =>
  intro i s hm aJ st cc b8
  have iA:i<n:=by omega
  refine codeAny_builtin PyProof.Rows.F.entry_set_update_loop ?_
  rw[dq.under_plainId PyProof.Rows.F.plain_set_update_loop _]
  refine b3 (m:=pyNext (.ref aa)) (W.item i s _ _ iA st fun v aX cP hR jN=>?_)
  obtain⟨t,rfl⟩:=acY i v cP
  have vS:n4 prog w aX.heap S val i:=cc.keep fun o e=>jN.heap S _ NC e
  have NT:(PySem.strKind prog w).is (val i) (.str (val i) t)=au:=by simp[PySem.strKind,ar.isStrOf]
  refine b3 (m:=holding [ar.str (val i) t] (setAdd S (.str (val i) t))) (wpAny_holding ?_)
  unfold setAdd
  refine wpAny_holding (b3 ((PySem.strKind prog w).pyHash (k:=val i) NT ?_))
  have room:(gs val i).length+1<scanBound:=by have:=xB val i;omega
  refine wpAny_setAddHashed_of (knd:=PySem.strKind prog w) (s:={aX with toks:=aX.toks+1}) NT I vS room fun h' nK gJ=>?_
  have oo:n4 prog w h' S val (i+1):=PyProof.Rows.SetOf_congr gJ (fun k=>Cz val i k) (Zc val i)
  refine ey ⟨plainId_quiet PyProof.Rows.F.plain_set_update_loop _,bQ (i+1) _ (by omega) iA (W.frame _ aX _ _ hR (Nat.le_succ _) fun b tl o e=>?_) oo fun oI aeh GZ=>?_⟩
  .rw[nK.2 b fun z:b=S=>vQ (z ▸ tl)];exact e
  ·refine b8 oI (Moved.trans W.gtrans ((jN.mono up).then_heap (Nat.le_succ _) fun b o abK e=>?_) aeh) GZ
   rw[nK.2 b fun z:b=S=>abK (by rw[z];exact eI)];exact e
end
section
variable {prog:c6} {w:cM} {A:dq} {E:ar->aM->Prop} {s:aM}
noncomputable abbrev kE(led:Bool):bH:={cls :=.type "set",dict:=av,data :=.set #[] 0 (.fresh 0 0 led)}
abbrev CT(prog:c6)(w:cM)(s:aM)(val:Nat->ah)(n:Nat)(r:ar)(nM:aM):Prop:=r=.none/\∃h' dg,nM={s with heap:=h',toks:=dg}/\n4 prog w h' s.heap.objs.size val n/\∀b o,b<s.heap.objs.size->s.heap.get? b=J o->h'.get? b=J o
def w6(prog:c6)(w:cM)(A:dq)(E:ar->aM->Prop)(s:aM)(x:ar)(val:Nat->ah)(n:Nat)(led:Bool):Prop :=
 bP (model prog w) A.in1.in1 (cO.«set.__init__» ⟨[.ref s.heap.objs.size,x],[]⟩) (fun cY aX=>match cY with
   |Fin.done f=>wants (CT prog w s val n) E (Except.ok f) aX
   |Fin.again jt=>jt.quiet=au/\mr (model prog w) A.in1 jt (wants (CT prog w s val n) E) aX)
  (fun e aX=>wants (CT prog w s val n) E (Except.error e) aX) {s with heap:=s.heap.push (kE led)}
set_option maxHeartbeats 3200000 in
theorem KW{x:ar}
  (gp:∀led:Bool,w6 prog w A E s x val n led)
  (h:∀h' dg,n4 prog w h' s.heap.objs.size val n->(∀b o,b<s.heap.objs.size->s.heap.get? b=J o->h'.get? b=J o)->Q (.ref s.heap.objs.size) {s with heap:=h',toks:=dg}) :
  bP (model prog w) A (call (.type "set") [x]) Q E s:=by
 obtain⟨c,eV,aj3⟩:=F.called_set.mro
 have aj2:=F.called_set.made
 have acT:=F.called_set.sub
 refine ux (codeAny_of_tree ?_)
 show bP _ _ (callAny (.type "set") _) _ _ _
 refine ey ⟨Code.quiet_builtin _ (by decide+kernel),codeAny_builtin F.entry_type_call ?_⟩
 rw[dq.under_plain (weight_type_call_type "set" [x] []) rfl]
 have al:=F.called_set.notType
 have aw:=F.called_set.canCreate
 have ajR:=F.typeCall_set_1 x
 repeat (any_goals (first|assumption|wp_step))
 refine m3 (PySem.code_set_new_1 x (E:=E) (Q₁:=fun obj eh=>∃led:Bool,obj=.ref s.heap.objs.size/\eh={s with heap:=s.heap.push (kE led)}) fun led=>⟨led,I,I⟩) fun r eh az=>?_
 cases r with
 |error e=>exact az
 | ok er =>
  cases er with
  | ret obj =>
   obtain⟨led,rfl,rfl⟩:=az
   have c9:(s.heap.push (kE led)).get? s.heap.objs.size=J (kE led):=hi _ rfl
   have cc:aM.TypeIs {s with heap:=s.heap.push (kE led)} (.ref s.heap.objs.size) "set":=⟨_,c9,rfl⟩
   have ajZ:=F.called_set.init.lookup
   have ajM:=F.called_set.init.bind (.ref s.heap.objs.size)
   repeat (any_goals (first|assumption|wp_step))
   refine m3 (Jy (R:=wants (CT prog w s val n) E) F.called_set.init.plain F.entry_set_init (PySem.check_set_init_1 cc ?_)) fun aha nM HA=>?_
   .exact gp led
   ·cases aha with
    |error e=>exact HA
    | ok aaM =>
     cases aaM with
     |ret r =>
      obtain⟨rfl,h',dg,rfl,ny,hk'⟩:=HA
      repeat (any_goals (first|assumption|wp_step))
      exact h _ _ ny hk'
     |_=>exact HA.elim
  |_=>exact az.elim
set_option maxHeartbeats 3200000 in
theorem Yq{l:ag}(fb:A.handled=av)(aC:s.heap.IsList l items)(b5:∀(i:Nat)(v:ar),items[i]?=J v->∃t,v=.str (val i) t)(aj:items.size+1<scanBound)(led:Bool):w6 prog w A E s (.ref l) val items.size led:=by
 unfold w6
 obtain⟨ol,qt,mc,nl,mM⟩:=aC
 obtain⟨ako,aeT,akp,aeW⟩:=ol
 simp only at mc mM
 subst mc;subst mM
 have c9:(s.heap.push (kE led)).get? s.heap.objs.size=J (kE led):=hi _ rfl
 have acC:(s.heap.push (kE led)).get? l=J {cls :=.type "list",dict:=aeT,data :=.seq items nl,slots:=aeW}:=fO _ qt
 have acR:=F.sub_list_set
 have acQ:=F.sub_list_frozenset
 have kc:(ar.type "list" == ar.type "dict")=aA:=by decide
 have jx:(s.heap.push (kE led)).IsList l items:=⟨_,acC,rfl,nl,rfl⟩
 unfold cO.«set.__init__» noKeywords cO.Frozenset.updateFrom
 generalize GY:pyIter=i2
 wp_walk
 subst GY
 refine wpAny_pyIter_list jx ?_
 refine b3 (wpAny_runValue ?_)
 have N0:l<s.heap.objs.size:=eu qt
 have Hd:A.in1.in1.in1.handled=av:=by simp[fb]
 have g7:(s.heap.push (kE led)).objs.size=s.heap.objs.size+1:=br.size_push ..
 have acu:l≠(s.heap.push (kE led)).objs.size:=by rw[g7];exact fU (Nat.lt_succ_of_lt N0)
 have vQ:s.heap.objs.size∉[(s.heap.push (kE led)).objs.size,l]:=fun z=>by
  rw[g7]at z
  rcases cR.mp z with y|y
  .exact absurd y (fU (Nat.lt_succ_self _))
  .exact absurd (ft.mp y) (Nat.ne_of_gt N0)
 refine Lb ((Walks.list Hd _ l acu items).toS) s.heap.objs.size vQ val b5 aj items.size 0 _ (by omega) (UF _) ⟨⟨_,hi _ I,I,I⟩,jx.push _⟩ ?_ ?_
 .exact PyProof.Rows.SetOf_congr ((PyProof.Rows.setObjOf_fresh (knd:=PySem.strKind prog w) led).setOf (fO _ c9) (by unfold scanBound;omega)) (fun _=>I) I
 ·intro aX hm ny
  obtain⟨h',g',d',Je,yT⟩:=aX
  have s8:g'=s.gens:=hm.gens
  have j2:d'=s.drawn:=hm.drawn
  have Gq:yT=s.os:=hm.os
  subst s8;subst j2;subst Gq
  refine ey ?_
  refine ey (a:=Fin.done (Flow.ret ar.none)) ⟨I,h',Je,I,ny,fun b o rk e=>?_⟩
  refine hm.heap b o (fun z=>?_) (fO _ (fO _ e))
  rcases cR.mp z with y|y
  .exact absurd y (fU rk)
  ·rcases cR.mp y with y|y
   .rw[g7]at y;exact absurd y (fU (Nat.lt_succ_of_lt rk))
   .cases y
end
section
variable {prog:c6} {w:cM} {A:dq} {E:ar->aM->Prop} {s:aM}
noncomputable def signsOf(x:ah)(i:Nat):ah:=⟨#[x.cps.getD i 0]⟩
set_option maxHeartbeats 3200000 in
theorem Yp{x:ah}{t:Tok}(fb:A.handled=av)(aj:x.cps.size+1<scanBound)(led:Bool):w6 prog w A E s (.str x t) (signsOf x) x.cps.size led:=by
 unfold w6
 have c9:(s.heap.push (kE led)).get? s.heap.objs.size=J (kE led):=hi _ rfl
 have acR:=F.sub_str_set
 have acQ:=F.sub_str_frozenset
 have kc:(ar.type "str" == ar.type "dict")=aA:=by decide
 unfold cO.«set.__init__» noKeywords cO.Frozenset.updateFrom
 generalize GY:pyIter=i2
 wp_walk
 subst GY
 have g7:(s.heap.push (kE led)).objs.size=s.heap.objs.size+1:=br.size_push ..
 refine wpAny_pyIter_str (s:={s with heap:=s.heap.push (kE led)}) fun o St W C5=>?_
 refine b3 (wpAny_runValue ?_)
 have Hd:A.in1.in1.in1.handled=av:=by simp[fb]
 have vQ:s.heap.objs.size∉[(s.heap.push (kE led)).objs.size]:=fun z=>by
  rw[g7]at z
  exact absurd (ft.mp z) (fU (Nat.lt_succ_self _))
 refine Lb ((W _ Hd).toS) s.heap.objs.size vQ (signsOf x) (fun i v b5=>?_) aj x.cps.size 0 _ (by omega) (UF _) C5 ?_ ?_
 ·obtain⟨c,u,hc,rfl⟩:=b5
  refine⟨u,?_⟩
  unfold signsOf
  rw[Array.getD_eq_getD_getElem?,hc];rfl
 .exact PyProof.Rows.SetOf_congr ((PyProof.Rows.setObjOf_fresh (knd:=PySem.strKind prog w) led).setOf (fO _ c9) (by unfold scanBound;omega)) (fun _=>I) I
 ·intro aX hm ny
  obtain⟨h',g',d',Je,yT⟩:=aX
  have s8:g'=s.gens:=hm.gens
  have j2:d'=s.drawn:=hm.drawn
  have Gq:yT=s.os:=hm.os
  subst s8;subst j2;subst Gq
  refine ey ?_
  refine ey (a:=Fin.done (Flow.ret ar.none)) ⟨I,h',Je,I,ny,fun b o' rk e=>?_⟩
  refine hm.heap b o' (fun z=>?_) (fO _ (fO _ e))
  rcases cR.mp z with y|y
  .exact absurd y (fU rk)
  ·have y:=ft.mp y
   rw[g7]at y;exact absurd y (fU (Nat.lt_succ_of_lt rk))
theorem XJ{S:ag}(cc:n4 prog w s.heap S val i)(h:Q (.int ((gs val i).length:Nat) (s.toks+1)) {s with toks:=s.toks+1+1}):bP (model prog w) A (call (.builtin "len") [.ref S]) Q E s:=by
 obtain⟨o,aK,fK,t,aL,hex,hd,_,_,aj,aH,aZ⟩:=cc
 refine call_len_set aL hex hd aH (by unfold scanBound at aj;omega) ?_
 rw[aZ];exact h
end
section
variable {X:bA} {aV p cD CP:Pos} {e:cu} {cL:TE}
def Em(K:bK)(H:aq)(x:V)(val:Nat->ah)(n:Nat):Prop:=(∃a,x=.ref a/\c3 K H a ((List.range n).map fun i=>V.str (val i)))\/(∃z,x=.str z/\n=z.cps.size/\val=signsOf z)
def ahF(K:bK)(cL:TE):TE:=fun ae H Q=>cL ae H fun x H1=>∃val n,Em K H1 x val n/\n+1<scanBound/\Q (.int ((gs val n).length:Nat)) H1
theorem Li(eS:X.calm=au)(ab4:h6 X "len")(aco:X.mg "len"=av)(ab6:h6 X "set")(acp:X.mg "set"=av)(he:ck X e cL)
  (d3:dr [.Call (.Name "set" cD) [e] [] CP] X.env=[(aA,eval (.Call (.Name "set" cD) [e] [] CP) X.env)]:=by rfl) (fl:dr [e] X.env=[(aA,eval e X.env)]:=by rfl) :
  ck X (.Call (.Name "len" p) [.Call (.Name "set" cD) [e] [] CP] [] aV) (ahF X.K cL):=by
 intro ak s ae H Q aa h
 refine rX (nj aa ab4 aco ef ?_ (by decide) (by decide))
 refine PyProof.Rows.callWith_builtin1 ?_ (d3.trans I) I
 rw[d3]
 show bP _ _ (spliced ((aA,eval (.Call (.Name "set" cD) [e] [] CP) X.env)::[])) _ _ s
 refine Calls.spliced_cons (rX (nj aa ab6 acp (by decide+kernel:jT "set"=J (.type "set")) ?_ (by decide) (by decide)))
 refine PyProof.Rows.callWith_type1 ?_ (fl.trans I) I
 rw[fl]
 show bP _ _ (spliced ((aA,eval e X.env)::[])) _ _ s
 refine Calls.spliced_cons (cU (he ak s ae H _ aa h) fun u s1 bM=>?_)
 obtain⟨x,H1,bf,cd,val,n,ay,aj,q⟩:=bM
 refine Calls.spliced_nil ?_
 have cY:∀(h':br)(dg:Nat),n4 X.prog X.w h' s1.heap.objs.size val n->(∀b o,b<s1.heap.objs.size->s1.heap.get? b=J o->h'.get? b=J o)->bP (model X.prog X.w) X.A (spliced []) (fun vs eh=>bP (model X.prog X.w) X.A (call (.builtin "len") (.ref s1.heap.objs.size::vs)) (iv X ak ae Q) X.xe eh) X.xe {s1 with heap:=h',toks:=dg}:=fun h' dg cc hk=>by
  refine Calls.spliced_nil (XJ (s:={s1 with heap:=h',toks:=dg}) cc ?_)
  exact⟨.int _,H1,bf.kept (h':=h') (t':=dg+1+1) fun b o fk=>hk b o (eu fk) fk,⟨_,I⟩,q⟩
 rcases ay with⟨a,rfl,aY⟩|⟨z,rfl,rfl,rfl⟩
 ·obtain rfl:u=ar.ref a:=cd
  obtain⟨bj,dN,pl,bL⟩:=bf.list aY
  have cB:=dN.length
  rw[cq,kx]at cB
  have g7:bj.toArray.size=n:=by rw[eH];omega
  refine KW (fun led=>?_) cY
  have aJ:=Yq (prog:=X.prog) (w:=X.w) (E:=X.xe) (val:=val) (bf.ok.hd eS) pl.isList (fun i v b5=>?_) (by rw[g7];exact aj) led
  .rw[g7]at aJ;exact aJ
  ·have tA:bj[i]?=J v:=by simpa using b5
   have NS:i<n:=by rw[cB];exact(i4.mp tA).1
   obtain⟨u,da,fc⟩:=dN.get (i:=i) (x :=.str (val i)) (by rw[e4,List.getElem?_range NS];rfl)
   rw[tA]at da;cases da
   exact fc
 ·obtain⟨t,rfl⟩:=cd
  exact KW (fun led=>Yp (bf.ok.hd eS) aj led) cY
end
end cN
end
variable {vs gq:List cN.V} {m:Nat} {y:ah} {v:cN.V} {X:List ag} {S:List Nat} {jJ:ag} {use:Option (ar->Sem Unit)} {Qf:ar->aM->Prop}
section
namespace cN
open PySem PySem.W PySem.Spec PyProof.Rows
def D9(P:c6)(w:cM)(K:bK)(mg:ah->Option ar)(base:br)(k:Nat)(x:ah)(C:ag)(aI:List ah)(sp:b0):Prop :=
 ∃f fd,xc K C f/\cv P w K mg base (hJ P w) k f fd aI sp/\Binds K fd aI []/\mg x=J (.ref C)
section
variable {X:bA} {CX:lb} {k k1 k2 hD:Nat} {f C:ag} {fd:ho} {x:ah} {aI:List ah} {sp Pc oL:b0} {e:cu} {aK:List cu} {t:gx} {p aV:Pos} {E:St->bT}
theorem Lc{Q:bG}(M:xc X.K C f)(F:cv X.prog X.w X.K X.mg X.base CX k f fd aI sp)(az:fH (k+1) X.A)(aj:Binds X.K fd aI [])(ay:va CX X E)(aa:Inv X ak ae H s)(r:Vals vs us)
  (aY:sp (.ref (s.heap.objs.size+1)::vs) (upd (upd H s.heap.objs.size (.own (s.heap.objs.size+1))) (s.heap.objs.size+1) (.ins C s.heap.objs.size [])) (fun v ax=>v=.bc/\Q (.ref (s.heap.objs.size+1)) ax) (E ae)) :
  bP (model X.prog X.w) X.A (call (.ref C) us) (iv X ak ae Q) X.xe s:=by
 have bE:=Inv.made (C:=C) aa
 have dB:Vals (V.ref (s.heap.objs.size+1)::vs) (ar.ref (s.heap.objs.size+1)::us) :=.cons rfl r
 have aC:(ar.ref (s.heap.objs.size+1)::us++[]).length=aI.length:=by
  have e:=dB.length
  rw[F.len _ _ _ _ aY]at e
  rw[List.append_nil];exact e.symm
 have kb:=aj {s with heap:=(s.heap.push mn).push (mq C s.heap.objs.size)} (ar.ref (s.heap.objs.size+1)::us) bE.fT aC
 rw[List.append_nil]at kb
 refine ux (LQ (f:=f) aa.fT M.makes M.init (beq_iff_eq.mp M.fn) (m3 (F.run _ X.stack _ _ ⟨ar.ref (s.heap.objs.size+1)::us,[]⟩ (ar.ref (s.heap.objs.size+1)::us) _ _ (E ae) (az.make C us [])
  (bE.xW.make C us []) kb dB aY) fun r aX ow=>?_))
 cases r with
 |error e=>exact ay ak ae _ _ e aX bE ow
 | ok er =>
  cases er with
  |ret u =>
   obtain⟨v,H',gM,dN,ev,eN⟩:=bE.after ow
   subst ev
   exact⟨dN,⟨V.ref (s.heap.objs.size+1),H',gM,I,eN⟩⟩
  |next=>exact False.elim ow
  |brk=>exact False.elim ow
  |cont=>exact False.elim ow
theorem Yb(h:jl X.prog X.w X.K X.mg X.base k1 x C aI Pc)(h':D9 X.prog X.w X.K X.mg X.base k2 x C aI oL)(az:fH hD X.A)(ay:va (hJ X.prog X.w) X E)(bh:hr X (e::aK) t)(hk:k1+1<=hD:=by decide)(hk':k2+1<=hD:=by decide)(bb:h6 X x:=by rfl)(jK:(x == ("__debug__":ah))=aA:=by decide+kernel)
  (he:dr (e::aK) X.env=(aA,eval e X.env)::dr aK X.env:=by rfl) (fR:(backTo aV (dr aK X.env)).any (·.1)=aA:=by rfl) :
  ck X (.Call (.Name x p) (e::aK) [] aV) (fun ae H Q=>t ae H fun vs H1=>∀y ai,H1 y=av->H1 ai=av->ai≠y->Pc (.ref y::vs) (upd (upd H1 ai (.own y)) y (.ins C ai [])) (fun v ax=>v=.bc/\Q (.ref y) ax) iK\/oL (.ref y::vs) (upd (upd H1 ai (.own y)) y (.ins C ai [])) (fun v ax=>v=.bc/\Q (.ref y) ax) (E ae)):=by
 obtain⟨f,fd,M,F,aj,hm⟩:=h
 obtain⟨f2,Nk,M2,n1,fQ,v8⟩:=h'
 obtain rfl:f=f2:=by
  have aU:=M.init
  rw[M2.init]at aU
  injection aU with z;injection z with z;injection z with z;exact z.symm
 intro ak s ae H Q aa h
 refine rX (sP aa bb hm ?_ jK)
 refine wV (h₀:=X.base) aa.ok.mod.pk M.kD (cU (bh aV ak s ae H _ aa h) fun us s1 bM=>?_) he fR
 obtain⟨vs,H1,bf,r,q⟩:=bM
 refine ⟨bf.fT,?_⟩
 rcases q (s1.heap.objs.size+1) s1.heap.objs.size (bf.aT.fresh (Nat.le_succ _)) (bf.aT.fresh (cE _)) (fU (Nat.lt_succ_self _))with q|q
 .exact Lc (E:=fun _=>iK) M F (az.mono hk) aj wy bf r q
 .exact Lc M n1 (az.mono hk') fQ ay bf r q
end
theorem YG{x:ah}{Q:bG}{D:ag}(keep:Nat->Bool)(f:Nat->V)(S:St->Prop)(bL:x.cps.size<=bU)(bg:S fo)(c0:H D=av)
  (bo:∀c,c∈x.cps.toList->∀bO H1,S bO->d7 H H1->∀(R:St->V->aq->Prop)(kt:St->aq->Prop),(∀bC,S bC->if keep c=au then R bC (f c) H1 else kt bC H1)->g (.str ⟨#[c]⟩) bO H1 fun bC ax=>gu bC ax fun b bJ=>if b=au then cL bC bJ fun y gv=>R bC y gv else kt bC bJ)
  (aY:Q (.ref D) (upd H D (.lst ((x.cps.toList.filter keep).map f)))) :
  mu (uO x) g gu cL Q fo H D:=by
 have aZ:x.cps.toList.length=x.cps.size:=i3
 refine⟨fun i m bO ax=>i<=x.cps.size/\m=x.cps.size-i/\S bO/\ax=upd H D (.lst (((x.cps.toList.take i).filter keep).map f)),⟨x.cps.size,UF _,I,bg,I⟩,?_⟩
 rintro i m bO ax ⟨al,rfl,aw,rfl⟩
 rcases hv i x.cps.size with z|z
 ·refine .inr ⟨z,?_⟩
  rintro y bJ ⟨rfl,c,hc,rfl⟩
  have mb:x.cps.toList[i]?=J c:=by rw[Array.getElem?_toList];exact hc
  refine bo c (hY mb) bO _ aw (dc c0) (fun bC y d5=>∃aN bY,d5 D=J (.lst aN)/\aN.length<bU/\bY<x.cps.size-i/\(i+1<=x.cps.size/\bY=x.cps.size-(i+1)/\S bC/\upd d5 D (.lst (aN++[y]))=upd H D (.lst (((x.cps.toList.take (i+1)).filter keep).map f))))
   (fun bC fB=>∃bY,bY<x.cps.size-i/\(i+1<=x.cps.size/\bY=x.cps.size-(i+1)/\S bC/\fB=upd H D (.lst (((x.cps.toList.take (i+1)).filter keep).map f)))) fun bC eN=>?_
  have kB:x.cps.toList.take (i+1)=x.cps.toList.take i++[c]:=by rw[lu,mb];rfl
  by_cases hk:keep c=au
  ·rw[if_pos hk]
   refine⟨_,x.cps.size-(i+1),aG,?_,by omega,by omega,rfl,eN,?_⟩
   ·rw[cq]
    have:=List.length_filter_le keep (x.cps.toList.take i)
    rw[jn]at this;omega
   .rw[fX,kB,List.filter_append,gf,List.filter_cons_of_pos hk];rfl
  ·rw[if_neg hk]
   refine⟨x.cps.size-(i+1),by omega,by omega,rfl,eN,?_⟩
   rw[kB,List.filter_append,gf,List.filter_cons_of_neg hk];simp
 ·have e:i=x.cps.size:=by omega
  subst e
  rw[UV (by omega)]
  exact .inl ⟨cE _,aY⟩
theorem L5{x:ah}{Q:bG}{D:ag}(f:Nat->V)(S:St->Prop)(bL:x.cps.size<=bU)(bg:S fo)(c0:H D=av)
  (bo:∀c,c∈x.cps.toList->∀bO H1,S bO->d7 H H1->∀R:St->V->aq->Prop,(∀bC,S bC->R bC (f c) H1)->g (.str ⟨#[c]⟩) bO H1 fun bC ax=>cL bC ax fun y gv=>R bC y gv)
  (aY:Q (.ref D) (upd H D (.lst (x.cps.toList.map f)))) :
  mu (uO x) g pF cL Q fo H D:=by
 refine YG (fun _=>au) f S bL bg c0 (fun c hc bO H1 c9 hs R kt b8=>?_) (by rw[List.filter_eq_self.mpr fun _ _=>rfl];exact aY)
 exact bo c hc bO H1 c9 hs R fun bC aw=>by have:=b8 bC aw;rwa [if_pos rfl]at this
structure Ext(H H':aq):Prop where
 s:d7 H H'
 c:kL H->kL H'
theorem Ext.refl(H:aq):Ext H H:=⟨d7.refl _,id⟩
variable {A B:aq}
theorem Ext.trans{C:aq}(a:Ext A B)(b:Ext B C):Ext A C:=⟨a.s.trans b.s,fun z=>b.c (a.c z)⟩
theorem Ext.new(h:H p=av)(aL:lp (upd H p o) p o):Ext H (upd H p o):=⟨dc h,fun c=>uR c h aL⟩
theorem Ext.lst(h:H p=av):Ext H (upd H p (.lst xs)) :=.new h trivial
theorem Ext.tup(h:H p=av):Ext H (upd H p (.tup xs)) :=.new h trivial
theorem Ext.exc{d:Option ag}(h:H p=av):Ext H (upd H p (si p C d)) :=.new h trivial
theorem Ext.made{x ai:ag}{fs:List (ah×V)}(al:H x=av)(aw:H ai=av)(bq:ai≠x):Ext H (upd (upd H ai (.own x)) x (.ins C ai fs)):=by
 have ay:upd H ai (.own x) x=av:=by rw[bt (d1 bq)];exact al
 refine⟨(dc aw).trans (dc ay),fun c=>uR (uR c aw trivial) ay ?_⟩
 show upd (upd H ai (.own x)) x (.ins C ai fs) ai=J (.own x)
 rw[bt bq];exact aG
theorem Ext.sub(e:Ext H H'):Sub H H' H' :=.all (fun b o h=>⟨o,e.s b o h⟩) e.c
theorem vw(x y:ah):(x++y).cps.toList=x.cps.toList++y.cps.toList:=Array.toList_append
theorem oZ(x y:ah):(x++y).length=x.length+y.length:=Array.size_append
structure mA(n:Nat)(S:List Nat)(x:ah):Prop where
 n:x.length<=n
 s:∀c,c∈x.cps.toList->c∈S
theorem mA.app{x:ah}(h:mA n S x)(h':mA m S y):mA (n+m) S (x++y):=⟨by rw[oZ];have:=h.n;have:=h'.n;omega,fun c hc=>by
 rw[vw]at hc
 exact(List.mem_append.mp hc).elim (h.s c) (h'.s c)⟩
variable {c:Nat}
theorem mA.one(h:c∈S):mA 1 S ⟨#[c]⟩:=⟨cE _,fun d hd=>by rw[ft.mp hd];exact h⟩
theorem mA.slice{x:ah}(h:mA n S x)(lo aJ:Option Int):mA n S (Txt.slice x lo aJ):=by
 have e:=dG.vm x lo aJ
 refine⟨?_,fun c hc=>h.s c ?_⟩
 ·have ba:=congrArg List.length e
  rw[jn,kv]at ba
  have eM:(Txt.slice x lo aJ).cps.toList.length=(Txt.slice x lo aJ).length:=i3
  have f7:x.cps.toList.length=x.length:=i3
  have:=h.n
  omega
 ·rw[e]at hc
  exact List.mem_of_mem_drop (List.mem_of_mem_take hc)
theorem Kx(x:ah)(k:Nat)(h:k<=x.length):(Txt.slice x av (J (k:Int))).length=k:=by
 have ba:=congrArg List.length (dG.vm x av (J (k:Int)))
 rw[el.y3,el.y4,List.drop_zero,jn]at ba
 have eM:(Txt.slice x av (J (k:Int))).cps.toList.length=(Txt.slice x av (J (k:Int))).length:=i3
 have f7:x.cps.toList.length=x.length:=i3
 omega
theorem Km(x:ah)(k:Nat)(h:k<=x.length):(Txt.slice x (J (k:Int)) av).length=x.length-k:=by
 have ba:=congrArg List.length (dG.vm x (J (k:Int)) av)
 rw[el.y3,el.y4,jn,kv]at ba
 have eM:(Txt.slice x (J (k:Int)) av).cps.toList.length=(Txt.slice x (J (k:Int)) av).length:=i3
 have f7:x.cps.toList.length=x.length:=i3
 omega
theorem TL{x:ah}(h:k<x.length):∃c,c∈x.cps.toList/\e5 x.cps.toList ((k:Nat):Int)=J c:=by
 have h':k<x.cps.toList.length:=by rw[i3];exact h
 exact⟨x.cps.toList[k],List.getElem_mem h',dz (c4 h')⟩
noncomputable def BL(ns:List ah):Nat:=(gs (fun i=>ns.getD i ah.empty) ns.length).length
noncomputable def BM(s:ah):Nat:=(gs (signsOf s) s.cps.size).length
theorem Uj(ns:List ah):BL ns<=ns.length:=xB ..
theorem Ui(s:ah):BM s<=s.length:=xB ..
theorem KO(ns:List ah):((List.range ns.length).map fun i=>V.str (ns.getD i ah.empty))=ns.map V.str:=by
 apply List.ext_getElem
 .rw[cq,kx,cq]
 ·intro i al aw
  rw[cq]at aw
  rw[jE,jE,List.getElem_range,eL,c4 aw];rfl
theorem WS(h:c3 K H a (ns.map V.str)):Em K H (.ref a) (fun i=>ns.getD i ah.empty) ns.length :=.inl ⟨a,rfl,by rw[KO];exact h⟩
theorem Xs(s:ah):Em K H (.str s) (signsOf s) s.cps.size :=.inr ⟨s,rfl,rfl,rfl⟩
noncomputable def kp:ah:="abcdefghijklmnopqrstuvwxyz"
noncomputable def pX:ah:="abcdefghijklmnopqrstuvwxyzABCDEFGHIJKLMNOPQRSTUVWXYZ0123456789"
noncomputable def mR(t s:ah):Bool:=t.cps.toList.all fun c=>decide (c∈s.cps.toList)
theorem TN:pX.length=62:=by decide+kernel
theorem FY:kp.length=26:=by decide+kernel
noncomputable def oi(s:ah):Bool:=decide (s.length≠0/\s.length<=60/\BM s=s.length)&&mR s pX
noncomputable def isName(n:ah):Bool:=decide (0<n.length/\n.length<=12)&&mR n kp
noncomputable def l7(ns:List ah):Bool:=decide (ns.length≠0/\ns.length<=20/\BL ns=ns.length)&&ns.all isName
theorem SZ(s:ah):s=ah.ofString ""↔s.length=0:=by
 have e:ah.ofString ""=⟨#[]⟩:=by decide+kernel
 rw[e]
 constructor
 .rintro rfl;rfl
 ·intro h
  obtain⟨c⟩:=s
  have:c=#[]:=Array.eq_empty_of_size_eq_zero h
  rw[this]
theorem Bb{b:ag}{x y:cZ}(h:a≠b):upd (upd H a x) b y=upd (upd H b y) a x:=by
 funext c
 by_cases al:c=b
 ·subst al
  rw[aG,bt (d1 h),aG]
 ·rw[bt al]
  by_cases aw:c=a
  ·subst aw
   rw[aG,aG]
  .rw[bt aw,bt aw,bt al]
variable {l:List V}
theorem xp{D:ag}(h:H D=J (.lst l))(c:kL H):kL (upd H D (.lst gq)):=fun b u e=>by
 by_cases z:b=D
 .subst z;rw[aG]at e;cases e;trivial
 ·rw[bt z]at e
  have tS:=c b u e
  clear e
  induction u with
  |ins C ai fs =>
   have jR:H ai=J (.own b):=tS
   show upd H D (.lst gq) ai=J (.own b)
   rw[bt fun z=>by rw[z,h]at jR;cases jR]
   exact jR
  |iP dX u bQ=>exact bQ tS
  |_=>trivial
theorem Ext.set{D:ag}(bg:H D=av)(e:Ext H H')(h:H' D=J (.lst l)):Ext H (upd H' D (.lst gq)) :=
 ⟨fun b u q=>by rw[bt (eB q bg)];exact e.s b u q,fun c=>xp h (e.c c)⟩
theorem FK(val:Nat->ah):∀n k,k∈gs val n->∃i,i<n/\k=val i
 |0,k,h=>by cases h
 | n+1,k,h=>by
  unfold gs at h
  by_cases z:val n∈gs val n
  ·rw[if_pos z]at h
   obtain⟨i,aJ,e⟩:=FK val n k h
   exact⟨i,by omega,e⟩
  ·rw[if_neg z]at h
   rcases List.mem_append.mp h with y|y
   ·obtain⟨i,aJ,e⟩:=FK val n k y
    exact⟨i,by omega,e⟩
   .exact⟨n,Nat.lt_succ_self _,ft.mp y⟩
theorem FL(val:Nat->ah):∀n,(∀i j,i<n->j<n->val i=val j->i=j)->(gs val n).length=n
 |0,_=>rfl
 | n+1,h=>by
  unfold gs
  have z:val n∉gs val n:=fun z=>by
   obtain⟨i,aJ,e⟩:=FK val n _ z
   have:=h n i (Nat.lt_succ_self _) (by omega) e
   omega
  rw[if_neg z,ee,FL val n fun i j aJ cw e=>h i j (by omega) (by omega) e]
  rfl
theorem Yy{s:ah}(h:s.cps.toList.Nodup):BM s=s.length:=by
 refine FL _ _ fun i j aJ cw e=>?_
 unfold signsOf at e
 injection e with e
 have e:=congrArg (fun a=>a[0]?) e
 simp only[List.getElem?_toArray,List.getElem?_cons_zero,Option.some.injEq]at e
 have tr:i<s.cps.toList.length:=by rw[i3];exact aJ
 have NV:j<s.cps.toList.length:=by rw[i3];exact cw
 have g:∀k(hk:k<s.cps.toList.length),s.cps.getD k 0=s.cps.toList[k]:=fun k hk=>by
  rw[Array.getD_eq_getD_getElem?,<-Array.getElem?_toList,c4 hk];rfl
 rw[g i tr,g j NV]at e
 exact(List.getElem_inj h).mp e
theorem Yz(h:ns.Nodup):BL ns=ns.length:=by
 refine FL _ _ fun i j aJ cw e=>?_
 have g:∀k(hk:k<ns.length),ns.getD k ah.empty=ns[k]:=fun k hk=>by
  rw[eL,c4 hk];rfl
 rw[g i aJ,g j cw]at e
 exact(List.getElem_inj h).mp e
theorem YM:pX.cps.toList.Nodup:=by decide+kernel
theorem YN:kp.cps.toList.Nodup:=by decide+kernel
theorem XO{f r:ah}(h:(f.cps.toList++r.cps.toList).Perm pX.cps.toList)(bg:f.length≠0)(al:f.length<=60):oi f=au:=by
 have bB:(f.cps.toList++r.cps.toList).Nodup:=h.nodup_iff.mpr YM
 have mT:f.cps.toList.Nodup:=(List.nodup_append.mp bB).1
 unfold oi
 rw[fu ⟨bg,al,Yy mT⟩,Bool.true_and]
 unfold mR
 rw[i5]
 exact fun c hc=>fu (h.mem_iff.mp (List.mem_append_left _ hc))
theorem Ya{f r a b:List Nat}{x:Nat}(e:r=a++x::b):((f++[x])++(a++b)).Perm (f++r):=by
 subst e
 rw[h9]
 exact List.Perm.append_left f (List.perm_middle (a:=x) (l₁:=a) (l₂:=b)).symm
theorem XZ{x:ah}(h:k<x.length):∃c,e5 x.cps.toList ((k:Nat):Int)=J c/\x.cps.toList=(Txt.slice x av (J (k:Int))).cps.toList++c::(Txt.slice x (J ((k+1:Nat):Int)) av).cps.toList:=by
 have f7:x.cps.toList.length=x.length:=i3
 have h':k<x.cps.toList.length:=by omega
 refine⟨x.cps.toList[k],dz (c4 h'),?_⟩
 rw[dG.vm,dG.vm,el.y3,el.y4,el.y4,el.y3,List.drop_zero,Nat.sub_zero,Nat.min_eq_left (by omega),Nat.min_eq_left (by omega),UV (l:=List.drop (k+1) _) (by rw[kv];omega)]
 rw[<-q4 h',List.take_append_drop]
theorem Tq{s:ah}{a:Int}(e:(Txt.slice s av (J a)++⟨#[c]⟩)++Txt.slice s (J a) av=(Txt.slice s av (J a)++⟨#[d]⟩)++Txt.slice s (J a) av):c=d:=by
 have e:=congrArg (fun x=>x.cps.toList) e
 simp only[vw]at e
 have e:=List.append_cancel_right e
 have e:=List.append_cancel_left e
 have:[c]=[d]:=e
 exact List.head_eq_of_cons_eq this
theorem YU{f x:Int}(ay:x∈([1,3,5,7,9,11]:List Int))(aJ:i<26)(cw:j<26)(e:(f+(0+((i:Nat):Int))*x)%26=(f+(0+((j:Nat):Int))*x)%26):i=j:=by
 have h:=Int.emod_add_cancel_left.mp e
 rw[Int.zero_add,Int.zero_add]at h
 exact congrArg Fin.val ((by decide+kernel:∀x∈([1,3,5,7,9,11]:List Int),∀i j:Fin 26,((i.val:Nat):Int)*x%26=((j.val:Nat):Int)*x%26->i=j) x ay ⟨i,aJ⟩ ⟨j,cw⟩ h)
theorem Yn{n:ah}(h:mA 12 kp.cps.toList n)(bg:0<n.length):isName n=au:=by
 unfold isName
 rw[fu ⟨bg,h.n⟩,Bool.true_and]
 unfold mR
 rw[i5]
 exact fun c hc=>fu (h.s c hc)
theorem WL(bg:ns.length≠0)(al:ns.length<=20)(aZ:ns.Nodup)(hs:∀n,n∈ns->isName n=au):l7 ns=au:=by
 unfold l7
 rw[fu ⟨bg,al,Yz aZ⟩,Bool.true_and,i5]
 exact hs
theorem XM{n:ah}(h:isName n=au):n.length<=12:=by
 unfold isName at h
 simp only[jD,n5]at h
 exact h.1.2
theorem p5(h:l7 ns=au):ns.length<=20/\∀n,n∈ns->n.length<=12:=by
 unfold l7 at h
 simp only[jD,n5,i5]at h
 exact⟨h.1.2.1,fun n aZ=>XM (h.2 n aZ)⟩
structure es(p:ag)(H H':aq):Prop where
 k:∀b u,b≠p->H b=J u->H' b=J u
 l:∃ns:List Int,H' p=J (.lst (ns.map V.int))/\ns.length<=90
 c:kL H->kL H'
def kr(p:ag)(H:aq):Prop:=∃ns:List Int,H p=J (.lst (ns.map V.int))/\ns.length<=90
theorem es.refl(h:kr p H):es p H H:=⟨fun _ _ _ e=>e,h,id⟩
theorem es.trans{C:aq}(a:es p A B)(b:es p B C):es p A C:=⟨fun x u n e=>b.k x u n (a.k x u n e),b.l,fun c=>b.c (a.c c)⟩
theorem es.ext{C:aq}(a:es p A B)(b:Ext B C):es p A C:=by
 obtain⟨ns,h,aZ⟩:=a.l
 exact⟨fun x u n e=>b.s x u (a.k x u n e),⟨ns,b.s _ _ h,aZ⟩,fun c=>b.c (a.c c)⟩
theorem es.pop{ns:List Int}(h:kr p H)(aZ:ns.length<=90):es p H (upd H p (.lst (ns.map V.int))):=by
 obtain⟨ms,e,_⟩:=h
 exact⟨fun b u nb q=>by rw[bt nb];exact q,⟨ns,aG,aZ⟩,fun c=>xp e c⟩
theorem es.sub(h:es p H H'):Sub H H' H' :=.all (fun b o e=>by
 by_cases z:b=p
 ·subst z
  obtain⟨ns,e,_⟩:=h.l
  exact⟨_,e⟩
 .exact⟨o,h.k b o z e⟩) h.c
theorem es.free{b:ag}(h:es p H H')(e:H' b=av):H b=av:=by
 cases z:H b with
 |none=>rfl
 | some u =>
  by_cases y:b=p
  ·subst y
   obtain⟨ns,q,_⟩:=h.l
   rw[e]at q;cases q
  .rw[h.k b u y z]at e;cases e
theorem bp.none{x:ah}{st:bz}{sp:b0}(F:dS K mg x st aI f fd)(h:∀vs H Q E,¬sp vs H Q E):bp P w K mg base k x aI sp :=
 ⟨f,fd,⟨fun vs H Q E q=>absurd q (h _ _ _ _),fun A outer s H args us vs Q E _ _ _ _ q=>absurd q (h _ _ _ _)⟩,F.2.1,F.1.kD,F.2.2⟩
theorem es.set{l:ag}(g:es p H H')(bg:H l=av)(h:H' l=J (.lst xs))(aC:l≠p):es p H (upd H' l (.lst aN)):=by
 obtain⟨ns,e,aZ⟩:=g.l
 exact⟨fun b u nb q=>by rw[bt (eB q bg)];exact g.k b u nb q,⟨ns,by rw[bt (d1 aC)];exact e,aZ⟩,fun c=>xp h (g.c c)⟩
theorem es.ne{l:ag}(g:es p H H')(h:H' l=av):l≠p:=fun z=>by
 obtain⟨ns,e,_⟩:=g.l
 rw[z,e]at h;cases h
section
variable {X:bA}
noncomputable def ag2:V->List V->aq->bG->Prop:=fun x vs H Q=>∃(l:ag)(ws:List ah)(w:ah)(k:Nat),x=.ref l/\vs=[.str w]/\H l=J (.lst (ws.map V.str))/\ws[k]?=J w/\(∀j,j<k->ws[j]?≠J w)/\ws.length<100000/\Q (.int ((k:Nat):Int)) H
theorem Lk:u5 X "list.index" ag2:=by
 intro ak s ae H x vs v us Q aa bu dN h
 obtain⟨l,ws,w,k,rfl,rfl,ka,hk,yt,bL,q⟩:=h
 cases bu
 obtain⟨gc,rfl,⟨t,rfl⟩⟩:=vals1 dN
 obtain⟨z,bj,n,iU,aC,e⟩:=aa.tE ka
 have cB:=iU.length
 rw[cq]at cB
 have acf:k<ws.length:=(i4.mp hk).1
 have iy:∀(j:Nat)(cw:j<bj.length),∃t',bj[j] =.str (ws[j]'(by omega)) t':=fun j cw=>by
  obtain⟨u,da,fc⟩:=iU.get (i:=j) (x :=.str (ws[j]'(by omega))) (by rw[e4,c4 (by omega)];rfl)
  rw[c4 cw]at da
  obtain⟨t',HH⟩:=(show ∃t,u=ar.str _ t from fc)
  exact⟨t',by rw[<-HH];exact gy da⟩
 let mE:ar->Bool:=fun y=>match y with|.str a _=>decide (a=w)|_=>aA
 have he:∀y,y∈bj.toArray->MeetsSeq.EqGives y (.str w t) (mE y):=fun y bV=>by
  obtain⟨j,cw,rfl⟩:=List.mem_iff_getElem.mp (List.mem_toArray.mp bV)
  obtain⟨t',e'⟩:=iy j cw
  rw[e']
  exact Mk _ _ _ _
 have pg:mE (bj.toArray[k]'(by rw[eH];omega))=au:=by
  obtain⟨t',e'⟩:=iy k (by omega)
  rw[List.getElem_toArray,e']
  have:=(i4.mp hk).2
  show decide (_=_)=au
  rw[this];exact fu I
 have Ho:∀m(hm:m<bj.toArray.size),m<k->mE bj.toArray[m]=aA:=fun m hm Hn=>by
  rw[eH]at hm
  obtain⟨t',e'⟩:=iy m hm
  rw[List.getElem_toArray,e']
  show decide (_=_)=aA
  refine gd fun z=>yt m Hn ?_
  rw[c4 (by omega),z]
 refine call_meets F.slot_list_index ⟨_,e,I⟩ F.entry_list_index (F.args_list_index_2 _ _) (MeetsSeq.list_index l bj.toArray n (.str w t) mE he k (by rw[eH];omega) (by omega) pg Ho) ⟨e,?_⟩
 exact⟨.int _,H,aa.tok _,⟨_,I⟩,q⟩
end
inductive bN where
 |bare (k:Fin 4)
 |sp (a b:Int)
 |le (s:ah)
 |one (k:Fin 3) (f:bN)
 |two (k:Fin 2) (ns:List ah) (fs:List bN)
noncomputable def mC(s:String):List Nat:=(ah.ofString s).cps.toList
noncomputable def num(a:Int):List Nat:=(ah.ofString (toString a)).cps.toList
noncomputable def ZN(k:Fin 4):ah:=[ah.ofString "nothing",ah.ofString "truth",ah.ofString "whole",ah.ofString "fraction"][k]
noncomputable def tS(k:Fin 3):ah:=[ah.ofString "maybe",ah.ofString "many",ah.ofString "turned"][k]
noncomputable def De(k:Fin 2):ah:=[ah.ofString "record",ah.ofString "choice"][k]
mutual
noncomputable def bS:bN->List Nat
 |.bare k=>(ZN k).cps.toList
 |.sp a b=>mC "span"++(mC "("++((num a++(mC ", "++num b))++mC ")"))
 |.le s=>mC "letters"++(mC "("++(s.cps.toList++mC ")"))
 |.one k f=>(tS k).cps.toList++(mC "("++(bS f++mC ")"))
 |.two k ns fs=>(De k).cps.toList++(mC "("++(O9 fs ns++mC ")"))
noncomputable def O9:List bN->List ah->List Nat
 |[],_=>[]
 |f::fs,ns=>(ns.headD ah.empty).cps.toList++(mC " "++(bS f++(match fs with|[]=>[]|_::_=>mC ", "++O9 fs ns.tail)))
end
mutual
noncomputable def bo:bN->Nat
 |.bare _=>1
 |.sp _ _=>1
 |.le _=>1
 |.one _ f=>bo f+1
 |.two _ _ fs=>g8 fs+1
noncomputable def g8:List bN->Nat
 |[]=>0
 |f::fs=>max (bo f) (g8 fs)
end
mutual
noncomputable def mU:bN->Prop
 |.bare _=>True
 |.sp a b=>a<=b/\a.natAbs<10^58/\b.natAbs<10^58
 |.le s=>oi s=au/\s.length<=60
 |.one _ f=>mU f
 |.two _ ns fs=>l7 ns=au/\ns.length=fs.length/\rI fs
noncomputable def rI:List bN->Prop
 |[]=>True
 |f::fs=>mU f/\rI fs
end
structure dF where
 b:Fin 4->ag
 s:ag
 l:ag
 o:Fin 3->ag
 t:Fin 2->ag
mutual
noncomputable def b7(c:dF)(X:List ag)(H:aq):bN->ag->Prop
 |.bare k,o=>o∉X/\∃ai,H o=J (.ins (c.b k) ai [])
 |.sp a b,o=>o∉X/\∃ai,H o=J (.ins c.s ai [("low",.int a),("high",.int b)])
 |.le s,o=>o∉X/\∃ai,H o=J (.ins c.l ai [("signs",.str s)])
 |.one k f,o=>o∉X/\∃ai i,H o=J (.ins (c.o k) ai [("inner",.ref i)])/\b7 c X H f i
 |.two k ns fs,o=>o∉X/\∃ai dE dM os,H o=J (.ins (c.t k) ai [("names",.ref dE),("forms",.ref dM)])/\dE∉X/\dM∉X/\H dE=J (.lst (ns.map V.str))/\H dM=J (.lst (os.map V.ref))/\eQ c X H fs os
noncomputable def eQ(c:dF)(X:List ag)(H:aq):List bN->List ag->Prop
 |[],os=>os=[]
 |f::fs,os=>∃o r,os=o::r/\b7 c X H f o/\eQ c X H fs r
end
def hT(P:c6)(w:cM)(K:bK)(mg:ah->Option ar)(base:br)(k:Nat)(m:ah)(aI:List ah){lT:Type}(cl:lT->ag)(sp:lT->b0):Prop:=∀i,fZ P w K mg base k (cl i) m aI (sp i)/\ff K (cl i)
section
variable {X:bA} {k hD:Nat} {m:ah} {aI:List ah} {lT:Type} {cl:lT->ag} {sp:lT->b0} {e o:cu} {aK:List cu} {t:gx} {cf:TE} {aV apos:Pos}
inductive D1{lT:Type}(cl:lT->ag)(m:ah)(x:V)(H:aq)(R:lT->Prop):Prop where
 |mk (a:ag) (i:lT) (ai:ag) (fs:List (ah×V)) (e:x=.ref a) (h:H a=J (.ins (cl i) ai fs)) (l:fs.lookup m=av) (q:R i):D1 cl m x H R
theorem jq{pl:Sem Bool}(h:hT X.prog X.w X.K X.mg X.base k m aI cl sp)(az:fH hD X.A)(he:ck X o cf)(bh:hr X (e::aK) t)(hk:k<=hD:=by decide)
  (jM:dr (e::aK) X.env=(aA,eval e X.env)::dr aK X.env:=by rfl) (fR:(backTo aV (dr aK X.env)).any (·.1)=aA:=by rfl)
  (bo:eval (.Call (.Attribute o m apos) (e::aK) [] aV) X.env=(do
   let iS <-eval o X.env
   standAt apos.atName
   let (f,first) <-holding [iS] (getMethod iS m pl)
   callWith aV f first (backTo aV (dr (e::aK) X.env)) (backToKw aV (rW [] X.env))):=by rfl) :
  ck X (.Call (.Attribute o m apos) (e::aK) [] aV) (fun ae H Q=>cf ae H fun x H1=>D1 cl m x H1 fun i=>t ae H1 fun vs ax=>sp i (x::vs) ax Q iK):=by
 intro ak s ae H Q aa aY
 refine Du (pl:=pl) (cU (he ak s ae H _ aa aY) fun u s1 bM=>?_) bo
 obtain⟨x,H1,bf,bu,a,i,ai,fs,ex,de,l,q⟩:=bM
 subst ex
 obtain rfl:u=ar.ref a:=bu
 obtain⟨⟨f,fd,F,aj,hm⟩,c⟩:=h i
 refine xm bf de c hm l ?_
 refine wV (first:=[.ref a]) (h₀:=X.base) aa.ok.mod.pk hm.kD (cU (bh aV ak s1 ae H1 _ bf q) fun us s2 bM=>?_) jM fR
 obtain⟨vs,ax,bE,r,cj⟩:=bM
 refine ⟨bE.fT,?_⟩
 exact BB (us :=.ref a::us) (vs :=.ref a::vs) (dvs:=[]) (ds:=[]) F (az.mono hk) aj .nil wy bE (.cons I r) (by rw[List.append_nil];exact cj)
end
structure dO(jJ:ag)(H H':aq):Prop where
 k:∀b u,b≠jJ->H b=J u->H' b=J u
 c:kL H->kL H'
theorem dO.refl(jJ:ag)(H:aq):dO jJ H H:=⟨fun _ _ _ e=>e,id⟩
theorem dO.trans{C:aq}(a:dO jJ A B)(b:dO jJ B C):dO jJ A C:=⟨fun x u n e=>b.k x u n (a.k x u n e),fun c=>b.c (a.c c)⟩
theorem dO.ext{C:aq}(a:dO jJ A B)(b:Ext B C):dO jJ A C:=⟨fun x u n e=>b.s x u (a.k x u n e),fun c=>b.c (a.c c)⟩
theorem dO.move{ai:ag}{fs:List (ah×V)}(h:H jJ=J (.ins C ai fs)):dO jJ H (upd H jJ (.ins C ai oh)) :=
 ⟨fun b u nb e=>by rw[bt nb];exact e,(Sub.ins (H':=upd H jJ (.ins C ai oh)) h (fun b u nb e=>by rw[bt nb];exact e) aG).cl⟩
theorem dO.sub(h:dO jJ H H')(e:H' jJ=J o):Sub H H' H' :=.all (fun b u q=>by
 by_cases z:b=jJ
 .subst z;exact⟨_,e⟩
 .exact⟨u,h.k b u z q⟩) h.c
mutual
theorem b7.keep{c:dF}{X:List ag}{H H':aq}(k:∀b u,b∉X->H b=J u->H' b=J u):∀(f:bN){o:ag},b7 c X H f o->b7 c X H' f o
 |.bare i,o,h=>by
  obtain⟨n,ai,e⟩:=h
  exact⟨n,ai,k _ _ n e⟩
 |.sp a b,o,h=>by
  obtain⟨n,ai,e⟩:=h
  exact⟨n,ai,k _ _ n e⟩
 |.le s,o,h=>by
  obtain⟨n,ai,e⟩:=h
  exact⟨n,ai,k _ _ n e⟩
 |.one i f,o,h=>by
  obtain⟨n,ai,j,e,q⟩:=h
  exact⟨n,ai,j,k _ _ n e,b7.keep k f q⟩
 |.two i ns fs,o,h=>by
  obtain⟨n,ai,dE,dM,os,e,ew,dZ,aU,ba,q⟩:=h
  exact⟨n,ai,dE,dM,os,k _ _ n e,ew,dZ,k _ _ ew aU,k _ _ dZ ba,eQ.keep k fs q⟩
theorem eQ.keep{c:dF}{X:List ag}{H H':aq}(k:∀b u,b∉X->H b=J u->H' b=J u):∀(fs:List bN){os:List ag},eQ c X H fs os->eQ c X H' fs os
 |[],os,h=>h
 |f::fs,os,h=>by
  obtain⟨o,r,e,q,cj⟩:=h
  exact⟨o,r,e,b7.keep k f q,eQ.keep k fs cj⟩
end
mutual
theorem b7.weak{c:dF}{X Y:List ag}{H:aq}(hs:∀x,x∈X->x∈Y):∀(f:bN){o:ag},b7 c Y H f o->b7 c X H f o
 |.bare i,o,h=>⟨fun z=>h.1 (hs _ z),h.2⟩
 |.sp a b,o,h=>⟨fun z=>h.1 (hs _ z),h.2⟩
 |.le s,o,h=>⟨fun z=>h.1 (hs _ z),h.2⟩
 |.one i f,o,h=>by
  obtain⟨n,ai,j,e,q⟩:=h
  exact⟨fun z=>n (hs _ z),ai,j,e,b7.weak hs f q⟩
 |.two i ns fs,o,h=>by
  obtain⟨n,ai,dE,dM,os,e,ew,dZ,aU,ba,q⟩:=h
  exact⟨fun z=>n (hs _ z),ai,dE,dM,os,e,fun z=>ew (hs _ z),fun z=>dZ (hs _ z),aU,ba,eQ.weak hs fs q⟩
theorem eQ.weak{c:dF}{X Y:List ag}{H:aq}(hs:∀x,x∈X->x∈Y):∀(fs:List bN){os:List ag},eQ c Y H fs os->eQ c X H fs os
 |[],os,h=>h
 |f::fs,os,h=>by
  obtain⟨o,r,e,q,cj⟩:=h
  exact⟨o,r,e,b7.weak hs f q,eQ.weak hs fs cj⟩
end
theorem eQ.len{c:dF}{X:List ag}{H:aq}:∀(fs:List bN){os:List ag},eQ c X H fs os->os.length=fs.length
 |[],os,h=>by
  obtain rfl:os=[]:=h
  rfl
 |g::fs,os,h=>by
  obtain⟨o',r,rfl,q,cj⟩:=h
  rw[eA,eQ.len fs cj];rfl
theorem xJ:∀f:bN,1<=bo f
 |.bare _=>by rw[bo];exact cE _
 |.sp _ _=>by rw[bo];exact cE _
 |.le _=>by rw[bo];exact cE _
 |.one _ f=>by rw[bo];omega
 |.two _ _ fs=>by rw[bo];omega
mutual
theorem b7.add{c:dF}{X:List ag}{H:aq}{l:ag}(aC:H l=av):∀(f:bN){o:ag},b7 c X H f o->b7 c (l::X) H f o
 |.bare i,o,h=>by
  obtain⟨n,ai,e⟩:=h
  exact⟨fun z=>(cR.mp z).elim (fun y=>by rw[y,aC]at e;cases e) n,ai,e⟩
 |.sp a b,o,h=>by
  obtain⟨n,ai,e⟩:=h
  exact⟨fun z=>(cR.mp z).elim (fun y=>by rw[y,aC]at e;cases e) n,ai,e⟩
 |.le s,o,h=>by
  obtain⟨n,ai,e⟩:=h
  exact⟨fun z=>(cR.mp z).elim (fun y=>by rw[y,aC]at e;cases e) n,ai,e⟩
 |.one i f,o,h=>by
  obtain⟨n,ai,j,e,q⟩:=h
  exact⟨fun z=>(cR.mp z).elim (fun y=>by rw[y,aC]at e;cases e) n,ai,j,e,b7.add aC f q⟩
 |.two i ns fs,o,h=>by
  obtain⟨n,ai,dE,dM,os,e,ew,dZ,aU,ba,q⟩:=h
  exact⟨fun z=>(cR.mp z).elim (fun y=>by rw[y,aC]at e;cases e) n,ai,dE,dM,os,e,fun z=>(cR.mp z).elim (fun y=>by rw[y,aC]at aU;cases aU) ew,fun z=>(cR.mp z).elim (fun y=>by rw[y,aC]at ba;cases ba) dZ,aU,ba,eQ.add aC fs q⟩
theorem eQ.add{c:dF}{X:List ag}{H:aq}{l:ag}(aC:H l=av):∀(fs:List bN){os:List ag},eQ c X H fs os->eQ c (l::X) H fs os
 |[],os,h=>h
 |f::fs,os,h=>by
  obtain⟨o,r,e,q,cj⟩:=h
  exact⟨o,r,e,b7.add aC f q,eQ.add aC fs cj⟩
end
inductive fI where
 |b (k:Fin 4)|s|l|o (k:Fin 3)|t (k:Fin 2)
noncomputable def fJ(c:dF):fI->ag
 |.b k=>c.b k
 |.s=>c.s
 |.l=>c.l
 |.o k=>c.o k
 |.t k=>c.t k
noncomputable def slot:bN->fI
 |.bare k =>.b k
 |.sp _ _ =>.s
 |.le _ =>.l
 |.one k _ =>.o k
 |.two k _ _ =>.t k
theorem b7.ins{c:dF}{m:ah}(al:(m == ("low":ah))=aA)(aw:(m == ("high":ah))=aA)(bq:(m == ("signs":ah))=aA)(b4:(m == ("inner":ah))=aA)(eb:(m == ("names":ah))=aA)(ij:(m == ("forms":ah))=aA):
  ∀(f:bN){o:ag},b7 c X H f o->∃ai fs,H o=J (.ins (fJ c (slot f)) ai fs)/\fs.lookup m=av
 |.bare i,o,h=>by
  obtain⟨n,ai,e⟩:=h
  exact⟨ai,_,e,I⟩
 |.sp a b,o,h=>by
  obtain⟨n,ai,e⟩:=h
  exact⟨ai,_,e,by simp[List.lookup,al,aw]⟩
 |.le s,o,h=>by
  obtain⟨n,ai,e⟩:=h
  exact⟨ai,_,e,by simp[List.lookup,bq]⟩
 |.one i f,o,h=>by
  obtain⟨n,ai,j,e,q⟩:=h
  exact⟨ai,_,e,by simp[List.lookup,b4]⟩
 |.two i ns fs,o,h=>by
  obtain⟨n,ai,dE,dM,os,e,_⟩:=h
  exact⟨ai,_,e,by simp[List.lookup,eb,ij]⟩
def ahA(t u:eW):eW:=fun D ae H=>∃en:St->aq->Prop,t {D with nx:=en} ae H/\∀bR H',en bR H'->u D bR H'
variable {X:bA}
theorem Bt{st:bz}{rest:List bz}{t u:eW}(al:kq X st t)(aw:h7 X rest u):h7 X (st::rest) (ahA t u):=by
 intro ak s ae H D aa h
 obtain⟨en,h,abw⟩:=h
 refine wpAny_execs_cons (cU (al ak s ae H {D with nx:=en} aa h) fun f s1 q=>?_)
 cases f with
 |next =>
  obtain⟨bR,H',hK,q⟩:=q
  exact aw ak s1 bR H' D hK (abw _ _ q)
 |ret v=>exact q
 |brk=>exact q
 |cont=>exact q
inductive D where
 |bc
 |aE (b:Bool)
 |int (i:Int)
 |str (s:ah)
 |tup (ds:List D)
 |lst (ds:List D)
mutual
noncomputable def d4(H:aq):D->V->Prop
 |.bc,v=>v=.bc
 |.aE b,v=>v=.aE b
 |.int i,v=>v=.int i
 |.str s,v=>v=.str s/\s.length<=16000000
 |.tup ds,v=>∃a vs,v=.ref a/\H a=J (.tup vs)/\dn H ds vs/\vs.length<=1000
 |.lst ds,v=>∃a vs,v=.ref a/\H a=J (.lst vs)/\dn H ds vs/\vs.length<=1000
noncomputable def dn(H:aq):List D->List V->Prop
 |[],vs=>vs=[]
 |d::ds,vs=>∃v r,vs=v::r/\d4 H d v/\dn H ds r
end
mutual
theorem d4.same{H H':aq}(s:d7 H H'):∀(d:D){v:V},d4 H d v->d4 H' d v
 |.bc,v,h=>h
 |.aE b,v,h=>h
 |.int i,v,h=>h
 |.str t,v,h=>h
 |.tup ds,v,h=>by
  obtain⟨a,vs,e,fj,q,z⟩:=h
  exact⟨a,vs,e,s _ _ fj,dn.same s ds q,z⟩
 |.lst ds,v,h=>by
  obtain⟨a,vs,e,fj,q,z⟩:=h
  exact⟨a,vs,e,s _ _ fj,dn.same s ds q,z⟩
theorem dn.same{H H':aq}(s:d7 H H'):∀(ds:List D){vs:List V},dn H ds vs->dn H' ds vs
 |[],vs,h=>h
 |d::ds,vs,h=>by
  obtain⟨v,r,e,q,cj⟩:=h
  exact⟨v,r,e,d4.same s d q,dn.same s ds cj⟩
end
theorem dn.len{H:aq}:∀(ds:List D){vs:List V},dn H ds vs->vs.length=ds.length
 |[],vs,h=>by
  obtain rfl:vs=[]:=h
  rfl
 |g::fs,vs,h=>by
  obtain⟨o',r,rfl,q,cj⟩:=h
  rw[eA,dn.len fs cj];rfl
theorem dn.get{H:aq}:∀(ds:List D){vs:List V}{i:Nat}{v:V},dn H ds vs->vs[i]?=J v->∃d,ds[i]?=J d/\d4 H d v
 |[],vs,i,v,h,e=>by
  obtain rfl:vs=[]:=h
  cases e
 |d::ds,vs,0,v,h,e=>by
  obtain⟨o',r,rfl,q,cj⟩:=h
  cases e
  exact⟨d,I,q⟩
 |d::ds,vs,i+1,v,h,e=>by
  obtain⟨o',r,rfl,q,cj⟩:=h
  exact dn.get ds cj e
noncomputable def qJ:D->String
 |.bc=>"NoneType"
 |.aE _=>"bool"
 |.int _=>"int"
 |.str _=>"str"
 |.tup _=>"tuple"
 |.lst _=>"list"
theorem d4.ty{d:D}(h:d4 H d v):lq K H v (.type (qJ d)):=by
 cases d with
 |bc=>obtain rfl:v=.bc:=h;exact .bc
 |aE b=>obtain rfl:v=.aE b:=h;exact .aE b
 |int i=>obtain rfl:v=.int i:=h;exact .int i
 |str s=>obtain⟨rfl,_⟩:=h;exact .str s
 |tup ds=>obtain⟨a,vs,rfl,e,_⟩:=h;exact .tup e
 |lst ds=>obtain⟨a,vs,rfl,e,_⟩:=h;exact .lst e
noncomputable def adp(d:D)(T:String):Bool:=qJ d == T||(qJ d == "bool"&&T == "int")
theorem Tt(K:bK):∀a∈["NoneType","bool","int","str","tuple","list"],∀T∈["int","bool","str","tuple","list"],fp K (.type a) (.type T)=J (a == T||(a == "bool"&&T == "int")):=by
 intro a bh T cc
 have Cd:a="NoneType"\/a="bool"\/a="int"\/a="str"\/a="tuple"\/a="list":=by simpa using bh
 have vS:T="int"\/T="bool"\/T="str"\/T="tuple"\/T="list":=by simpa using cc
 rcases Cd with rfl|rfl|rfl|rfl|rfl|rfl<;>rcases vS with rfl|rfl|rfl|rfl|rfl<;>
  first
  |exact FN ..
  |(unfold fp;rw[if_neg (by decide)];unfold PySem.W.kitCls;kernel_rfl)
theorem hE(K:bK)(d:D){T:String}(cc:T∈["int","bool","str","tuple","list"]):fp K (.type (qJ d)) (.type T)=J (adp d T):=by
 refine Tt K _ ?_ T cc
 cases d<;>simp[qJ]
section
variable {X:bA}
noncomputable def Iy:V->Bool
 |.bc=>au
 |.aE _=>au
 |.int _=>au
 |.str _=>au
 |.ref _=>au
 |_=>aA
theorem MD:d6 X (hS .Is) (fun x y H Q=>∃b,y=.aE b/\Iy x=au/\Q (.aE (decide (x=.aE b))) H):=by
 intro ak s ae H x y v u Q aa bu cC h
 obtain⟨b,rfl,ay,q⟩:=h
 cases cC
 cases x with
 |bc=>cases bu;exact ey (eX aa q (by cases b<;>rfl))
 |aE c=>cases bu;cases b<;>cases c<;>exact ey (eX aa q I)
 |int i=>obtain⟨t,rfl⟩:=bu;exact ey (eX aa q (by cases b<;>rfl))
 |str i=>obtain⟨t,rfl⟩:=bu;exact ey (eX aa q (by cases b<;>rfl))
 |ref a=>cases bu;exact ey (eX aa q (by cases b<;>rfl))
 |_=>cases ay
end
theorem d4.plain{d:D}(h:d4 H d v):Iy v=au:=by
 cases d with
 |bc=>obtain rfl:v=.bc:=h;rfl
 |aE b=>obtain rfl:v=.aE b:=h;rfl
 |int i=>obtain rfl:v=.int i:=h;rfl
 |str s=>obtain⟨rfl,_⟩:=h;rfl
 |tup ds=>obtain⟨a,vs,rfl,e,_⟩:=h;rfl
 |lst ds=>obtain⟨a,vs,rfl,e,_⟩:=h;rfl
variable {t:ag}
section
variable {prog:c6} {w:cM} {A:dq} {E:ar->aM->Prop} {s:aM}
theorem Wf{x:ar}(pg:s.heap.IsTupleIter it t i)(bo:s.heap.IsTuple t items)(ay:items[i]?=J x)(gh:∀h',h'.IsTupleIter it t (i+1)->br.SameBut it s.heap h'->Q x {s with heap:=h'}):
  bP (model prog w) A (cO.SmallTypes.nextOf (.ref it)) Q E s:=by
 have ty:=pg.typeIs
 have NU:=pg
 obtain⟨o,aL,hc,hd⟩:=pg
 obtain⟨aeX,Hu,_,tO,G8⟩:=bo
 unfold cO.SmallTypes.nextOf
 refine b3 (wpAny_callSpecial?_slot (name:=ah.ofString "__next__") ty F.slot_tuple_iterator_next (wpAny_call_entry F.slot_tuple_iterator_next ty F.entry_tuple_iterator_next ?_ (F.args_tuple_iterator_next_1 _)))
 show bP _ _ (field (.ref it) 0 >>= _) _ _ s
 refine b3 (jB aL hd (x :=.ref t) I ?_)
 have nn:¬((ar.ref t == ar.none)=au):=ht
 show bP _ _ (if(ar.ref t == ar.none)=au then _ else _) _ _ s
 rw[if_neg nn]
 show bP _ _ (field (.ref it) 1 >>= _) _ _ s
 refine b3 (jB aL hd (x :=.int i 0) I ?_)
 show bP _ _ (seqItems? (.ref t) >>= _) _ _ s
 refine b3 (rY Hu G8 ?_)
 simp only[Int.toNat_natCast,ay]
 refine b3 (uz aL hd (by simp) (ey ⟨x,I,ey (gh _ ⟨_,br.get?_update_self _ aL (bH.isFreed_of_fields (bH.data_mapFields hd _)),(bH.cls_mapFields ..).trans hc,?_⟩ (br.SameBut.update ..))⟩))
 rw[bH.data_mapFields hd];simp[rawInt]
theorem WR(fb:A.handled=av)(pg:s.heap.IsTupleIter it t i)(bo:s.heap.IsTuple t items)(ay:items[i]?=av)(pf:∀h' e,br.ExtBut it s.heap h'->(∃o,h'.get? e=J o/\o.cls=.type "StopIteration")->E (.ref e) {s with heap:=h'}):
  bP (model prog w) A (cO.SmallTypes.nextOf (.ref it)) Q E s:=by
 have ty:=pg.typeIs
 obtain⟨o,aL,hc,hd⟩:=pg
 obtain⟨aeX,Hu,_,tO,G8⟩:=bo
 unfold cO.SmallTypes.nextOf
 refine b3 (wpAny_callSpecial?_slot (name:=ah.ofString "__next__") ty F.slot_tuple_iterator_next (wpAny_call_entry F.slot_tuple_iterator_next ty F.entry_tuple_iterator_next ?_ (F.args_tuple_iterator_next_1 _)))
 show bP _ _ (field (.ref it) 0 >>= _) _ _ s
 refine b3 (jB aL hd (x :=.ref t) I ?_)
 have nn:¬((ar.ref t == ar.none)=au):=ht
 show bP _ _ (if(ar.ref t == ar.none)=au then _ else _) _ _ s
 rw[if_neg nn]
 show bP _ _ (field (.ref it) 1 >>= _) _ _ s
 refine b3 (jB aL hd (x :=.int i 0) I ?_)
 show bP _ _ (seqItems? (.ref t) >>= _) _ _ s
 refine b3 (rY Hu G8 ?_)
 simp only[Int.toNat_natCast,ay]
 refine b3 (wpAny_rule (b3 (uz aL hd (by simp) ?_)))
 show bP _ _ (newExc (.type "StopIteration") [] >>= _) _ _ _
 refine b3 ?_
 simp only[newExc,newTuple]
 refine b3 (wpAny_newObj_type ?_ (by size_fits))
 refine b3 (m:=firstArgMember _ _) (wpAny_of_eq (a:=ar.none) (by first|rfl|(simp only[firstArgMember];rfl)) ?_)
 refine wpAny_newObj_type ?_ (by size_fits)
 simp only[raiseNew]
 refine b3 (wpAny_handled ?_)
 first|rw[show A.in1.handled=av from fb]|rw[fb]
 exact b3 (ey (wpAny_throw (pf _ _ (((br.SameBut.update ..).extBut.push _).push _) ⟨_,hi _ I,I⟩)))
end
theorem ais(x:h.IsTuple a items)(k:∀o,h.get? a=J o->h'.get? a=J o):h'.IsTuple a items :=
 let ⟨o,aL,r⟩:=x;⟨o,k o aL,r⟩
theorem Q4(x:h.IsTupleIter a t i)(k:∀o,h.get? a=J o->h'.get? a=J o):h'.IsTupleIter a t i :=
 let ⟨o,aL,r⟩:=x;⟨o,k o aL,r⟩
theorem Draws.tup{A:dq}(fb:A.handled=av)(it t:ag)(kc:t≠it)(items:Array ar):
  Draws prog w A it [it,t] items.size (fun i v=>items[i]?=J v) (fun i h=>h.IsTupleIter it t i/\h.IsTuple t items) where
 live:=fun _ _ st=>let ⟨o,aL,_⟩:=st.1;⟨o,aL⟩
 frame:=fun _ _ _ st hk=>⟨Q4 st.1 fun o e=>hk it (by simp) o e,ais st.2 fun o e=>hk t (by simp) o e⟩
 item:=fun i s Q E aJ st gh=>Wf st.1 st.2 (x:=items[i]) (by simp[aJ]) fun h' NU jg=>gh _ h' s.toks (by simp[aJ]) ⟨NU,st.2.extBut jg.extBut kc⟩ jg
 done:=fun s Q E st pf=>WR fb st.1 st.2 (by simp) pf
structure vl(z dJ di d9 df:ag)(nr nt:List ag):Prop where
 TIz:dJ≠z
 TOz:di≠z
 i1z:d9≠z
 i2z:df≠z
 TITO:dJ≠di
 TIi1:dJ≠d9
 TIi2:dJ≠df
 TOi1:di≠d9
 TOi2:di≠df
 du:z∉nr
 Io:di∉nr
 adt:df∉nr
 dy:z∉nt
 yQ:di∉nt
 Oo:d9∉nt
section
variable {prog:c6} {w:cM} {A:dq} {E:ar->aM->Prop} {s:aM}
variable {z dJ di d9 df:ag} {nr nt:List ag} {ew dZ i:Nat} {u6 u7:Nat->ar->Prop} {gD hW:Nat->br->Prop}
theorem Draws.but{A:dq}{b:ag}{i:Nat}{P:Nat->ar->Prop}{St:Nat->br->Prop}(D:Draws prog w A it b9 n P St)(x:br.ExtBut b h h')(aj:b∉b9)(st:St i h):St i h' :=
 D.frame i h h' st fun c hc o e=>x c o (fun z=>aj (z ▸ hc)) e
theorem SQ{a b:ar}(dC:Draws prog w A d9 nr ew u6 gD)(hq:Draws prog w A df nt dZ u7 hW)(Z:vl z dJ di d9 df nr nt)(bL:IsZip s.heap z dJ di .none)(ti:IsPair s.heap dJ (.ref d9) (.ref df))(tj:IsPair s.heap di a b)(dE:i<ew)(dM:i<dZ)(t1:gD i s.heap)(gV:hW i s.heap)
  (gh:∀x y h' dg,u6 i x->u7 i y->IsZip h' z dJ di (rawInt s.heap.objs.size)->IsPair h' di x y->gD (i+1) h'->hW (i+1) h'->IsPair h' s.heap.objs.size x y->(∀c o,c≠z->c≠di->c≠d9->c≠df->s.heap.get? c=J o->h'.get? c=J o)->Q (.ref s.heap.objs.size) {s with heap:=h',toks:=dg}) :
  bP (model prog w) A (cO.«zip.__next__» ⟨[.ref z],[]⟩) (fun cY aX=>∃v,cY=.done (.ret v)/\Q v aX) E s:=by
 show bP _ _ (field (.ref z) 2 >>= _) _ _ _
 refine b3 (jB bL I (x :=.bool aA) I ?_)
 show bP _ _ (field (.ref z) 3 >>= _) _ _ _
 refine b3 (jB bL I (x :=.ref dJ) I (b3 (rY ti I ?_)))
 show bP _ _ (cO.SmallTypes.ownedTupleIsFree (.ref z) >>= _) _ _ _
 refine b3 ?_
 unfold cO.SmallTypes.ownedTupleIsFree
 refine b3 (jB bL I (x :=.none) I (ey ?_))
 simp only[if_true]
 refine b3 (wpAny_rule (b3 (jB bL I (x :=.ref di) I (b3 (wW bL (by simp) fun bh rV nR=>?_)))))
 replace rV:IsZip bh z dJ di .ellipsis:=rV
 refine b3 ?_
 simp only[List.zipIdx_cons,List.zipIdx_nil,List.forIn_cons,List.forIn_nil]
 refine b3 (b3 (wpAny_onRaise ?_))
 show bP _ _ (cO.SmallTypes.nextOf (.ref d9) >>= _) _ _ _
 refine b3 (dC.item i _ _ _ dE (Draws.but dC nR.extBut Z.du t1) fun x aj Q0 dm dp m2=>ey ?_)
 have dX:IsPair aj di a b:=m2.extBut _ _ Z.TOi1 (nR.extBut _ _ Z.TOz tj)
 refine b3 (rY dX I (b3 (wpAny_updateSeq_pair dX fun hc iB hb=>?_)))
 replace iB:IsPair hc di x b:=iB
 refine b3 (wpAny_letGo (ey ?_))
 refine b3 (b3 (wpAny_onRaise ?_))
 show bP _ _ (cO.SmallTypes.nextOf (.ref df) >>= _) _ _ _
 refine b3 (hq.item i _ _ _ dM (Draws.but hq hb.extBut Z.yQ (Draws.but hq m2.extBut Z.Oo (Draws.but hq nR.extBut Z.dy gV))) fun y hd aib cD ah8 kG=>ey ?_)
 have od:IsPair hd di x b:=kG.extBut _ _ Z.TOi2 iB
 refine b3 (rY od I (b3 (wpAny_updateSeq_pair od fun he e0 xe=>?_)))
 replace e0:IsPair he di x y:=e0
 refine b3 (wpAny_letGo (ey (ey ?_)))
 refine b3 (rY e0 I (b3 (wpAny_newTuple ?_)))
 have dI:he.objs.size=s.heap.objs.size:=by rw[xe.1,kG.1,hb.1,m2.1,nR.1]
 have Rh:IsZip he z dJ di .ellipsis:=xe.extBut _ _ Z.TOz.symm (kG.extBut _ _ Z.i2z.symm (hb.extBut _ _ Z.TOz.symm (m2.extBut _ _ Z.i1z.symm rV)))
 have Oy:z<he.objs.size:=eu Rh
 show bP _ _ (cO.SmallTypes.ownedTupleHandOut (.ref z) (.ref he.objs.size) >>= _) _ _ _
 refine b3 ?_
 unfold cO.SmallTypes.ownedTupleHandOut
 refine b3 (wW (show IsZip (he.push {cls :=.type "tuple",data :=.seq #[x,y]}) z dJ di .ellipsis from fO _ Rh) (by simp) fun aH Ju zm=>?_)
 replace Ju:IsZip aH z dJ di (rawInt he.objs.size):=Ju
 refine wW Ju (by simp) fun bb Dl Rc=>ey ⟨_,I,?_⟩
 replace Dl:IsZip bb z dJ di (rawInt he.objs.size):=Dl
 have up:br.ExtBut z he bb:=fun c o dA e=>Rc.extBut _ _ dA (zm.extBut _ _ dA (fO _ e))
 have pn:IsPair bb he.objs.size x y:=Rc.extBut _ _ (Nat.ne_of_gt Oy) (zm.extBut _ _ (Nat.ne_of_gt Oy) (hi _ rfl))
 have ah9:gD (i+1) bb:=Draws.but dC up Z.du (Draws.but dC xe.extBut Z.Io (Draws.but dC kG.extBut Z.adt (Draws.but dC hb.extBut Z.Io dp)))
 have aia:hW (i+1) bb:=Draws.but hq up Z.dy (Draws.but hq xe.extBut Z.yQ ah8)
 show Q (.ref he.objs.size) _
 rw[dI]at Dl pn ⊢
 exact gh x y bb aib dm cD Dl (up _ _ Z.TOz e0) ah9 aia pn fun c o dA g0 hj xM e=>up c o dA (xe.extBut _ _ g0 (kG.extBut _ _ xM (hb.extBut _ _ g0 (m2.extBut _ _ hj (nR.extBut _ _ dA e)))))
theorem TO{a b:ar}{Q:Fin->aM->Prop}(dC:Draws prog w A d9 nr ew u6 gD)(hq:Draws prog w A df nt dZ u7 hW)(Z:vl z dJ di d9 df nr nt)(bL:IsZip s.heap z dJ di .none)(ti:IsPair s.heap dJ (.ref d9) (.ref df))(tj:IsPair s.heap di a b)(l:i=ew\/(i<ew/\i=dZ))(t1:gD i s.heap)(gV:hW i s.heap)
  (pf:∀h' e dg,(∀c o,c≠z->c≠di->c≠d9->c≠df->s.heap.get? c=J o->h'.get? c=J o)->(∃o,h'.get? e=J o/\o.cls=.type "StopIteration")->E (.ref e) {s with heap:=h',toks:=dg}) :
  bP (model prog w) A (cO.«zip.__next__» ⟨[.ref z],[]⟩) Q E s:=by
 show bP _ _ (field (.ref z) 2 >>= _) _ _ _
 refine b3 (jB bL I (x :=.bool aA) I ?_)
 show bP _ _ (field (.ref z) 3 >>= _) _ _ _
 refine b3 (jB bL I (x :=.ref dJ) I (b3 (rY ti I ?_)))
 show bP _ _ (cO.SmallTypes.ownedTupleIsFree (.ref z) >>= _) _ _ _
 refine b3 ?_
 unfold cO.SmallTypes.ownedTupleIsFree
 refine b3 (jB bL I (x :=.none) I (ey ?_))
 simp only[if_true]
 refine b3 (wpAny_rule (b3 (jB bL I (x :=.ref di) I (b3 (wW bL (by simp) fun bh rV nR=>?_)))))
 replace rV:IsZip bh z dJ di .ellipsis:=rV
 refine b3 ?_
 simp only[List.zipIdx_cons,List.zipIdx_nil,List.forIn_cons,List.forIn_nil]
 refine b3 (b3 (wpAny_onRaise ?_))
 show bP _ _ (cO.SmallTypes.nextOf (.ref d9) >>= _) _ _ _
 rcases l with rfl|⟨dE,rfl⟩
 ·refine b3 (dC.done _ _ _ (Draws.but dC nR.extBut Z.du t1) fun aj e m2 he=>?_)
  obtain⟨e0,ge,ce⟩:=he
  have Rf:IsZip aj z dJ di .ellipsis:=m2 _ _ Z.i1z.symm rV
  have Gs:e≠z:=fun x=>by subst x;rw[Rf]at ge;cases ge;simp at ce
  exact wW Rf (by simp) fun hc _ hb=>pf hc e s.toks (fun c o dA _ hj _ g=>hb.extBut _ _ dA (m2 _ _ hj (nR.extBut _ _ dA g))) ⟨e0,hb.extBut _ _ Gs ge,ce⟩
 ·refine b3 (dC.item i _ _ _ dE (Draws.but dC nR.extBut Z.du t1) fun x aj Q0 dm dp m2=>ey ?_)
  have dX:IsPair aj di a b:=m2.extBut _ _ Z.TOi1 (nR.extBut _ _ Z.TOz tj)
  refine b3 (rY dX I (b3 (wpAny_updateSeq_pair dX fun hc iB hb=>?_)))
  refine b3 (wpAny_letGo (ey ?_))
  refine b3 (b3 (wpAny_onRaise ?_))
  show bP _ _ (cO.SmallTypes.nextOf (.ref df) >>= _) _ _ _
  refine b3 (hq.done _ _ _ (Draws.but hq hb.extBut Z.yQ (Draws.but hq m2.extBut Z.Oo (Draws.but hq nR.extBut Z.dy gV))) fun hd e kG he=>?_)
  obtain⟨e0,ge,ce⟩:=he
  have Rg:IsZip hd z dJ di .ellipsis:=kG _ _ Z.i2z.symm (hb.extBut _ _ Z.TOz.symm (m2.extBut _ _ Z.i1z.symm rV))
  have Gs:e≠z:=fun x=>by subst x;rw[Rg]at ge;cases ge;simp at ce
  exact wW Rg (by simp) fun aH _ zm=>pf aH e Q0 (fun c o dA g0 hj xM g=>zm.extBut _ _ dA (kG _ _ xM (hb.extBut _ _ g0 (m2.extBut _ _ hj (nR.extBut _ _ dA g))))) ⟨e0,zm.extBut _ _ Gs ge,ce⟩
theorem We{a b:ar}{Q:Option ar->aM->Prop}(dC:Draws prog w A.in1 d9 nr ew u6 gD)(hq:Draws prog w A.in1 df nt dZ u7 hW)(Z:vl z dJ di d9 df nr nt)(bL:IsZip s.heap z dJ di .none)(ti:IsPair s.heap dJ (.ref d9) (.ref df))(tj:IsPair s.heap di a b)(dE:i<ew)(dM:i<dZ)(t1:gD i s.heap)(gV:hW i s.heap)
  (gh:∀x y h' dg,u6 i x->u7 i y->IsZip h' z dJ di (rawInt s.heap.objs.size)->IsPair h' di x y->gD (i+1) h'->hW (i+1) h'->IsPair h' s.heap.objs.size x y->(∀c o,c≠z->c≠di->c≠d9->c≠df->s.heap.get? c=J o->h'.get? c=J o)->Q (J (.ref s.heap.objs.size)) {s with heap:=h',toks:=dg}) :
  bP (model prog w) A (pyNext (.ref z)) Q E s:=by
 have cc:s.TypeIs (.ref z) "zip":=⟨_,bL,rfl⟩
 unfold pyNext
 exact b3 (wpAny_attempt (wpAny_callSpecial?_slot (name:=ah.ofString "__next__") cc F.slot_zip_next (wpAny_call_entry F.slot_zip_next cc F.entry_zip_next (SQ dC hq Z bL ti tj dE dM t1 gV fun x y h' dg a1 a2 a3 a4 a5 a6 a7 a8=>ey (gh x y h' dg a1 a2 a3 a4 a5 a6 a7 a8)) (F.args_zip_next_1 _))))
theorem WQ{a b:ar}{Q:Option ar->aM->Prop}(dC:Draws prog w A.in1 d9 nr ew u6 gD)(hq:Draws prog w A.in1 df nt dZ u7 hW)(Z:vl z dJ di d9 df nr nt)(bL:IsZip s.heap z dJ di .none)(ti:IsPair s.heap dJ (.ref d9) (.ref df))(tj:IsPair s.heap di a b)(l:i=ew\/(i<ew/\i=dZ))(t1:gD i s.heap)(gV:hW i s.heap)
  (gh:∀h' dg,(∀c o,c≠z->c≠di->c≠d9->c≠df->s.heap.get? c=J o->h'.get? c=J o)->Q av {s with heap:=h',toks:=dg}) :
  bP (model prog w) A (pyNext (.ref z)) Q E s:=by
 have cc:s.TypeIs (.ref z) "zip":=⟨_,bL,rfl⟩
 unfold pyNext
 refine b3 (wpAny_attempt (wpAny_callSpecial?_slot (name:=ah.ofString "__next__") cc F.slot_zip_next (wpAny_call_entry F.slot_zip_next cc F.entry_zip_next (TO dC hq Z bL ti tj l t1 gV fun h' e dg hk he=>?_) (F.args_zip_next_1 _))))
 obtain⟨o,aL,hc⟩:=he
 exact b3 (wpAny_isInstance (T:="StopIteration") (b:=au) ⟨o,aL,hc⟩ isSubtype_stop (ey (gh _ _ hk)))
end
theorem ajd{a b:Nat}(al:a<n)(aw:b<n):vl (n+4) (n+2) (n+3) n (n+1) [n,a] [n+1,b]:=by
 have nm:∀{x y z:Nat},x≠y->x≠z->x∉[y,z]:=fun aU ba h=>by
  rcases cR.mp h with h|h
  .exact aU h
  .exact ba (ft.mp h)
 refine⟨?_,?_,?_,?_,?_,?_,?_,?_,?_,nm ?_ ?_,nm ?_ ?_,nm ?_ ?_,nm ?_ ?_,nm ?_ ?_,nm ?_ ?_⟩<;>(show(_:Nat)≠_;omega)
section
variable {prog:c6} {w:cM} {A:dq} {E:ar->aM->Prop} {s:aM}
noncomputable abbrev Dn(h:br)(a:ag):br:=h.push {cls :=.type "list_iterator",data :=.fields #[.ref a,.int 0 0]}
noncomputable abbrev Dp(h:br)(a b:ag):br:=(Dn h a).push {cls :=.type "tuple_iterator",data :=.fields #[.ref b,.int 0 0]}
noncomputable abbrev Dq(h:br)(a b:ag):br:=(Dp h a b).push {cls :=.type "tuple",data :=.seq #[.ref h.objs.size,.ref (Dn h a).objs.size]}
noncomputable abbrev Dr(h:br)(a b:ag):br:=(Dq h a b).push {cls :=.type "tuple",data :=.seq #[.none,.none]}
noncomputable abbrev wR(h:br)(a b:ag):br:=(Dr h a b).push {cls :=.type "zip",data :=.fields #[.none,.bool aA,.bool aA,.ref (Dp h a b).objs.size,.ref (Dq h a b).objs.size]}
theorem SR(a b:ag)(xs aN:Array ar):
  Meets (cO.«zip.__new__» ⟨[.type "zip",.ref a,.ref b],[]⟩) (fun _ R s=>s.heap.IsList a xs/\s.heap.IsTuple b aN/\R (.ok (.ret (.ref (Dr s.heap a b).objs.size))) {s with heap:=wR s.heap a b}) :=
 .of_wp fun prog w A R s h=>by
  obtain⟨aO,g,d,dg,os⟩:=s
  obtain⟨aU,ba,h⟩:=h
  have acT:=sub_zip
  have gr:br.IsList (aM.heap ⟨aO,g,d,dg,os⟩) a xs:=aU
  have pv:br.IsTuple (aM.heap ⟨aO.push {cls :=.type "list_iterator",data :=.fields #[.ref a,.int 0 0]},g,d,dg,os⟩) b aN:=br.IsTuple.push ba _
  wp_walk using wpAny_pyIter_list gr,wpAny_pyIter_tuple pv
  exact⟨_,I,h⟩
theorem Zs{b:ag}{xs aN:Array ar}(aU:s.heap.IsList a xs)(ba:s.heap.IsTuple b aN)
  (h:∀h',IsZip h' (s.heap.objs.size+4) (s.heap.objs.size+2) (s.heap.objs.size+3) .none->IsPair h' (s.heap.objs.size+2) (.ref s.heap.objs.size) (.ref (s.heap.objs.size+1))->IsPair h' (s.heap.objs.size+3) .none .none->h'.IsListIter s.heap.objs.size a 0->h'.IsTupleIter (s.heap.objs.size+1) b 0->(∀c o,s.heap.get? c=J o->h'.get? c=J o)->Q (.ref (s.heap.objs.size+4)) {s with heap:=h'}) :
  bP (model prog w) A (call (.type "zip") [.ref a,.ref b]) Q E s:=by
 refine callType_new F.called_zip (by decide) (F.typeCall_zip_2 _ _) (F.newCall_zip_2 _ _) (fun obj=>F.args_object_init_3 obj _ _) F.entry_zip_new (SR a b xs aN) ⟨aU,ba,?_⟩
 have up:∀{h:br}{c o o'},h.get? c=J o->(h.push o').get? c=J o:=fun e=>fO _ e
 have s1:(Dn s.heap a).objs.size=s.heap.objs.size+1:=br.size_push ..
 have s2:(Dp s.heap a b).objs.size=s.heap.objs.size+2:=by rw[br.size_push,s1]
 have iC:(Dq s.heap a b).objs.size=s.heap.objs.size+3:=by rw[br.size_push,s2]
 have qF:(Dr s.heap a b).objs.size=s.heap.objs.size+4:=by rw[br.size_push,iC]
 have Gw:(wR s.heap a b).get? (Dr s.heap a b).objs.size=J _:=hi _ rfl
 have tb:(wR s.heap a b).get? (Dq s.heap a b).objs.size=J _:=up (hi _ rfl)
 have g3:(wR s.heap a b).get? (Dp s.heap a b).objs.size=J _:=up (up (hi _ rfl))
 have g2:(wR s.heap a b).get? (Dn s.heap a).objs.size=J _:=up (up (up (hi _ rfl)))
 have g1:(wR s.heap a b).get? s.heap.objs.size=J _:=up (up (up (up (hi _ rfl))))
 show _/\_
 rw[s2,iC,qF]at Gw
 rw[iC]at tb
 rw[s1,s2]at g3
 rw[s1]at g2
 rw[qF]
 exact⟨⟨_,Gw,I⟩,h _ Gw g3 tb ⟨_,g1,I,I⟩ ⟨_,g2,I,I⟩ fun c o e=>up (up (up (up (up e))))⟩
end
noncomputable def zG(K:bK)(a b:ag)(xs aN:List V):ko :=
 ⟨fun i H=>c3 K H a xs/\gY K H b aN/\i<min xs.length aN.length,fun i H x H'=>∃(T:ag)(u v:V),H T=av/\xs[i]?=J u/\aN[i]?=J v/\x=.ref T/\H'=upd H T (.tup [u,v]),fun i H=>c3 K H a xs/\gY K H b aN/\min xs.length aN.length<=i⟩
theorem fD{xs:Array ar}(x:IsTup h a xs):h.IsTuple a xs:=x
theorem XV(a b z dJ di d9 df:ag)(xs aN:List V)(ew:a≠d9)(dZ:b≠df)(D:vl z dJ di d9 df [d9,a] [df,b]):
  Turn P w K (.Tuple elts k aV) (zG K a b xs aN) [z,dJ,di,d9,df] z (fun i h=>i<=min xs.length aN.length/\IsZip h z dJ di .none/\IsPair h dJ (.ref d9) (.ref df)/\(∃a b,IsPair h di a b)/\h.IsListIter d9 a i/\h.IsTupleIter df b i) where
 mem:=by simp
 obj:=fun i h st c hc=>by
  obtain⟨_,ir,iV,⟨p,q,kj⟩,nL,jz⟩:=st
  rcases cR.mp hc with e|hc
  .subst e;exact⟨_,ir,fun v z=>by cases z⟩
  rcases cR.mp hc with e|hc
  .subst e;exact⟨_,iV,fun v z=>by cases z⟩
  rcases cR.mp hc with e|hc
  .subst e;exact⟨_,kj,fun v z=>by cases z⟩
  rcases cR.mp hc with e|hc
  ·subst e
   obtain⟨o,e,c,d⟩:=nL
   exact⟨o,e,fun v z=>by rw[d]at z;cases z⟩
  ·obtain rfl:=ft.mp hc
   obtain⟨o,e,c,d⟩:=jz
   exact⟨o,e,fun v z=>by rw[d]at z;cases z⟩
 keep:=fun i h h' st k=>by
  obtain⟨aJ,ir,iV,⟨p,q,kj⟩,nL,jz⟩:=st
  exact⟨aJ,k z (by simp) _ ir,k dJ (by simp) _ iV,⟨p,q,k di (by simp) _ kj⟩,nL.at fun o e=>k d9 (by simp) o e,Q4 jz fun o e=>k df (by simp) o e⟩
 item:=by
  intro X cP hw gm hc i ak s ae H E aa aH st bb
  subst cP hw gm
  obtain⟨oy,mQ,aJ⟩:=bb
  obtain⟨iq,oG,dm,yC⟩:=aa.list oy
  obtain⟨fS,oH,cD,yD⟩:=aa.tuple mQ
  have Hi:=oG.length
  have Hj:=oH.length
  obtain⟨_,ir,iV,⟨yV,ae0,kj⟩,nL,jz⟩:=st
  have fb:=aa.ok.hd hc
  refine We (i:=i) (Draws.list (A:=X.A.in1) fb d9 a ew iq.toArray) (Draws.tup (A:=X.A.in1) fb df b dZ fS.toArray) D ir iV kj (by rw[eH];omega) (by rw[eH];omega) ⟨nL,dm.isList⟩ ⟨jz,fD cD⟩ fun gc dt h' dg qv qw dA g0 hj xM BI eK=>?_
  refine⟨_,I,wpAny_letOwnedTupleGo_zip dA fun GQ ZO aiS=>?_⟩
  have HL:iq[i]?=J gc:=by simpa using qv
  have HM:fS[i]?=J dt:=by simpa using qw
  have lM:xs[i]?=J (xs[i]'(by omega)):=c4 _
  have yB:aN[i]?=J (aN[i]'(by omega)):=c4 _
  obtain⟨v1,kC,qE⟩:=oG.get lM
  obtain⟨v2,lK,eO⟩:=oH.get yB
  rw[HL]at kC;cases kC
  rw[HM]at lK;cases lK
  have cc:s.heap.objs.size<=s.heap.objs.size:=cE _
  have ya:=aa.aT.fresh cc
  have lt:∀{c o},s.heap.get? c=J o->c≠s.heap.objs.size:=fun e=>fU (eu e)
  have CB:∀c∈[z,dJ,di,d9,df],c≠s.heap.objs.size:=fun c eS=>by
   rcases cR.mp eS with e|eS
   .rw[e];exact lt ir
   rcases cR.mp eS with e|eS
   .rw[e];exact lt iV
   rcases cR.mp eS with e|eS
   .rw[e];exact lt kj
   rcases cR.mp eS with e|eS
   .rw[e];obtain⟨o,e,_⟩:=nL;exact lt e
   .rw[ft.mp eS];obtain⟨o,e,_⟩:=jz;exact lt e
  have we:br.ExtBut z h' GQ:=aiS.extBut
  refine⟨.ref s.heap.objs.size,upd H s.heap.objs.size (.tup [xs[i]'(by omega),aN[i]'(by omega)]),?_,I,⟨_,_,_,ya,lM,yB,I,I⟩,⟨by omega,ZO,we _ _ D.TIz (eK _ _ D.TIz D.TITO D.TIi1 D.TIi2 iV),⟨_,_,we _ _ D.TOz g0⟩,hj.1.extBut we D.i1z,xM.1.extBut we D.i2z⟩,fun c eS=>?_⟩
  ·refine aa.Dd (ch:=[z,di,d9,df]) (t':=dg) (fun c o nA qf=>?_) (fun c eS=>aH c ?_) cc ?_
   ·have nn:∀{d:ag},d∈[z,di,d9,df]->c≠d:=fun hd e=>nA (e ▸ hd)
    exact we c o (nn (by simp)) (eK c o (nn (by simp)) (nn (by simp)) (nn (by simp)) (nn (by simp)) qf)
   ·rcases cR.mp eS with e|eS
    .rw[e];simp
    .exact dP _ (dP _ eS)
   ·refine⟨by show 2<=bU;decide,[gc,dt],.cons qE (.cons eO .nil),?_⟩
    exact⟨_,we _ _ (CB z (by simp)).symm BI,I,_,I⟩
  ·rw[bt (CB c eS)]
   exact(aH c eS).1
 done:=by
  intro X cP hw gm hc i ak s ae H E aa aH st bb
  subst cP hw gm
  obtain⟨oy,mQ,aJ⟩:=bb
  obtain⟨iq,oG,dm,yC⟩:=aa.list oy
  obtain⟨fS,oH,cD,yD⟩:=aa.tuple mQ
  have Hi:=oG.length
  have Hj:=oH.length
  obtain⟨hle,ir,iV,⟨yV,ae0,kj⟩,nL,jz⟩:=st
  have fb:=aa.ok.hd hc
  refine WQ (i:=i) (Draws.list (A:=X.A.in1) fb d9 a ew iq.toArray) (Draws.tup (A:=X.A.in1) fb df b dZ fS.toArray) D ir iV kj (by rw[eH,eH];omega) ⟨nL,dm.isList⟩ ⟨jz,fD cD⟩ fun h' dg eK=>⟨I,aa.Jg (ch:=[z,di,d9,df]) (t':=dg) (fun c o nA qf=>?_) fun c eS=>aH c ?_⟩
  ·have nn:∀{d:ag},d∈[z,di,d9,df]->c≠d:=fun hd e=>nA (e ▸ hd)
   exact eK c o (nn (by simp)) (nn (by simp)) (nn (by simp)) (nn (by simp)) qf
  ·rcases cR.mp eS with e|eS
   .rw[e];simp
   .exact dP _ (dP _ eS)
 self:=fun A i s Q E st h=>wpAny_pyIter_zip st.2.1 h
section
variable {X:bA}
def adm(K:bK)(cf:gx):dJ:=fun ae H R=>cf ae H fun vs H1=>∃a b xs aN,vs=[.ref a,.ref b]/\c3 K H1 a xs/\gY K H1 b aN/\R (zG K a b xs aN) H1
theorem Md{l m:cu}{p:Pos}(bb:h6 X "zip")(hm:X.mg "zip"=av)(bh:hr X [l,m] cf)(hs:dr [l,m] X.env=[(aA,eval l X.env),(aA,eval m X.env)]:=by rfl)(fl:dr [m] X.env=[(aA,eval m X.env)]:=by rfl):
  i2 X (.Tuple elts k rQ) (.Call (.Name "zip" p) [l,m] [] aV) (adm X.K cf):=by
 intro ak s ae H R aa h
 refine Call_ (nj aa bb hm boot_zip (PyProof.Rows.callWith_type1 (cU (bh aV ak s ae H (fun vs H1=>∃a b xs aN,vs=[.ref a,.ref b]/\c3 X.K H1 a xs/\gY X.K H1 b aN/\R (zG X.K a b xs aN) H1) aa h) fun us s1 ⟨vs,H1,bf,cd,cg⟩=>?_) (by rw[hs,fl]) (by rw[fl];rfl)))
 obtain⟨a,b,xs,aN,rfl,oy,mQ,q⟩:=cg
 obtain⟨gc,dt,rfl,qE,eO⟩:=vals2 cd
 obtain rfl:gc=ar.ref a:=qE
 obtain rfl:dt=ar.ref b:=eO
 obtain⟨iq,oG,dm,yC⟩:=bf.list oy
 obtain⟨fS,oH,cD,yD⟩:=bf.tuple mQ
 have dE:a<s1.heap.objs.size:=by obtain⟨o,aL,_⟩:=dm.isList;exact eu aL
 have dM:b<s1.heap.objs.size:=by obtain⟨o,aL,_⟩:=fD cD;exact eu aL
 refine Zs dm.isList (fD cD) fun h' du dy hI zp uu eK=>?_
 have bE:Inv X ak ae H1 {s1 with heap:=h'}:=bf.kept (t':=s1.toks) eK
 refine wpAny_pyIter_zip du ?_
 refine⟨_,_,_,_,H1,I,bE,XV a b _ _ _ _ _ xs aN (fU dE) (fU (Nat.lt_succ_of_lt dM)) (ajd dE dM),⟨UF _,du,dy,⟨_,_,hI⟩,zp,uu⟩,fun c hc=>?_,q⟩
 have mc:s1.heap.objs.size<=c:=by
  rcases cR.mp hc with e|hc
  .rw[e];exact Nat.le_add_right ..
  rcases cR.mp hc with e|hc
  .rw[e];exact Nat.le_add_right ..
  rcases cR.mp hc with e|hc
  .rw[e];exact Nat.le_add_right ..
  rcases cR.mp hc with e|hc
  .rw[e];exact cE _
  .rw[ft.mp hc];exact Nat.le_succ _
 exact bf.og mc (bf.aT.fresh mc)
end
theorem Ly{b:ag}{Q:bG}{D:ag}(gI:Nat->V)(S:St->Prop)(bL:min xs.length aN.length<=100000)(bg:S fo)(c0:H D=av)(jx:c3 K H a xs)(gR:gY K H b aN)
  (bo:∀i x y,xs[i]?=J x->aN[i]?=J y->∀bO H1 T,S bO->d7 H H1->H1 T=av->∀R:St->V->aq->Prop,(∀bC bJ,S bC->d7 (upd H1 T (.tup [x,y])) bJ->R bC (gI i) bJ)->g (.ref T) bO (upd H1 T (.tup [x,y])) fun bC ax=>cL bC ax fun z bJ=>R bC z bJ)
  (aY:∀H':aq,d7 H H'->H' D=J (.lst ((List.range (min xs.length aN.length)).map gI))->Q (.ref D) H') :
  mu (zG K a b xs aN) g pF cL Q fo H D:=by
 refine⟨fun i m bO ax=>i<=min xs.length aN.length/\m=min xs.length aN.length-i/\S bO/\d7 H ax/\ax D=J (.lst ((List.range i).map gI)),⟨min xs.length aN.length,UF _,I,bg,dc c0,aG⟩,?_⟩
 rintro i m bO ax ⟨al,rfl,aw,hs,je⟩
 have cg:=hs.seq jx
 have cj:gY K ax b aN:=gR.elim (fun e =>.inl (e.elim (fun e =>.inl (hs _ _ e)) fun⟨o,e⟩ =>.inr ⟨o,hs _ _ e⟩)) .inr
 rcases hv i (min xs.length aN.length)with z|z
 ·refine .inr ⟨⟨cg,cj,z⟩,?_⟩
  rintro x bJ ⟨T,u,v,cc,da,b5,rfl,rfl⟩
  refine bo i u v da b5 bO ax T aw hs cc (fun bC y d5=>∃zs bY,d5 D=J (.lst zs)/\zs.length<bU/\bY<min xs.length aN.length-i/\(i+1<=min xs.length aN.length/\bY=min xs.length aN.length-(i+1)/\S bC/\d7 H (upd d5 D (.lst (zs++[y])))/\upd d5 D (.lst (zs++[y])) D=J (.lst ((List.range (i+1)).map gI)))) fun bC d5 eN ro=>?_
  have Ib:D≠T:=fun e=>by rw[e,cc]at je;cases je
  refine⟨(List.range i).map gI,min xs.length aN.length-(i+1),ro _ _ (by rw[bt Ib];exact je),?_,by omega,by omega,rfl,eN,?_,?_⟩
  ·rw[cq,kx]
   exact e3 (show i<100000 by omega) (by decide)
  ·intro c o e
   rw[bt (eB e c0)]
   refine ro c o ?_
   rw[bt (fun e'=>by rw[e',hs.free cc]at e;cases e)]
   exact hs c o e
  .rw[aG,List.range_succ,gf];rfl
 ·have e:i=min xs.length aN.length:=by omega
  subst e
  exact .inl ⟨⟨cg,cj,cE _⟩,aY ax hs je⟩
noncomputable def inD(ns:List ah):D->Bool
 |.str s=>ns.any fun n=>n == s
 |_=>aA
noncomputable def BW(d:D)(u:ar):Bool:=match u with
 |.str n _=>(match d with|.str s=>n == s|_=>aA)
 |_=>aA
theorem Mq(d:D):∀{ns:List ah}{us:List ar},Vals (ns.map V.str) us->us.any (BW d)=inD ns d
 |[],us,h=>by cases h;cases d<;>rfl
 |n::ns,us,h=>by
  obtain⟨u,r,rfl,⟨t,rfl⟩,az⟩:∃u r,us=u::r/\RelV (.str n) u/\Vals (ns.map V.str) r:=by cases h with|cons a b=>exact⟨_,_,I,a,b⟩
  rw[List.any_cons,Mq d az]
  cases d<;>rfl
theorem LP{u:ar}:∀{ns:List ah}{us:List ar},Vals (ns.map V.str) us->u∈us->∃n t,u=.str n t
 |[],us,h,da=>by cases h;cases da
 |n::ns,us,h,da=>by
  obtain⟨v,r,rfl,⟨t,rfl⟩,az⟩:∃u r,us=u::r/\RelV (.str n) u/\Vals (ns.map V.str) r:=by cases h with|cons a b=>exact⟨_,_,I,a,b⟩
  rcases cR.mp da with rfl|da
  .exact⟨n,t,I⟩
  .exact LP az da
section
variable {X:bA}
theorem Yc(da:X.A.units+64<cLine):d6 X (hS .NotIn) (fun x y H Q=>∃p ns d,y=.ref p/\c3 X.K H p (ns.map V.str)/\d4 H d x/\Q (.aE (!inD ns d)) H):=by
 intro ak s ae H x y v u Q aa bu cC h
 obtain⟨p,ns,d,rfl,aY,hd,q⟩:=h
 cases cC
 obtain⟨bj,r,pl,bL⟩:=aa.list aY
 have qv:X.A.in1.units<cLine:=by show X.A.units+1<cLine;omega
 refine SeqAt.notIn_listAt (BW d) pl.isList (fun w hw=>?_) ⟨.aE _,H,aa,I,?_⟩
 ·obtain⟨n,t,rfl⟩:=LP r (by simpa using hw)
  cases d with
  |bc=>obtain rfl:x=.bc:=hd;cases bu;exact SeqAt.EqAt.str_none n t
  |aE b=>obtain rfl:x=.aE b:=hd;cases bu;exact SeqAt.EqAt.str_bool n t b
  |int i=>obtain rfl:x=.int i:=hd;obtain⟨t',rfl⟩:=bu;exact SeqAt.EqAt.str_int n t i t'
  |str z=>obtain⟨rfl,_⟩:=hd;obtain⟨t',rfl⟩:=bu;exact SeqAt.EqAt.str_str n t z t'
  |tup ds =>
   obtain⟨a,vs,rfl,e,_⟩:=hd
   cases bu
   obtain⟨its',e1,tT,_⟩:=aa.tuple (gY.of e)
   exact SeqAt.EqAt.str_tuple n t (fD tT) qv
  |lst ds =>
   obtain⟨a,vs,rfl,e,_⟩:=hd
   cases bu
   obtain⟨its',e1,tT,_⟩:=aa.list (c3.of e)
   exact SeqAt.EqAt.str_list n t tT.isList qv
 ·rw[show bj.toArray.any (BW d)=bj.any (BW d) by simp,Mq d r]
  exact q
end
variable {f:bN}
theorem ni{k:Fin 4}(h:slot f=.b k):f=.bare k:=by
 cases f with
 |bare j=>injection h with h;rw[h]
 |sp a b=>cases h
 |le s=>cases h
 |one j f=>cases h
 |two j ns fs=>cases h
theorem FT(h:slot f=.s):∃a b,f=.sp a b:=by
 cases f with
 |sp a b=>exact⟨a,b,I⟩
 |bare j=>cases h
 |le s=>cases h
 |one j f=>cases h
 |two j ns fs=>cases h
theorem FU(h:slot f=.l):∃s,f=.le s:=by
 cases f with
 |le s=>exact⟨s,I⟩
 |sp a b=>cases h
 |bare j=>cases h
 |one j f=>cases h
 |two j ns fs=>cases h
theorem pU{k:Fin 3}(h:slot f=.o k):∃g,f=.one k g:=by
 cases f with
 |one j g=>injection h with h;rw[h];exact⟨g,I⟩
 |sp a b=>cases h
 |bare j=>cases h
 |le s=>cases h
 |two j ns fs=>cases h
theorem vo{k:Fin 2}(h:slot f=.t k):∃ns fs,f=.two k ns fs:=by
 cases f with
 |two j ns fs=>injection h with h;rw[h];exact⟨ns,fs,I⟩
 |sp a b=>cases h
 |bare j=>cases h
 |le s=>cases h
 |one j f=>cases h
theorem eQ.get{c:dF}{X:List ag}{H:aq}:∀(fs:List bN){os:List ag}{i:Nat}{o:ag},eQ c X H fs os->os[i]?=J o->∃f,fs[i]?=J f/\b7 c X H f o
 |[],os,i,o,h,e=>by
  obtain rfl:os=[]:=h
  cases e
 |f::fs,os,0,o,h,e=>by
  obtain⟨o',r,rfl,q,cj⟩:=h
  cases e
  exact⟨f,I,q⟩
 |f::fs,os,i+1,o,h,e=>by
  obtain⟨o',r,rfl,q,cj⟩:=h
  exact eQ.get fs cj e
theorem FI:∀{fs:List bN}{i:Nat}{f:bN},rI fs->fs[i]?=J f->mU f/\bo f<=g8 fs
 |[],i,f,h,e=>by cases e
 |g::fs,0,f,h,e=>by
  cases e
  rw[rI]at h
  rw[g8]
  exact⟨h.1,Nat.le_max_left ..⟩
 |g::fs,i+1,f,h,e=>by
  rw[rI]at h
  have:=FI h.2 e
  rw[g8]
  exact⟨this.1,dj this.2 (Nat.le_max_right ..)⟩
theorem xX:∀k:Fin 4,k=0\/k=1\/k=2\/k=3:=by decide
theorem vI:∀k:Fin 3,k=0\/k=1\/k=2:=by decide
theorem BZ:∀k:Fin 2,k=0\/k=1:=by decide
section
variable {P:c6} {w:cM} {K:bK} {mg:ah->Option ar} {base:br}
structure MethAt(K:bK)(C:ag)(m d0:ah)(st:bz)(aI:List ah):Prop where
 ex:∃f fd,c1 K m d0 st f fd/\Binds K fd aI []/\sx K C m f
 cl:ff K C
theorem Ft{m:ah}{st:bz}{sp:b0}(M:MethAt K C m d0 st aI)(h:∀vs H Q E,¬sp vs H Q E):fZ P w K mg base k C m aI sp:=by
 obtain⟨f,fd,F,aj,hm⟩:=M.ex
 exact⟨f,fd,⟨fun vs H Q E q=>absurd q (h _ _ _ _),fun A outer s H args us vs Q E _ _ _ _ q=>absurd q (h _ _ _ _)⟩,aj,hm⟩
end
mutual
noncomputable def oB(has:fI->Bool):bN->Prop
 |.bare k=>has (.b k)=au
 |.sp _ _=>has .s=au
 |.le _=>has .l=au
 |.one k f=>has (.o k)=au/\oB has f
 |.two k _ fs=>has (.t k)=au/\ru has fs
noncomputable def ru(has:fI->Bool):List bN->Prop
 |[]=>True
 |f::fs=>oB has f/\ru has fs
end
def kg(has:fI->Bool)(f:bN):Prop:=mU f/\oB has f
def CK(has:fI->Bool)(fs:List bN):Prop:=rI fs/\ru has fs
variable {has:fI->Bool}
theorem kg.one{k:Fin 3}(h:kg has (.one k f)):kg has f:=by
 obtain⟨a,b⟩:=h
 rw[mU]at a
 rw[oB]at b
 exact⟨a,b.2⟩
theorem kg.two{k:Fin 2}{fs:List bN}(h:kg has (.two k ns fs)):l7 ns=au/\ns.length=fs.length/\CK has fs:=by
 obtain⟨a,b⟩:=h
 rw[mU]at a
 rw[oB]at b
 exact⟨a.1,a.2.1,a.2.2,b.2⟩
theorem LU{has:fI->Bool}:∀{fs:List bN}{i:Nat}{f:bN},ru has fs->fs[i]?=J f->oB has f
 |[],i,f,h,e=>by cases e
 |g::fs,0,f,h,e=>by
  cases e
  rw[ru]at h
  exact h.1
 |g::fs,i+1,f,h,e=>by
  rw[ru]at h
  exact LU h.2 e
theorem CK.get{fs:List bN}(h:CK has fs)(e:fs[i]?=J f):kg has f/\bo f<=g8 fs :=
 ⟨⟨(FI h.1 e).1,LU h.2 e⟩,(FI h.1 e).2⟩
theorem Zh{l:List Nat}(h:l[i]?=J c)(hk:∀k,k<i->l[k]?≠J c):l.idxOf c=i:=by
 induction l generalizing i with
 |nil=>cases h
 | cons a r bQ =>
  cases i with
  |zero=>cases h;rw[List.idxOf_cons_self]
  |succ i =>
   have bh:a≠c:=fun e=>hk 0 (by omega) (by rw[e];rfl)
   have aj:(a == c)=aA:=by simpa using bh
   rw[List.idxOf_cons,aj]
   show r.idxOf c+1=i+1
   rw[bQ h fun k hk' e=>hk (k+1) (by omega) e]
section
variable {X:bA}
theorem XG:u5 X "str.index" (fun x xs H Q=>∃(y:ah)(c:Nat),x=.str y/\xs=[.str ⟨#[c]⟩]/\c∈y.cps.toList/\Q (.int ((y.cps.toList.idxOf c:Nat):Int)) H):=by
 intro ak s ae H x xs v us Q aa bu dN h
 obtain⟨y,c,rfl,rfl,hc,q⟩:=h
 obtain⟨t,rfl⟩:=bu
 obtain⟨u,rfl,t',rfl⟩:=dN.one
 rcases StrLaws.occ_head y ⟨#[c]⟩ 1 (cE _)with⟨_,no⟩|⟨i,r,aL,iy,yt⟩
 ·obtain⟨i,aJ⟩:=List.getElem?_of_mem hc
  exact absurd ((StrLaws.subAt_one y c i).mpr aJ) (no i)
 ·have e:=Zh ((StrLaws.subAt_one y c i).mp iy) fun k hk z=>yt k hk ((StrLaws.subAt_one y c k).mpr z)
  rw[e]at q
  exact call_gives F.slot_str_index (typeIs_str s y t) F.entry_str_index (F.args_str_index_2 _ _) (gives_str_index y ⟨#[c]⟩ t t' i r aL) ⟨.int _,H,aa.tok _,⟨_,I⟩,q⟩
end
theorem Yi{e:ar}{M9:Env}(h:env.frame=M9.frame):noteFrame e env=noteFrame e M9:=by
 unfold noteFrame PySem.frameOf
 rw[h]
theorem Mi{h h' base:br}:∀{l:List Env},h.FunFrames base l->(∀b o,b∈l.filterMap (·.frame)->h.get? b=J o->(∀vs,o.data≠.fields vs)->h'.get? b=J o)->h'.FunFrames base l
 |[],_,_=>trivial
 |env::rest,aC,k=>by
  obtain⟨hk,⟨L,o,aH,aZ,aL,hd⟩,az⟩:=aC
  have hm:L∈(env::rest).filterMap (·.frame):=by rw[List.filterMap_cons,aH];exact eI
  refine⟨hk,⟨L,o,aH,aZ,k L o hm aL hd,hd⟩,Mi az fun b o aj=>k b o ?_⟩
  rw[List.filterMap_cons,aH]
  exact dP _ aj
section
variable {M:Model} {A:dq} {E:ar->aM->Prop} {s:aM} {base:br} {env:Env} {outer:List Env} {L e T:ag} {Q:Unit->aM->Prop} {cls:ar} {d:Option ag} {er:ar}
theorem aeJ(ot:A.frames=J (env::outer))(aC:s.heap.FunFrames base (env::outer))(aH:env.frame=J L)(bo:kM s.heap e cls d T er)
  (h:∀h' dT,kM h' e cls d dT (rawInt L)->(dT=T\/s.heap.get? dT=av)->h'.FunFrames base (env::outer)->vf ((env::outer).filterMap (·.frame)) e (J T) s.heap h'->Q () {s with heap:=h'}):bP M A (noteFrame (.ref e) env) Q E s:=by
 by_cases z:er=rawInt L
 ·subst z
  obtain⟨e0,vs,kf,iW,he,hc,kU,hd,al,l9,cc,ik,bq,md⟩:=id bo
  exact wpAny_noteFrame_inFlight aH he hd al cc ik bq (h s.heap T bo (.inl I) aC ⟨fun b o _ _ _ e=>e,fun b o _ _ e=>⟨o.slots,e⟩⟩)
 obtain⟨e0,vs,kf,iW,he,hc,kU,hd,al,l9,cc,ik,bq,md⟩:=bo
 unfold noteFrame
 simp only[aH]
 refine b3 (jB he hd al ?_)
 rw[if_pos (show(ar.ref T != ar.none)=au from by simp)]
 refine b3 (jB cc ik bq ?_)
 rw[if_neg (show ¬((er == rawInt L)=au)from fun y=>z (beq_iff_eq.mp y))]
 refine b3 (uz cc ik (Array.getElem?_eq_some_iff.mp bq).1 ?_)
 have other:∀b,b≠T->(s.heap.update T (bH.mapFields (·.setIfInBounds 3 ar.none))).get? b=s.heap.get? b:=fun b aj=>br.get?_update_other _ _ (d1 aj)
 have tK:∀b o,s.heap.get? b=J o->(∀vs,o.data≠.fields vs)->b≠T:=fun b o aj jL q=>by
  rw[q,cc]at aj;injection aj with aj;subst aj;exact jL iW ik
 have back:∀b,(s.heap.update T (bH.mapFields (·.setIfInBounds 3 ar.none))).get? b=av->s.heap.get? b=av:=fun b aj=>by
  by_cases Ri:b=T
  ·subst Ri
   rw[br.get?_update_self _ cc (bH.isFreed_of_fields (bH.data_mapFields ik _))]at aj;cases aj
  .rw[other b Ri]at aj;exact aj
 subst hc
 refine Gp (s:={s with heap:=s.heap.update T (bH.mapFields (·.setIfInBounds 3 ar.none))}) ot (aC.of_keeps fun b o aj jL=>⟨o,(other b (tK b o aj jL)).trans aj,I⟩) aH ((other e (d1 l9)).trans he) hd (Array.getElem?_eq_some_iff.mp al).1 kU fun h' dT gX dR lS kl=>?_
 exact h h' dT gX (.inr (back _ dR)) lS ⟨fun b o al aw bq b4=>kl.keep b o al (by simp) bq ((other b (fun z=>aw (by rw[z]))).trans b4),fun b o al aw b4=>kl.slot b o al (by simp) ((other b (fun z=>aw (by rw[z]))).trans b4)⟩
end
structure JZ(fs Z:List ag)(h h':br):Prop where
 keep:∀b o,b∉Z->b∉fs->h.get? b=J o->h'.get? b=J o
 slot:∀b o,b∉Z->h.get? b=J o->∃dU,h'.get? b=J {o with slots:=dU}
theorem S0{s1:aM}{Z:List ag}(aa:Inv X ak ae H1 s1)(ay:X.ex=[])(S:JZ (iO X.stack) Z s1.heap h')
  (CH:∀z,z∈Z->X.dV.heap.get? z=av) (B0:∀z,z∈Z->H1 z=av):fW (iO X.outer) [] X.i0 H1 X.dV.heap h'/\fG X.prog X.w H1 h':=by
 have B:=aa.base
 rw[ay]at B
 have Ig:∀b o,X.dV.heap.get? b=J o->b∉Z:=fun b o e z=>by rw[CH b z]at e;cases e
 have rC:∀b o,X.dV.heap.get? b=J o->b≠X.env.locals:=fun b o e=>fU (e3 (eu e) aa.ok.above)
 refine⟨⟨fun b o e n aj ay=>?_,fun b o e n aj ay=>?_,B.free,fun b o e ay=>?_,B.mm,B.lH,B.ml⟩,fun b u e=>(aa.aT b u e).oN (fun c v hc q=>?_) (fun _ q=>q) fun _ _ q=>q⟩
 ·refine S.keep b o (Ig b o e) (fun z=>?_) (B.keep b o e n aj ay)
  exact(cR.mp (aa.rP b z)).elim (rC b o e) aj
 ·obtain⟨dU,aU⟩:=B.slot b o e n aj ay
  obtain⟨lQ,ba⟩:=S.slot b _ (Ig b o e) aU
  exact⟨lQ,ba⟩
 ·obtain⟨o',aU⟩:=B.there b o e ay
  obtain⟨lQ,ba⟩:=S.slot b _ (Ig b o e) aU
  exact⟨_,ba⟩
 ·have nA:∃z,H1 c=J z:=by
   rcases hc with rfl|hc
   .exact⟨_,e⟩
   .exact⟨_,hc⟩
  obtain⟨z,bL⟩:=nA
  refine S.keep c v (fun y=>?_) (fun y=>?_) q
  .rw[B0 c y]at bL;cases bL
  .rw[aa.zj c y]at bL;cases bL
noncomputable def H4(X:bA)(E:bT):ar->aM->Prop:=fun e aX=>bP (model X.prog X.w) X.A (leaving X.env e) (fun _ oI=>hJ X.prog X.w X.outer X.i0 X.dV E e oI) (fun e' oI=>hJ X.prog X.w X.outer X.i0 X.dV E e' oI) aX
theorem XU{E:bT}{xP:Env}{gL:aM}{Cl:ag}{d:Option ag}
  (HO:X.xe=H4 X E) (hs:X.stack=X.env::X.outer) (aH:X.env.frame=J X.env.locals) (hex:X.ex=[]) (aa:Inv X ak ae ax gL) (lG:kM gL.heap a (.ref C) d T .none) (fa:ax a=av) (j6:ax T=av)
  (jh:X.dV.heap.get? a=av) (hn:X.dV.heap.get? T=av) (q:E (.ref C) d ax) (qj:ax Cl=av) (yM:X.dV.heap.get? Cl=av) (abp:Cl∉iO X.stack) (aby:∃m,gL.heap.Ns Cl m) (G5:xP.frame=X.env.frame) :
  notedBy (model X.prog X.w) X.A xP (fun e aX=>compPost (model X.prog X.w) X.A X.xe use Qf acc Cl (.error e) aX) (.ref a) gL:=by
 unfold notedBy
 rw[Yi G5]
 have fr:X.A.frames=J (X.env::X.outer):=aa.ok.frames.trans (congrArg J hs)
 have fst:gL.heap.FunFrames X.base (X.env::X.outer):=hs ▸ aa.stack
 have M8:iO X.stack=(X.env::X.outer).filterMap (·.frame):=by rw[hs];rfl
 have Nr:Cl∉(X.env::X.outer).filterMap (·.frame):=by rw[<-M8];exact abp
 refine Il fr fst aH lG fun rf dT gX dR lS kl=>?_
 suffices yk:∃m,rf.Ns Cl m/\∀h',br.SameBut Cl rf h'->∀xP:Env,xP.locals=Cl->bP (model X.prog X.w) X.A (PySem.passOn "comprehension.variables-let-go" (.ref a) xP:Sem ar) (fun _ _=>False) X.xe {gL with heap:=h'} by
  cases use<;>exact yk
 obtain⟨m,CI,aK,fK,Hq,NJ,ag0⟩:=aby
 have Ij:∀{h:br}{b:ag}{o:bH}{vs:Array ar},h.get? b=J o->o.data=.fields vs->h.get? Cl=J CI->b≠Cl:=fun aU ba eM z=>by
  subst z
  rw[aU]at eM;cases eM
  rw[NJ]at ba;cases ba
 have B5:Cl≠a:=by
  obtain⟨e0,vs,kf,iW,he,hc,kU,hd,_⟩:=lG
  exact(Ij he hd Hq).symm
 have abn:Cl≠T:=by
  obtain⟨e0,vs,kf,iW,he,hc,kU,hd,al,l9,cc,ik,_⟩:=lG
  exact(Ij cc ik Hq).symm
 have tN:rf.get? Cl=J CI:=kl.keep Cl CI B5 (fun z=>abn (gy z)) Nr Hq
 refine⟨m,⟨CI,aK,fK,tN,NJ,ag0⟩,fun h' nK MZ _=>?_⟩
 obtain⟨e0,vs,kf,iW,he,hc,kU,hd,al,l9,cc,ik,bq,md⟩:=id gX
 have abo:dT≠Cl:=Ij cc ik tN
 have tp:h'.get? a=J e0:=nK.extBut a e0 (d1 B5) he
 have vS:h'.get? dT=J kf:=nK.extBut _ _ abo cc
 have yx:3<iW.size:=(Array.getElem?_eq_some_iff.mp bq).1
 have step:bP (model X.prog X.w) X.A (setFlight (.ref a) MZ.frame) (fun _ nM=>X.xe (.ref a) nM) X.xe {gL with heap:=h'}:=by
  unfold setFlight
  refine b3 (jB tp hd al ?_)
  rw[if_pos (show(ar.ref dT != ar.none)=au from by simp)]
  refine uz vS ik yx ?_
  generalize tq:(MZ.frame.elim ar.none fun f=>rawInt f)=er
  have other:∀b,b≠dT->(h'.update dT (bH.mapFields (·.setIfInBounds 3 er))).get? b=h'.get? b:=fun b aj=>br.get?_update_other _ _ (d1 aj)
  have Nn:kM (h'.update dT (bH.mapFields (·.setIfInBounds 3 er))) a (.ref C) d dT er:=⟨e0,vs,_,_,(other a (d1 l9)).trans tp,hc,kU,hd,al,l9,br.get?_update_self _ vS (bH.isFreed_of_fields (bH.data_mapFields ik _)),bH.data_mapFields ik _,by simp[yx],md⟩
  have Cv:∀b o,b≠Cl->b≠dT->rf.get? b=J o->(h'.update dT (bH.mapFields (·.setIfInBounds 3 er))).get? b=J o:=fun b o hz e6 e=>(other b e6).trans (nK.extBut b o hz e)
  have Nl:(h'.update dT (bH.mapFields (·.setIfInBounds 3 er))).FunFrames X.base (X.env::X.outer):=Mi lS fun b o aj e jL=>Cv b o (fun z=>Nr (z ▸ aj)) (fun z=>by
   rw[z,cc]at e;cases e;exact jL iW ik) e
  generalize (h'.update dT (bH.mapFields (·.setIfInBounds 3 er)))=B3 at Nn Nl Cv ⊢
  rw[HO]
  unfold H4 leaving
  refine b3 (aeJ (s:={gL with heap:=B3}) fr Nl aH Nn fun nu mz kH iX nS Rd=>?_)
  refine yH (s:={gL with heap:=nu}) nS kH fun abm du dy hI=>?_
  have pw:∀b o,gL.heap.get? b=J o->b≠dT:=fun b o e z=>by rw[z,dR]at e;cases e
  have Q2:∀b o,b∉[a,T,Cl]->gL.heap.get? b=J o->∃dU,B3.get? b=J {o with slots:=dU}:=fun b o aj e=>by
   simp only[cR,List.not_mem_nil,or_false,not_or]at aj
   obtain⟨dU,rb⟩:=kl.slot b o aj.1 (fun z=>aj.2.1 (gy z)) e
   exact⟨dU,Cv b _ aj.2.2 (pw b o e) rb⟩
  have Ic:∀b o,b∉[a,T,Cl]->gL.heap.get? b=J o->b≠mz:=fun b o aj e z=>by
   rcases iX with y|y
   .exact pw b o e (z.trans y)
   ·obtain⟨dU,BN⟩:=Q2 b o aj e
    have aiU:B3.get? mz=av:=y
    rw[z,aiU]at BN;cases BN
  have S:JZ (iO X.stack) [a,T,Cl] gL.heap abm:=by
   refine⟨fun b o aj tl e=>?_,fun b o aj e=>?_⟩
   ·have kb:=aj
    simp only[cR,List.not_mem_nil,or_false,not_or]at kb
    rw[M8]at tl
    refine hI b o (Ic b o aj e) (Rd.keep b o kb.1 (fun z=>pw b o e (gy z)) tl ?_)
    exact Cv b o kb.2.2 (pw b o e) (kl.keep b o kb.1 (fun z=>kb.2.1 (gy z)) tl e)
   ·have kb:=aj
    simp only[cR,List.not_mem_nil,or_false,not_or]at kb
    obtain⟨dU,BN⟩:=Q2 b o aj e
    obtain⟨lQ,ZY⟩:=Rd.slot b _ kb.1 (fun z=>pw b o e (gy z)) BN
    exact⟨lQ,hI b _ (Ic b o aj e) ZY⟩
  have CH:∀z,z∈[a,T,Cl]->X.dV.heap.get? z=av:=fun z bL=>by
   simp only[cR,List.not_mem_nil,or_false]at bL
   rcases bL with rfl|rfl|rfl
   .exact jh
   .exact hn
   .exact yM
  have B0:∀z,z∈[a,T,Cl]->ax z=av:=fun z bL=>by
   simp only[cR,List.not_mem_nil,or_false]at bL
   rcases bL with rfl|rfl|rfl
   .exact fa
   .exact j6
   .exact qj
  obtain⟨u,hk⟩:=S0 aa hex S CH B0
  have Ia:mz∉[a,T,Cl]->gL.heap.get? mz=av:=fun bL=>by
   cases e:gL.heap.get? mz with
   |none=>rfl
   |some o=>exact absurd I (Ic mz o bL e)
  have f2:ax mz=av:=by
   by_cases bL:mz∈[a,T,Cl]
   .exact B0 _ bL
   .exact aa.aT.none (Ia bL)
  have dZ:X.dV.heap.get? mz=av:=by
   by_cases bL:mz∈[a,T,Cl]
   .exact CH _ bL
   ·cases e:X.dV.heap.get? mz with
    |none=>rfl
    |some o =>
     obtain⟨o',e'⟩:=aa.base.there mz o e (by rw[hex];simp)
     rw[Ia bL]at e';cases e'
  exact⟨a,C,d,ax,mz,I,aa.os,aa.bare,u,hk,du,fa,f2,jh,dZ,q⟩
 unfold PySem.passOn
 refine b3 (jB tp hd al ?_)
 rw[if_neg (show ¬((ar.ref dT == ar.none)=au)from by simp)]
 exact b3 (cU step fun _ nM h=>wpAny_throw h)
noncomputable def ZT(Y:bA)(E:bT):ar->aM->Prop:=fun e aX=>∃(ak:List (ag×bH))(bO:St)(H1:aq)(s1:aM),Inv Y ak bO H1 s1/\hJ Y.prog Y.w Y.stack H1 s1 E e aX
noncomputable def o8(X:bA)(E:bT)(c7:Scope)(cl:List (ah×ag))(C:ag)(N:List ah)(s2:aM)(ax:aq)(b9:List ag):bA:=(Gh X c7 cl C N s2 ax b9).nQ (ZT (Gh X c7 cl C N s2 ax b9) E)
section
variable {X:bA} {elt iY iter:cu} {ifs:List cu} {c7:Scope} {aV p:Pos} {f5:List (Nat×ah)} {gW:List ah} {iG:dJ} {g:gE} {gu:gO} {cL:TE}
set_option maxHeartbeats 1000000
theorem K4{E:bT}{Q:bG}
  (yA:(X.xe=H4 X E/\X.stack=X.env::X.outer/\X.env.frame=J X.env.locals/\X.ex=[])\/∀c d H,¬E c d H) (hc:X.calm=au) (wa:BJ c7 (f5.map (·.2))=au) (tm:r8 X f5) (aJ:i2 X iY iter iG)
  (bb:∀cl C s2 ax b9,p2 (o8 X E c7 cl C (gW++f5.map (·.2)) s2 ax b9) iY g)
  (bo:∀cl C s2 ax b9,u9 (o8 X E c7 cl C (gW++f5.map (·.2)) s2 ax b9) ifs gu)
  (he:∀cl C s2 ax b9,ck (o8 X E c7 cl C (gW++f5.map (·.2)) s2 ax b9) elt cL)
  (aa:Inv X ak ae H s) (h:I9 iG g gu cL (o6 gW f5) ae H Q)
  (cY:∀D C H' aX,Inv X ak ae H' aX->Q (.ref D) H'->H' C=av->C≠X.env.locals->X.dV.heap.objs.size<=C->(∀x c,X.env.cells.lookup x=J c->c≠C)->(∀p∈X.pn++ak,p.1≠C)->(∃m,aX.heap.Ns C m)->
   compPost (model X.prog X.w) X.A X.xe use Qf (.ref D) C (.ok .next) aX)
  (hs:∀x,foldedSetIterable iter X.env x=pure x:=by intro _;rfl) :
  bP (model X.prog X.w) X.A (comprehension (.ListComp elt [⟨iY,iter,ifs,0⟩] c7 aV) c7 X.env p (newList []) aA (eval iter X.env) use) Qf X.xe s:=by
 simp only[BJ,jD,i5,beq_iff_eq,bne_iff_ne,Bool.or_eq_true,List.contains_iff_mem]at wa
 obtain⟨⟨⟨⟨k1,k2⟩,k3⟩,tD⟩,k5⟩:=wa
 have acr:∀y∈c7.names,y.2=.local->c7.names.lookup y.1=J .local:=fun y bV aC=>(k3 y bV).resolve_left fun z=>z aC
 have MV:=tm.at
 have ot:∀y∈c7.names,y.2=.free->∃c,X.env.cells.lookup y.1=J c:=fun y bV aH=>by
  have hm:=(tD y bV).resolve_left fun z=>z aH
  obtain⟨q,aY,e⟩:=List.mem_map.mp hm
  have:=(MV q aY).2
  rw[e]at this
  exact aa.ok.has _ this
 obtain⟨cl,mc,gp,gQ,_⟩:=Fj c7.names ot [] (fun x c e=>by cases e)
 have abL:closureFor c7 X.env=pure cl:=by
  refine(show closureFor c7 X.env=(_ >>= pure)from rfl).trans ((congrArg (· >>= pure) mc).trans ?_)
  rfl
 refine wpAny_comprehension_free (use:=use) I hs abL k1 acr (cU (aJ ak s ae H _ aa h) fun v s1 al=>cU al fun HT s2 aw=>?_)
 obtain⟨it,b9,iF,en,ax,e,bE,T,iV,f2,abA⟩:=aw
 subst e
 have Nj:ax s2.heap.objs.size=av:=bE.fresh
 obtain⟨W,⟨m0,jQ⟩,turn⟩:=abA _ Nj
 refine wpAny_newObj_type (wpAny_newFunctionEnv k2 (by intro y bV;simp at bV) (fun ip Hp Cp=>?_) k1)
 dsimp only at Hp Cp ⊢
 generalize vP:s2.heap.push {cls :=.type "list",dict:=av,data :=.seq ([]:List ar).toArray}=bJ at Hp Cp ⊢
 have qj:bJ.objs.size=s2.heap.objs.size+1:=by rw[<-vP,br.size_push]
 have Nt:s2.heap.objs.size≠bJ.objs.size:=by rw[qj];exact fU (Nat.lt_succ_self _)
 have B6:s2.heap.objs.size<=bJ.objs.size:=by rw[qj];exact Nat.le_succ _
 have below:∀b,b<s2.heap.objs.size->b≠bJ.objs.size:=fun b aj=>by rw[qj];exact fU (Nat.lt_succ_of_lt aj)
 have old:∀b o,s2.heap.get? b=J o->ip.get? b=J o:=fun b o e=>Cp.extBut b o (below b (eu e)) (fO _ (vP ▸ fO _ e))
 have abD:ip.get? s2.heap.objs.size=J {cls :=.type "list",dict:=av,data :=.seq ([]:List ar).toArray}:=Cp.extBut _ _ Nt (fO _ (vP ▸ hi _ rfl))
 have aaK:ax bJ.objs.size=av:=bE.aT.fresh B6
 have Gu:∀b∈b9,b<s2.heap.objs.size:=fun b aj=>by
  obtain⟨o,aL,_⟩:=T.obj _ _ iV b aj
  exact eu aL
 let mB:=o8 X E c7 cl bJ.objs.size (gW++f5.map (·.2)) s2 ax b9
 have aeU:mB.Ok:=by
  refine⟨bE.ok.mod,k1,bE.ok.glob,bE.ok.blt,B6,fun x y c ay bV=>bE.ok.inj x y c (gp _ _ ay) (gp _ _ bV),fun x ay=>?_,(fun x c aH=>nomatch aH),bE.ok.hd,bE.ok.frames,.inl I,fun b aj=>⟨below b (Gu b aj),fun x c ay=>(f2 b aj).2.2.2.2.1 x c (gp _ _ ay)⟩,bE.bs,
   dj bE.ok.oe bE.dI,fun b o e aj=>?_,fun b aj z=>?_,bE.stack,bE.zj⟩
  .exact gQ (x,.free) (Ei (KB ay k2)) I
  ·rcases(f2 b aj).2.2.2.1 with z|z
   .exact bE.ok.tL b o e z
   .exact absurd (e3 (eu e) bE.ok.oe) (Nat.not_lt.mpr z)
  ·rcases cR.mp (bE.rP b z)with q|q
   .exact(f2 b aj).2.1 q
   .exact(f2 b aj).2.2.1 q
 have aiu:fW (iO X.stack) b9 ax (upd ax s2.heap.objs.size (.lst [])) s2.heap ip:=fW.laid old (cE _) Nj
 have acB:fG X.prog X.w (upd ax s2.heap.objs.size (.lst [])) ip:=bE.aT.laid old (cE _) ⟨UF _,[],0,.nil,abD⟩
 have lh:∀dg,Inv mB [] (o6 gW f5 ae) (upd ax s2.heap.objs.size (.lst [])) {s2 with heap:=ip,toks:=dg}:=fun dg=>by
  refine⟨aeU,I,bE.bare,aiu,⟨_,Hp,fun i x v aU ba eM=>?_⟩,fun x c ay=>?_,?_,fun x c ay=>?_,fun q aY=>?_,acB,?_⟩
  ·
   obtain⟨pv,_,gR⟩:=bE.loc
   have iA:gW.length<=i:=by
    rcases hv i gW.length with z|z
    ·have:(o6 gW f5 ae)[i]?=J av:=by
      unfold o6
      rw[List.getElem?_append_left (by simpa using z),List.getElem?_replicate,if_pos z]
     rw[this]at ba
     cases ba
    .exact z
   have s5:(gW++f5.map (·.2))[i]?=J x:=aU
   rw[List.getElem?_append_right iA,e4]at s5
   have xR:(f5.map fun p=>(ae[p.1]?).join)[i-gW.length]?=J (J v):=by
    have:(o6 gW f5 ae)[i]?=(f5.map fun p=>(ae[p.1]?).join)[i-gW.length]?:=by
     unfold o6
     rw[List.getElem?_append_right (by simpa using iA),List.length_replicate]
    rw[<-this]
    exact ba
   rw[e4]at xR
   cases aY:f5[i-gW.length]? with
   |none=>rw[aY]at s5;cases s5
   | some q =>
    rw[aY]at s5 xR
    obtain rfl:q.2=x:=gy s5
    have BO:(ae[q.1]?).join=J v:=gy xR
    have hQ:ae[q.1]?=J (J v):=by
     cases z:ae[q.1]? with
     |none=>rw[z]at BO;cases BO
     |some y=>rw[z]at BO;exact congrArg J BO
    have Ob:q∈f5:=hY aY
    obtain⟨ew,dZ⟩:=MV q Ob
    have acZ:Ae X.env.scope q.2:=by
     rcases dZ with z|z
     .exact .inr (.inl z)
     .exact .inr (.inr z)
    obtain⟨u,fc,rz⟩:=gR q.1 q.2 v ew hQ acZ
    have yi:c7.names.lookup q.2=J .free:=k5 q.2 (List.mem_map_of_mem Ob)
    refine⟨u,fc,.inr ⟨KA yi,?_⟩⟩
    rcases rz with⟨z,_⟩|⟨_,c,Cf,iB,Cn,Hs⟩
    .rcases dZ with y|y<;>(rw[y]at z;cases z)
    ·obtain⟨jt,mb⟩:=gQ (q.2,.free) (Ei yi) rfl
     have:=gp _ _ mb
     rw[Cf]at this
     cases this
     exact⟨c,mb,iB,old _ _ Cn,Hs⟩
  ·obtain⟨v,o,aL,hd⟩:=bE.cell x c (gp _ _ ay)
   exact⟨v,o,old _ _ aL,hd⟩
  ·show upd ax s2.heap.objs.size (.lst []) bJ.objs.size=av
   rw[bt (d1 Nt)]
   exact aaK
  ·have G5:=bE.kT x c (gp _ _ ay)
   obtain⟨v,o,aL,hd⟩:=bE.cell x c (gp _ _ ay)
   rw[bt (fU (eu aL))]
   exact G5
  ·have:q∈([]:List (ag×bH)):=aY
   cases this
  ·show(o6 gW f5 ae).length=(gW++f5.map (·.2)).length
   simp[o6]
 have uf:∀{pins':List (ag×bH)}{H':aq},(∀b∈b9,H' b=av)->(∀q∈pins',q.1∉b9)->∀b∈b9,pS mB pins' H' b:=fun aZ aO b aj =>
  ⟨aZ b aj,below b (Gu b aj),fun z=>by
   rcases cR.mp (bE.rP b z)with q|q
   .exact(f2 b aj).2.1 q
   .exact(f2 b aj).2.2.1 q,.inl aj,fun x c ay=>(f2 b aj).2.2.2.2.1 x c (gp _ _ ay),fun q aY z=>aO q aY (z ▸ aj)⟩
 have Ik:∀q∈([]:List (ag×bH)),q.1∉b9:=fun _ z=>nomatch z
 have Q1:iF 0 ip:=T.keep _ _ _ iV fun b aj o e=>old b o e
 have aaN:∀b∈b9,(upd ax s2.heap.objs.size (.lst [])) b=av:=fun b aj=>by
  rw[bt (fU (Gu b aj))]
  exact(f2 b aj).1
 have err:∀e gL,mB.xe e gL->notedBy (model X.prog X.w) X.A (compEnvC c7 cl bJ.objs.size X.env) (fun e aX=>compPost (model X.prog X.w) X.A X.xe use Qf (.ref s2.heap.objs.size) bJ.objs.size (.error e) aX) e gL:=by
  rintro e gL ⟨ae2,bO,H1,s1,bf,a,C,d,JH,dT,rfl,os,bare,un,aT,lG,fa,j6,jh,hn,q⟩
  obtain⟨HO,jM,ab2,hex⟩:=yA.resolve_right fun z=>z _ _ _ q
  have m7:Inv (Gh X c7 cl bJ.objs.size (gW++f5.map (·.2)) s2 ax b9) ae2 bO JH gL:=bf.xO (ch:=[]) os un aT bare (fun b z=>absurd z (by simp))
  have Sh:Inv X ak ae JH gL:=bE.xO m7.os m7.base m7.aT m7.bare fun b aj=>⟨(f2 b aj).2.2.2.1,(f2 b aj).2.1,(f2 b aj).2.2.2.2.1,(f2 b aj).2.2.2.2.2⟩
  have OR:∀b,s1.heap.get? b=av->X.dV.heap.get? b=av:=fun b aj=>by
   cases z:X.dV.heap.get? b with
   |none=>rfl
   | some o =>
    obtain⟨o',e'⟩:=bE.base.there b o z (by rw[hex];simp)
    have aeD:b∉b9:=fun hm=>by
     rcases(f2 b hm).2.2.2.1 with y|y
     .rw[hex]at y;cases y
     .exact absurd (eu z) (Nat.not_lt.mpr y)
    obtain⟨akm,M3⟩:=bf.base.there b o' e' aeD
    rw[aj]at M3;cases M3
  refine XU HO jM ab2 hex Sh lG fa j6 (OR a jh) (OR dT hn) q m7.free ?_ ?_ ?_ I
  .exact br.get?_none_of_le (dj bE.dI B6)
  ·intro hm
   obtain⟨_,o,aL,_⟩:=bE.stack.mem hm
   exact below _ (eu aL) I
  ·obtain⟨m,hm,_⟩:=m7.loc
   exact⟨m,hm⟩
 have loop:∀ug:aM,ug={s2 with heap:=ip,toks:=s2.toks+([]:List (ah×ar)).length}->
   mr (model X.prog X.w) X.A (.compLoop (.ListComp elt [⟨iY,iter,ifs,0⟩] c7 aV) 0 (.ref it) (.ref s2.heap.objs.size) (compEnvC c7 cl bJ.objs.size X.env))
    (compPost (model X.prog X.w) X.A X.xe use Qf (.ref s2.heap.objs.size) bJ.objs.size) ug:=by
  rintro ug rfl
  refine WM (fun n aX=>∃i bR H',Inv mB [] bR H' aX/\iF i aX.heap/\(∀b∈b9,H' b=av)/\W i n bR H') ?_ m0 ⟨0,_,_,lh _,Q1,aaN,jQ⟩
  rintro n iC ⟨i,k8,zC,gM,kj,xZ,oP⟩
  rcases turn i n k8 zC oP with⟨stop,yY⟩|⟨go,step⟩
  ·refine cU (T.done mB I I I hc i [] iC k8 zC _ gM (uf xZ Ik) kj stop) fun r qF bM=>?_
   obtain⟨az,uN⟩:=bM
   subst az
   have un:=uN.base
   refine cY _ _ zC qF (bE.xO uN.os un uN.aT uN.bare fun b aj=>?_) yY uN.free ?_ (dj bE.dI B6) ?_ ?_ ?_
   .exact⟨(f2 b aj).2.2.2.1,(f2 b aj).2.1,(f2 b aj).2.2.2.2.1,(f2 b aj).2.2.2.2.2⟩
   .exact d1 (below _ bE.lt)
   ·intro x c ay
    obtain⟨v,o,aL,hd⟩:=bE.cell x c ay
    exact below c (eu aL)
   ·intro q aY
    obtain⟨e,_⟩:=bE.pin q aY
    exact below _ (eu e)
   ·obtain⟨m,hm,_⟩:=uN.loc
    exact⟨m,hm⟩
  ·refine cU (T.item mB I I I hc i [] iC k8 zC _ gM (uf xZ Ik) kj go) fun r qF bM=>?_
   obtain⟨u,az,b4⟩:=bM
   subst az
   refine cU b4 fun _ wC bM=>?_
   obtain⟨x,fB,kn,qA,Jt,jz,Gv⟩:=bM
   have DX:=kn.pinned (uf Gv Ik) (T.obj _ _ jz)
   refine kJ (bb _ _ _ _ _ _ wC k8 fB x u _ DX qA (step x fB Jt)) (fun _ ua bM=>?_) fun e gL z=>err e gL z
   obtain⟨wU,d5,lj,qz⟩:=bM
   have again:∀{k9:St}{jj:aq}{pB:aM}{bY:Nat},Inv mB ([]++yX b9 wC.heap) k9 jj pB->bY<n->W (i+1) bY k9 jj->∃m,m<n/\∃i bR H',Inv mB [] bR H' pB/\iF i pB.heap/\(∀b∈b9,H' b=av)/\W i m bR H':=fun{k9 jj pB bY}jV hm zl=>by
    refine⟨bY,hm,i+1,k9,jj,jV.Di,T.keep _ _ _ jz fun b aj o e=>(jV.pin (b,o) (na _ (na _ (A1 aj e)))).1,fun b aj=>?_,zl⟩
    obtain⟨o,e,d⟩:=T.obj _ _ jz b aj
    exact(jV.pin (b,o) (na _ (na _ (A1 aj e)))).2.1
   refine kJ (bo _ _ _ _ _ _ ua wU d5 _ lj qz) (fun ok pB bM=>?_) fun e gL z=>err e gL z
   obtain⟨jj,jV,mW⟩:=bM
   cases ok with
   |false =>
    obtain⟨bY,hm,zl⟩:=mW
    exact again jV hm zl
   |true =>
    refine kJ (he _ _ _ _ _ _ pB wU jj _ jV mW) (fun aiV gL bM=>?_) fun e gL z=>err e gL z
    obtain⟨y,zD,m7,agY,Iz⟩:=bM
    obtain⟨xs,bY,c0,bL,hm,aiw⟩:=Iz
    refine kJ (sq (X:=mB) _ gL wU zD (.ref s2.heap.objs.size) [y] (.ref s2.heap.objs.size) [aiV] (fun _ DW=>W (i+1) bY wU DW) m7 I (.cons agY .nil) ⟨_,xs,y,I,I,c0,bL,aiw⟩) (fun _ akq bM=>?_) fun e gL z=>err e gL z
    obtain⟨_,DW,Sf,_,wz⟩:=bM
    exact again Sf hm wz
 exact codeAny_compStart_list (loop _ I) (T.self _ 0 _ _ _ Q1 (loop _ I))
end
end cN
end
section
namespace cN
open PySem PySem.W PySem.Spec PyProof.Rows PySem.SeqAt
noncomputable def adq:D->Bool
 |.bc=>au
 |_=>aA
noncomputable def aar(a:Bool):D->Bool
 |.aE b=>a == b
 |.int b=>(if a then 1 else 0) == b
 |_=>aA
noncomputable def aas(a:Int):D->Bool
 |.aE b=>a == (if b then 1 else 0)
 |.int b=>a == b
 |_=>aA
noncomputable def aau(a:ah):D->Bool
 |.str b=>a == b
 |_=>aA
noncomputable def aav(g:List D->Bool):D->Bool
 |.tup ds=>g ds
 |_=>aA
noncomputable def aat(g:List D->Bool):D->Bool
 |.lst ds=>g ds
 |_=>aA
mutual
noncomputable def h1:D->D->Bool
 |.bc,d=>adq d
 |.aE a,d=>aar a d
 |.int a,d=>aas a d
 |.str a,d=>aau a d
 |.tup as,d=>aav (j4 as) d
 |.lst as,d=>aat (j4 as) d
noncomputable def j4:List D->List D->Bool
 |[],ds=>ds.isEmpty
 |a::as,ds=>match ds with|[]=>aA|d::ds=>h1 a d&&j4 as ds
end
mutual
noncomputable def eG:D->Nat
 |.bc=>1
 |.aE _=>1
 |.int _=>1
 |.str _=>1
 |.tup ds=>fi ds+1
 |.lst ds=>fi ds+1
noncomputable def fi:List D->Nat
 |[]=>0
 |d::ds=>max (eG d) (fi ds)
end
theorem Ml(d:D):1<=eG d:=by cases d<;>rw[eG]<;>omega
theorem s4{d:D}{n:Nat}:∀{ds:List D},d∈ds->fi ds<=n->eG d<=n
 |[],h,_=>by cases h
 |e::ds,h,aZ=>by
  rw[fi]at aZ
  rcases cR.mp h with rfl|h
  .omega
  .exact s4 h (by omega)
mutual
theorem qX:∀d:D,h1 d d=au
 |.bc=>by rw[h1];rfl
 |.aE b=>by rw[h1];show(b == b)=au;exact beq_self_eq_true b
 |.int b=>by rw[h1];show(b == b)=au;exact beq_self_eq_true b
 |.str b=>by rw[h1];show(b == b)=au;exact beq_self_eq_true b
 |.tup ds=>by rw[h1];exact xr ds
 |.lst ds=>by rw[h1];exact xr ds
theorem xr:∀ds:List D,j4 ds ds=au
 |[]=>by rw[j4];rfl
 |d::ds=>by
  rw[j4]
  show(h1 d d&&j4 ds ds)=au
  rw[qX d,xr ds];rfl
end
theorem Bo:∀(ds aK:List D),j4 ds aK=((List.range (min ds.length aK.length)).all (fun j=>h1 (ds.getD j .bc) (aK.getD j .bc))&&ds.length == aK.length)
 |[],aK=>by
  rw[j4]
  cases aK<;>simp
 |d::ds,[]=>by rw[j4];simp
 |d::ds,e::aK=>by
  rw[j4]
  show(h1 d e&&j4 ds aK)=_
  rw[Bo ds aK,eA,eA,Nat.succ_min_succ,List.range_succ_eq_map,List.all_cons,List.all_map]
  have aU:(ds.length+1 == aK.length+1)=(ds.length == aK.length):=by rw[Bool.eq_iff_iff];simp
  rw[aU,Bool.and_assoc]
  rfl
mutual
theorem d4.inj{H:aq}:∀(d d':D){v:V},d4 H d v->d4 H d' v->d=d'
 |.bc,d',v,h,h'=>by
  obtain rfl:v=.bc:=h
  cases d' with
  |bc=>rfl
  |aE b=>cases(show V.bc=V.aE b from h')
  |int b=>cases(show V.bc=V.int b from h')
  |str b=>cases h'.1
  |tup ds=>obtain⟨a,vs,z,_⟩:=h';cases z
  |lst ds=>obtain⟨a,vs,z,_⟩:=h';cases z
 |.aE b,d',v,h,h'=>by
  obtain rfl:v=.aE b:=h
  cases d' with
  |bc=>cases(show V.aE b=V.bc from h')
  |aE c=>have z:V.aE b=V.aE c:=h';injection z with z;rw[z]
  |int c=>cases(show V.aE b=V.int c from h')
  |str c=>cases h'.1
  |tup ds=>obtain⟨a,vs,z,_⟩:=h';cases z
  |lst ds=>obtain⟨a,vs,z,_⟩:=h';cases z
 |.int b,d',v,h,h'=>by
  obtain rfl:v=.int b:=h
  cases d' with
  |bc=>cases(show V.int b=V.bc from h')
  |int c=>have z:V.int b=V.int c:=h';injection z with z;rw[z]
  |aE c=>cases(show V.int b=V.aE c from h')
  |str c=>cases h'.1
  |tup ds=>obtain⟨a,vs,z,_⟩:=h';cases z
  |lst ds=>obtain⟨a,vs,z,_⟩:=h';cases z
 |.str b,d',v,h,h'=>by
  obtain⟨rfl,_⟩:=h
  cases d' with
  |bc=>cases(show V.str b=V.bc from h')
  |int c=>cases(show V.str b=V.int c from h')
  |aE c=>cases(show V.str b=V.aE c from h')
  |str c=>have z:=h'.1;injection z with z;rw[z]
  |tup ds=>obtain⟨a,vs,z,_⟩:=h';cases z
  |lst ds=>obtain⟨a,vs,z,_⟩:=h';cases z
 |.tup ds,d',v,h,h'=>by
  obtain⟨a,vs,rfl,de,hs,_⟩:=h
  cases d' with
  |bc=>cases(show V.ref a=V.bc from h')
  |int c=>cases(show V.ref a=V.int c from h')
  |aE c=>cases(show V.ref a=V.aE c from h')
  |str c=>cases h'.1
  |tup aK=>obtain⟨b,ws,z,fk,jg,_⟩:=h';cases z;rw[de]at fk;cases fk;rw[dn.inj ds aK hs jg]
  |lst aK=>obtain⟨b,ws,z,fk,jg,_⟩:=h';cases z;rw[de]at fk;cases fk
 |.lst ds,d',v,h,h'=>by
  obtain⟨a,vs,rfl,de,hs,_⟩:=h
  cases d' with
  |bc=>cases(show V.ref a=V.bc from h')
  |int c=>cases(show V.ref a=V.int c from h')
  |aE c=>cases(show V.ref a=V.aE c from h')
  |str c=>cases h'.1
  |tup aK=>obtain⟨b,ws,z,fk,jg,_⟩:=h';cases z;rw[de]at fk;cases fk
  |lst aK=>obtain⟨b,ws,z,fk,jg,_⟩:=h';cases z;rw[de]at fk;cases fk;rw[dn.inj ds aK hs jg]
theorem dn.inj{H:aq}:∀(ds aK:List D){vs:List V},dn H ds vs->dn H aK vs->ds=aK
 |[],aK,vs,h,h'=>by
  obtain rfl:vs=[]:=h
  cases aK with
  |nil=>rfl
  |cons e aK=>obtain⟨v,r,z,_⟩:=h';cases z
 | d::ds,aK,vs,h,h'=>by
  obtain⟨v,r,rfl,q,cj⟩:=h
  cases aK with
  |nil=>cases(show v::r=[]from h')
  |cons e aK =>
   obtain⟨jA,e1,z,hF,ae5⟩:=h'
   cases z
   rw[d4.inj d e q hF,dn.inj ds aK cj ae5]
end
section
variable {X:bA} {ak:List (ag×bH)} {ae:St} {H:aq} {s:aM} {A:dq} {a1 a2:ag} {g4 gz:List D} {k7 gC:List V}
theorem LL{iq fS:List ar}(cd:Vals k7 iq)(dB:Vals gC fS)(al:dn H g4 k7)(aw:dn H gz gC)
  (he:∀(e ba:D)(w lR:V)(x dR:ar),e∈g4->d4 H e w->d4 H ba lR->RelV w x->RelV lR dR->EqAt A s x dR (h1 e ba)) :
  ∀j(al:j<iq.toArray.size)(aw:j<fS.toArray.size),EqAt A s iq.toArray[j] fS.toArray[j] (h1 (g4.getD j .bc) (gz.getD j .bc)):=by
 intro j dE dM
 rw[eH]at dE dM
 have aU:=cd.length
 have ba:=dB.length
 have g1:k7[j]?=J (k7[j]'(by omega)):=c4 (by omega)
 have g2:gC[j]?=J (gC[j]'(by omega)):=c4 (by omega)
 obtain⟨gc,qv,qE⟩:=cd.get g1
 obtain⟨dt,qw,eO⟩:=dB.get g2
 obtain⟨hl,jw,kC⟩:=dn.get g4 al g1
 obtain⟨jb,dQ,lK⟩:=dn.get gz aw g2
 have d9:iq.toArray[j]'(by rw[eH];exact dE)=gc:=by
  rw[List.getElem_toArray]
  rw[c4 dE]at qv
  exact gy qv
 have df:fS.toArray[j]'(by rw[eH];exact dM)=dt:=by
  rw[List.getElem_toArray]
  rw[c4 dM]at qw
  exact gy qw
 rw[d9,df,eL,eL,jw,dQ]
 exact he hl jb _ _ gc dt (hY jw) kC lK qE eO
theorem ag8(aa:Inv X ak ae H s)(da:A.units<cLine)(aU:H a1=J (.tup k7))(ba:H a2=J (.tup gC))(al:dn H g4 k7)(aw:dn H gz gC)
  (he:∀(e ba:D)(w lR:V)(x dR:ar),e∈g4->d4 H e w->d4 H ba lR->RelV w x->RelV lR dR->EqAt A.in1 s x dR (h1 e ba)) :
  RcAt A s (.ref a1) (.ref a2) (j4 g4 gz)/\RcNeAt A s (.ref a1) (.ref a2) (!j4 g4 gz):=by
 obtain⟨iq,cd,dm,_⟩:=aa.tuple (gY.of aU)
 obtain⟨fS,dB,cD,_⟩:=aa.tuple (gY.of ba)
 have dE:iq.toArray.size=g4.length:=by rw[eH,<-cd.length];exact dn.len g4 al
 have dM:fS.toArray.size=gz.length:=by rw[eH,<-dB.length];exact dn.len gz aw
 have E:=LL cd dB al aw he
 have wX:=RcAt.tuples (fD dm) (fD cD) da E
 have wY:=RcNeAt.tuples (fD dm) (fD cD) da E
 rw[dE,dM,<-Bo]at wX wY
 exact⟨wX,wY⟩
theorem ag7(aa:Inv X ak ae H s)(da:A.units<cLine)(aU:H a1=J (.lst k7))(ba:H a2=J (.lst gC))(al:dn H g4 k7)(aw:dn H gz gC)
  (he:∀(e ba:D)(w lR:V)(x dR:ar),e∈g4->d4 H e w->d4 H ba lR->RelV w x->RelV lR dR->EqAt A.in1 s x dR (h1 e ba)) :
  RcAt A s (.ref a1) (.ref a2) (j4 g4 gz)/\RcNeAt A s (.ref a1) (.ref a2) (!j4 g4 gz):=by
 obtain⟨iq,cd,dm,_⟩:=aa.list (c3.of aU)
 obtain⟨fS,dB,cD,_⟩:=aa.list (c3.of ba)
 have dE:iq.toArray.size=g4.length:=by rw[eH,<-cd.length];exact dn.len g4 al
 have dM:fS.toArray.size=gz.length:=by rw[eH,<-dB.length];exact dn.len gz aw
 have E:=LL cd dB al aw he
 by_cases z:g4.length=gz.length
 ·have wX:=RcAt.lists dm.isList cD.isList (by rw[dE,dM,z]) da E
  have wY:=RcNeAt.lists dm.isList cD.isList (by rw[dE,dM,z]) da E
  have G:=Bo g4 gz
  rw[z,Nat.min_self,beq_self_eq_true,Bool.and_true]at G
  rw[dE,z,<-G]at wX wY
  exact⟨wX,wY⟩
 ·have G:=Bo g4 gz
  rw[beq_false_of_ne z,Bool.and_false]at G
  rw[G]
  have kc:(iq.toArray.size != fS.toArray.size)=au:=by rw[dE,dM];simpa using z
  exact⟨RcAt.lists_lengths dm.isList cD.isList kc da,RcNeAt.lists_lengths dm.isList cD.isList kc da⟩
set_option maxHeartbeats 1000000 in
theorem TA(aa:Inv X ak ae H s):∀(n:Nat){hl jb:D}{v1 v2:V}{gc dt:ar}{A:dq},eG hl<=n->d4 H hl v1->d4 H jb v2->RelV v1 gc->RelV v2 dt->A.units+n<cLine->EqAt A s gc dt (h1 hl jb)/\RcAt A s gc dt (h1 hl jb)/\RcNeAt A s gc dt (!h1 hl jb):=by
 intro n
 induction n with
 |zero =>
  intro hl jb v1 v2 gc dt A aZ
  have:=Ml hl
  omega
 | succ n bQ =>
  intro hl jb v1 v2 gc dt A aZ hd dQ fc eO da
  have al:A.units<cLine:=by omega
  have aw:A.in1.units+n<cLine:=by show A.units+1+n<cLine;omega
  cases hl with
  | bc =>
   obtain rfl:v1=.bc:=hd;obtain rfl:gc=.none:=fc
   rw[h1]
   cases jb with
   |bc =>
    obtain rfl:v2=.bc:=dQ;obtain rfl:dt=.none:=eO
    exact⟨.same _,.none_none,.none_none⟩
   |aE e6 =>
    obtain rfl:v2=.aE e6:=dQ;obtain rfl:dt=.bool e6:=eO
    exact⟨.none_bool _,.none_bool _,.none_bool _⟩
   |int df =>
    obtain rfl:v2=.int df:=dQ;obtain⟨gV,rfl⟩:∃t,dt=.int df t:=eO
    exact⟨.none_int _ _,.none_int _ _,.none_int _ _⟩
   |str dR =>
    obtain⟨rfl,_⟩:v2=.str dR/\_:=dQ;obtain⟨gV,rfl⟩:∃t,dt=.str dR t:=eO
    exact⟨.none_str _ _,.none_str _ _,.none_str _ _⟩
   |tup gz =>
    obtain⟨a2,gC,rfl,hA,fl,_⟩:=dQ;obtain rfl:dt=.ref a2:=eO;obtain⟨fS,cj,cD,_⟩:=aa.tuple (gY.of hA)
    exact⟨.none_tuple (fD cD) al,.none_tuple (fD cD) al,.none_tuple (fD cD) al⟩
   |lst gz =>
    obtain⟨a2,gC,rfl,hA,fl,_⟩:=dQ;obtain rfl:dt=.ref a2:=eO;obtain⟨fS,cj,cD,_⟩:=aa.list (c3.of hA)
    exact⟨.none_list cD.isList al,.none_list cD.isList al,.none_list cD.isList al⟩
  | aE hz =>
   obtain rfl:v1=.aE hz:=hd;obtain rfl:gc=.bool hz:=fc
   rw[h1]
   cases jb with
   |bc =>
    obtain rfl:v2=.bc:=dQ;obtain rfl:dt=.none:=eO
    exact⟨.bool_none _,.bool_none _,.bool_none _⟩
   |aE e6 =>
    obtain rfl:v2=.aE e6:=dQ;obtain rfl:dt=.bool e6:=eO
    exact⟨.bool_bool _ _,.bool_bool _ _,.bool_bool _ _⟩
   |int df =>
    obtain rfl:v2=.int df:=dQ;obtain⟨gV,rfl⟩:∃t,dt=.int df t:=eO
    exact⟨.bool_int _ _ _,.bool_int _ _ _,.bool_int _ _ _⟩
   |str dR =>
    obtain⟨rfl,_⟩:v2=.str dR/\_:=dQ;obtain⟨gV,rfl⟩:∃t,dt=.str dR t:=eO
    exact⟨.bool_str _ _ _,.bool_str _ _ _,.bool_str _ _ _⟩
   |tup gz =>
    obtain⟨a2,gC,rfl,hA,fl,_⟩:=dQ;obtain rfl:dt=.ref a2:=eO;obtain⟨fS,cj,cD,_⟩:=aa.tuple (gY.of hA)
    exact⟨.bool_tuple _ (fD cD) al,.bool_tuple _ (fD cD) al,.bool_tuple _ (fD cD) al⟩
   |lst gz =>
    obtain⟨a2,gC,rfl,hA,fl,_⟩:=dQ;obtain rfl:dt=.ref a2:=eO;obtain⟨fS,cj,cD,_⟩:=aa.list (c3.of hA)
    exact⟨.bool_list _ cD.isList al,.bool_list _ cD.isList al,.bool_list _ cD.isList al⟩
  | int d9 =>
   obtain rfl:v1=.int d9:=hd;obtain⟨t1,rfl⟩:∃t,gc=.int d9 t:=fc
   rw[h1]
   cases jb with
   |bc =>
    obtain rfl:v2=.bc:=dQ;obtain rfl:dt=.none:=eO
    exact⟨.int_none _ _,.int_none _ _,.int_none _ _⟩
   |aE e6 =>
    obtain rfl:v2=.aE e6:=dQ;obtain rfl:dt=.bool e6:=eO
    exact⟨.int_bool _ _ _,.int_bool _ _ _,.int_bool _ _ _⟩
   |int df =>
    obtain rfl:v2=.int df:=dQ;obtain⟨gV,rfl⟩:∃t,dt=.int df t:=eO
    exact⟨.int_int _ _ _ _,.int_int _ _ _ _,.int_int _ _ _ _⟩
   |str dR =>
    obtain⟨rfl,_⟩:v2=.str dR/\_:=dQ;obtain⟨gV,rfl⟩:∃t,dt=.str dR t:=eO
    exact⟨.int_str _ _ _ _,.int_str _ _ _ _,.int_str _ _ _ _⟩
   |tup gz =>
    obtain⟨a2,gC,rfl,hA,fl,_⟩:=dQ;obtain rfl:dt=.ref a2:=eO;obtain⟨fS,cj,cD,_⟩:=aa.tuple (gY.of hA)
    exact⟨.int_tuple _ _ (fD cD) al,.int_tuple _ _ (fD cD) al,.int_tuple _ _ (fD cD) al⟩
   |lst gz =>
    obtain⟨a2,gC,rfl,hA,fl,_⟩:=dQ;obtain rfl:dt=.ref a2:=eO;obtain⟨fS,cj,cD,_⟩:=aa.list (c3.of hA)
    exact⟨.int_list _ _ cD.isList al,.int_list _ _ cD.isList al,.int_list _ _ cD.isList al⟩
  | str gX =>
   obtain⟨rfl,_⟩:v1=.str gX/\_:=hd;obtain⟨t1,rfl⟩:∃t,gc=.str gX t:=fc
   rw[h1]
   cases jb with
   |bc =>
    obtain rfl:v2=.bc:=dQ;obtain rfl:dt=.none:=eO
    exact⟨.str_none _ _,.str_none _ _,.str_none _ _⟩
   |aE e6 =>
    obtain rfl:v2=.aE e6:=dQ;obtain rfl:dt=.bool e6:=eO
    exact⟨.str_bool _ _ _,.str_bool _ _ _,.str_bool _ _ _⟩
   |int df =>
    obtain rfl:v2=.int df:=dQ;obtain⟨gV,rfl⟩:∃t,dt=.int df t:=eO
    exact⟨.str_int _ _ _ _,.str_int _ _ _ _,.str_int _ _ _ _⟩
   |str dR =>
    obtain⟨rfl,_⟩:v2=.str dR/\_:=dQ;obtain⟨gV,rfl⟩:∃t,dt=.str dR t:=eO
    exact⟨.str_str _ _ _ _,.str_str _ _ _ _,.str_str _ _ _ _⟩
   |tup gz =>
    obtain⟨a2,gC,rfl,hA,fl,_⟩:=dQ;obtain rfl:dt=.ref a2:=eO;obtain⟨fS,cj,cD,_⟩:=aa.tuple (gY.of hA)
    exact⟨.str_tuple _ _ (fD cD) al,.str_tuple _ _ (fD cD) al,.str_tuple _ _ (fD cD) al⟩
   |lst gz =>
    obtain⟨a2,gC,rfl,hA,fl,_⟩:=dQ;obtain rfl:dt=.ref a2:=eO;obtain⟨fS,cj,cD,_⟩:=aa.list (c3.of hA)
    exact⟨.str_list _ _ cD.isList al,.str_list _ _ cD.isList al,.str_list _ _ cD.isList al⟩
  | tup g4 =>
   obtain⟨a1,k7,rfl,s7,d3,_⟩:=hd;obtain rfl:gc=.ref a1:=fc;obtain⟨iq,cg,dm,_⟩:=aa.tuple (gY.of s7)
   rw[h1]
   cases jb with
   |bc =>
    obtain rfl:v2=.bc:=dQ;obtain rfl:dt=.none:=eO
    exact⟨.tuple_none (fD dm) al,.tuple_none (fD dm) al,.tuple_none (fD dm) al⟩
   |aE e6 =>
    obtain rfl:v2=.aE e6:=dQ;obtain rfl:dt=.bool e6:=eO
    exact⟨.tuple_bool _ (fD dm) al,.tuple_bool _ (fD dm) al,.tuple_bool _ (fD dm) al⟩
   |int df =>
    obtain rfl:v2=.int df:=dQ;obtain⟨gV,rfl⟩:∃t,dt=.int df t:=eO
    exact⟨.tuple_int _ _ (fD dm) al,.tuple_int _ _ (fD dm) al,.tuple_int _ _ (fD dm) al⟩
   |str dR =>
    obtain⟨rfl,_⟩:v2=.str dR/\_:=dQ;obtain⟨gV,rfl⟩:∃t,dt=.str dR t:=eO
    exact⟨.tuple_str _ _ (fD dm) al,.tuple_str _ _ (fD dm) al,.tuple_str _ _ (fD dm) al⟩
   | tup gz =>
    obtain⟨a2,gC,rfl,hA,fl,_⟩:=dQ;obtain rfl:dt=.ref a2:=eO;obtain⟨fS,cj,cD,_⟩:=aa.tuple (gY.of hA)
    have R:=ag8 aa al s7 hA d3 fl fun e ba w lR x dR hm g g2 r dB=>(bQ (s4 hm (by rw[eG]at aZ;omega)) g g2 r dB aw).1
    refine⟨?_,R⟩
    by_cases z:a1=a2
    ·subst z
     obtain rfl:g4=gz:=by have fb:=d4.inj (.tup g4) (.tup gz) (v :=.ref a1) ⟨a1,k7,rfl,s7,d3,‹_›⟩ ⟨a1,gC,rfl,hA,fl,‹_›⟩;injection fb
     show EqAt A s _ _ (j4 g4 g4)
     rw[xr];exact .same _
    .exact .of_refs z R.1
   |lst gz =>
    obtain⟨a2,gC,rfl,hA,fl,_⟩:=dQ;obtain rfl:dt=.ref a2:=eO;obtain⟨fS,cj,cD,_⟩:=aa.list (c3.of hA)
    exact⟨.tuple_list (fD dm) cD.isList al,.tuple_list (fD dm) cD.isList al,.tuple_list (fD dm) cD.isList al⟩
  | lst g4 =>
   obtain⟨a1,k7,rfl,s7,d3,_⟩:=hd;obtain rfl:gc=.ref a1:=fc;obtain⟨iq,cg,dm,_⟩:=aa.list (c3.of s7)
   rw[h1]
   cases jb with
   |bc =>
    obtain rfl:v2=.bc:=dQ;obtain rfl:dt=.none:=eO
    exact⟨.list_none dm.isList al,.list_none dm.isList al,.list_none dm.isList al⟩
   |aE e6 =>
    obtain rfl:v2=.aE e6:=dQ;obtain rfl:dt=.bool e6:=eO
    exact⟨.list_bool _ dm.isList al,.list_bool _ dm.isList al,.list_bool _ dm.isList al⟩
   |int df =>
    obtain rfl:v2=.int df:=dQ;obtain⟨gV,rfl⟩:∃t,dt=.int df t:=eO
    exact⟨.list_int _ _ dm.isList al,.list_int _ _ dm.isList al,.list_int _ _ dm.isList al⟩
   |str dR =>
    obtain⟨rfl,_⟩:v2=.str dR/\_:=dQ;obtain⟨gV,rfl⟩:∃t,dt=.str dR t:=eO
    exact⟨.list_str _ _ dm.isList al,.list_str _ _ dm.isList al,.list_str _ _ dm.isList al⟩
   |tup gz =>
    obtain⟨a2,gC,rfl,hA,fl,_⟩:=dQ;obtain rfl:dt=.ref a2:=eO;obtain⟨fS,cj,cD,_⟩:=aa.tuple (gY.of hA)
    exact⟨.list_tuple dm.isList (fD cD) al,.list_tuple dm.isList (fD cD) al,.list_tuple dm.isList (fD cD) al⟩
   | lst gz =>
    obtain⟨a2,gC,rfl,hA,fl,_⟩:=dQ;obtain rfl:dt=.ref a2:=eO;obtain⟨fS,cj,cD,_⟩:=aa.list (c3.of hA)
    have R:=ag7 aa al s7 hA d3 fl fun e ba w lR x dR hm g g2 r dB=>(bQ (s4 hm (by rw[eG]at aZ;omega)) g g2 r dB aw).1
    refine⟨?_,R⟩
    by_cases z:a1=a2
    ·subst z
     obtain rfl:g4=gz:=by have fb:=d4.inj (.lst g4) (.lst gz) (v :=.ref a1) ⟨a1,k7,rfl,s7,d3,‹_›⟩ ⟨a1,gC,rfl,hA,fl,‹_›⟩;injection fb
     show EqAt A s _ _ (j4 g4 g4)
     rw[xr];exact .same _
    .exact .of_refs z R.1
theorem T1(da:X.A.units+64<cLine):d6 X (hS .NotEq) (fun x y H Q=>∃d d',d4 H d x/\d4 H d' y/\eG d<=60/\Q (.aE (!h1 d d')) H):=by
 intro ak s ae H x y v u Q aa bu cC h
 obtain⟨d,d',hd,yd,aZ,q⟩:=h
 exact(TA aa 60 aZ hd yd bu cC (by omega)).2.2 _ _ _ _ ⟨.aE _,H,aa,I,q⟩
end
section
variable {X:bA}
noncomputable def rG(da:X.A.units+64<cLine):=d6.or (tQ (X:=X)) (T1 da)
end
end cN
end
section
namespace cN
open PySem PySem.W PySem.Spec PyProof.Rows
structure eP where
 has:ag->Prop
noncomputable instance:Membership ag eP:=⟨fun X a=>X.has a⟩
noncomputable def eP.o5(l:ag)(X:eP):eP:=⟨fun a=>a=l\/a∈X⟩
theorem eP.hd{l:ag}{X:eP}:l∈eP.o5 l X :=.inl rfl
theorem eP.eV{l:ag}{X:eP}(h:a∈X):a∈eP.o5 l X :=.inr h
noncomputable def eP.of(H:aq):eP:=⟨fun a=>∃o,H a=J o⟩
mutual
noncomputable def cQ{α:Type}[Membership ag α](X:α)(H:aq):D->V->Prop
 |.bc,v=>v=.bc
 |.aE b,v=>v=.aE b
 |.int i,v=>v=.int i
 |.str s,v=>v=.str s/\s.length<=16000000
 |.tup ds,v=>∃a vs,v=.ref a/\a∉X/\H a=J (.tup vs)/\cm X H ds vs/\vs.length<=1000
 |.lst ds,v=>∃a vs,v=.ref a/\a∉X/\H a=J (.lst vs)/\cm X H ds vs/\vs.length<=1000
noncomputable def cm{α:Type}[Membership ag α](X:α)(H:aq):List D->List V->Prop
 |[],vs=>vs=[]
 |d::ds,vs=>∃v r,vs=v::r/\cQ X H d v/\cm X H ds r
end
mutual
theorem cQ.at{α:Type}[Membership ag α]{X:α}{H:aq}:∀(d:D){v:V},cQ X H d v->d4 H d v
 |.bc,v,h=>h
 |.aE b,v,h=>h
 |.int i,v,h=>h
 |.str t,v,h=>h
 |.tup ds,v,h=>by
  obtain⟨a,vs,e,n,fj,q,z⟩:=h
  exact⟨a,vs,e,fj,cm.at ds q,z⟩
 |.lst ds,v,h=>by
  obtain⟨a,vs,e,n,fj,q,z⟩:=h
  exact⟨a,vs,e,fj,cm.at ds q,z⟩
theorem cm.at{α:Type}[Membership ag α]{X:α}{H:aq}:∀(ds:List D){vs:List V},cm X H ds vs->dn H ds vs
 |[],vs,h=>h
 |d::ds,vs,h=>by
  obtain⟨v,r,e,q,cj⟩:=h
  exact⟨v,r,e,cQ.at d q,cm.at ds cj⟩
end
mutual
theorem cQ.keep{α:Type}[Membership ag α]{X:α}{H H':aq}(s:∀b u,b∉X->H b=J u->H' b=J u):∀(d:D){v:V},cQ X H d v->cQ X H' d v
 |.bc,v,h=>h
 |.aE b,v,h=>h
 |.int i,v,h=>h
 |.str t,v,h=>h
 |.tup ds,v,h=>by
  obtain⟨a,vs,e,n,fj,q,z⟩:=h
  exact⟨a,vs,e,n,s _ _ n fj,cm.keep s ds q,z⟩
 |.lst ds,v,h=>by
  obtain⟨a,vs,e,n,fj,q,z⟩:=h
  exact⟨a,vs,e,n,s _ _ n fj,cm.keep s ds q,z⟩
theorem cm.keep{α:Type}[Membership ag α]{X:α}{H H':aq}(s:∀b u,b∉X->H b=J u->H' b=J u):∀(ds:List D){vs:List V},cm X H ds vs->cm X H' ds vs
 |[],vs,h=>h
 |d::ds,vs,h=>by
  obtain⟨v,r,e,q,cj⟩:=h
  exact⟨v,r,e,cQ.keep s d q,cm.keep s ds cj⟩
end
mutual
theorem cQ.add{X:List ag}{H:aq}{l:ag}(aC:H l=av):∀(d:D){v:V},cQ X H d v->cQ (l::X) H d v
 |.bc,v,h=>h
 |.aE b,v,h=>h
 |.int i,v,h=>h
 |.str t,v,h=>h
 |.tup ds,v,h=>by
  obtain⟨a,vs,e,n,fj,q,z⟩:=h
  exact⟨a,vs,e,fun y=>(cR.mp y).elim (fun y=>by rw[y,aC]at fj;cases fj) n,fj,cm.add aC ds q,z⟩
 |.lst ds,v,h=>by
  obtain⟨a,vs,e,n,fj,q,z⟩:=h
  exact⟨a,vs,e,fun y=>(cR.mp y).elim (fun y=>by rw[y,aC]at fj;cases fj) n,fj,cm.add aC ds q,z⟩
theorem cm.add{X:List ag}{H:aq}{l:ag}(aC:H l=av):∀(ds:List D){vs:List V},cm X H ds vs->cm (l::X) H ds vs
 |[],vs,h=>h
 |d::ds,vs,h=>by
  obtain⟨v,r,e,q,cj⟩:=h
  exact⟨v,r,e,cQ.add aC d q,cm.add aC ds cj⟩
end
mutual
theorem cQ.weak{α:Type}[Membership ag α]{X Y:α}{H:aq}(hs:∀x,x∈X->x∈Y):∀(d:D){v:V},cQ Y H d v->cQ X H d v
 |.bc,v,h=>h
 |.aE b,v,h=>h
 |.int i,v,h=>h
 |.str t,v,h=>h
 |.tup ds,v,h=>by
  obtain⟨a,vs,e,n,fj,q,z⟩:=h
  exact⟨a,vs,e,fun y=>n (hs _ y),fj,cm.weak hs ds q,z⟩
 |.lst ds,v,h=>by
  obtain⟨a,vs,e,n,fj,q,z⟩:=h
  exact⟨a,vs,e,fun y=>n (hs _ y),fj,cm.weak hs ds q,z⟩
theorem cm.weak{α:Type}[Membership ag α]{X Y:α}{H:aq}(hs:∀x,x∈X->x∈Y):∀(ds:List D){vs:List V},cm Y H ds vs->cm X H ds vs
 |[],vs,h=>h
 |d::ds,vs,h=>by
  obtain⟨v,r,e,q,cj⟩:=h
  exact⟨v,r,e,cQ.weak hs d q,cm.weak hs ds cj⟩
end
theorem cQ.same[Membership ag α]{X:α}(s:d7 H H'){d:D}(h:cQ X H d v):cQ X H' d v:=cQ.keep (fun b u _ e=>s b u e) d h
theorem cm.same[Membership ag α]{X:α}(s:d7 H H'){ds:List D}(h:cm X H ds vs):cm X H' ds vs:=cm.keep (fun b u _ e=>s b u e) ds h
theorem cm.snoc{α:Type}[Membership ag α]{X:α}{H:aq}{d:D}{v:V}(hd:cQ X H d v):∀(ds:List D){vs:List V},cm X H ds vs->cm X H (ds++[d]) (vs++[v])
 |[],vs,h=>by
  obtain rfl:vs=[]:=h
  exact⟨v,[],I,hd,I⟩
 |e::ds,vs,h=>by
  obtain⟨w,r,rfl,q,cj⟩:=h
  exact⟨w,r++[v],I,q,cm.snoc hd ds cj⟩
end cN
end
section
namespace el
open PySem PyProof.Rows
end el
end
section
namespace dG
open PySem cN
end dG
end
section
namespace el
open PySem PyProof.Rows
end el
end
section
namespace cN
open PySem PySem.W PySem.Spec PyProof.Rows
end cN
end
section
namespace dG
open PySem cN
inductive R (α:Type) where
 |ok (a:α) (s:List Bool)
 |no (w:Bool) (k:Nat)
 |st
noncomputable def R.iF{α:Type}:R α->R α
 |.ok a s =>.ok a (s.map (!·))
 |.no w k =>.no w k
 |.st =>.st
noncomputable def hl(e u:Bool):List Bool->R Bool
 |b::s =>.ok b s
 |[]=>if e=au then .ok u []else .no aA 0
end dG
end
section
namespace cN
open PySem PySem.W PySem.Spec PyProof.Rows
section
variable {X:bA} {k2 hD:Nat} {m:ah} {aI:List ah} {lT:Type} {cl:lT->ag} {oL:lT->b0} {e o:cu} {aK:List cu} {t:gx} {cf:TE} {aV apos:Pos} {E:St->bT}
def wZ(P:c6)(w:cM)(K:bK)(mg:ah->Option ar)(base:br)(k:Nat)(m:ah)(aI:List ah){lT:Type}(cl:lT->ag)(sp:lT->b0):Prop:=∀i,p1 P w K mg base k (cl i) m aI (sp i)/\ff K (cl i)
theorem E6{pl:Sem Bool}(h':wZ X.prog X.w X.K X.mg X.base k2 m aI cl oL)(az:fH hD X.A)(ay:va (hJ X.prog X.w) X E)(he:ck X o cf)(bh:hr X (e::aK) t)(hk':k2<=hD:=by decide)
  (jM:dr (e::aK) X.env=(aA,eval e X.env)::dr aK X.env:=by rfl) (fR:(backTo aV (dr aK X.env)).any (·.1)=aA:=by rfl)
  (bo:eval (.Call (.Attribute o m apos) (e::aK) [] aV) X.env=(do
   let iS <-eval o X.env
   standAt apos.atName
   let (f,first) <-holding [iS] (getMethod iS m pl)
   callWith aV f first (backTo aV (dr (e::aK) X.env)) (backToKw aV (rW [] X.env))):=by rfl) :
  ck X (.Call (.Attribute o m apos) (e::aK) [] aV) (fun ae H Q=>cf ae H fun x H1=>D1 cl m x H1 fun i=>t ae H1 fun vs ax=>oL i (x::vs) ax Q (E ae)):=by
 intro ak s ae H Q aa aY
 refine Du (pl:=pl) (cU (he ak s ae H _ aa aY) fun u s1 bM=>?_) bo
 obtain⟨x,H1,bf,bu,a,i,ai,fs,ex,de,l,q⟩:=bM
 subst ex
 obtain rfl:u=ar.ref a:=bu
 obtain⟨⟨f2,Nk,n1,fQ,hm⟩,c⟩:=h' i
 refine xm bf de c hm l ?_
 refine wV (first:=[.ref a]) (h₀:=X.base) aa.ok.mod.pk hm.kD (cU (bh aV ak s1 ae H1 _ bf q) fun us s2 bM=>?_) jM fR
 obtain⟨vs,ax,bE,r,cj⟩:=bM
 refine ⟨bE.fT,?_⟩
 have dB:Vals (V.ref a::vs) (ar.ref a::us) :=.cons rfl r
 have aC:(ar.ref a::us).length=aI.length:=by rw[<-dB.length];exact n1.len _ _ _ _ cj
 have kb:=fQ s2 (.ref a::us) bE.fT (by rw[List.append_nil];exact aC)
 rw[List.append_nil]at kb
 refine ux (m3 (n1.run X.A X.stack s2 ax ⟨.ref a::us,[]⟩ (.ref a::us) (.ref a::vs) Q (E ae) (az.mono hk') bE.xW kb dB cj) fun r aX aY=>?_)
 cases r with
 |error e=>exact ay ak ae ax s2 e aX bE aY
 |ok er =>
  cases er with
  |ret u=>exact bE.after aY
  |next=>exact False.elim aY
  |brk=>exact False.elim aY
  |cont=>exact False.elim aY
end
section
variable {X:bA}
theorem Te:d6 X (hS .IsNot) (fun x y H Q=>∃b,y=.aE b/\Iy x=au/\Q (.aE (!decide (x=.aE b))) H):=by
 intro ak s ae H x y v u Q aa bu cC h
 obtain⟨b,rfl,ay,q⟩:=h
 cases cC
 cases x with
 |bc=>cases bu;exact ey (eX aa q (by cases b<;>rfl))
 |aE c=>cases bu;cases b<;>cases c<;>exact ey (eX aa q I)
 |int i=>obtain⟨t,rfl⟩:=bu;exact ey (eX aa q (by cases b<;>rfl))
 |str i=>obtain⟨t,rfl⟩:=bu;exact ey (eX aa q (by cases b<;>rfl))
 |ref a=>cases bu;exact ey (eX aa q (by cases b<;>rfl))
 |_=>cases ay
end
variable {r:iL}
section
variable {X:bA} {a b:cu} {cf dp:TE} {aV:Pos}
theorem bZ(i:Nat){x:ah}(cK:X.N.Nodup)(he:ck X e cL)(aJ:X.N[i]?=J x:=by rfl)(ay:Loc X.env.scope x:=by first|exact Or.inl I|exact Or.inr I)(hs:swapsWith e (J (.Name x pos')) aV.line X.env=pure aA:=by rfl)(aH:X.fn x=au\/X.env.scope.names.lookup x=J .local:=by first|exact .inl I|exact .inr I|assumption):
  kq X (.Assign [.Name x pos'] e aV) (wI cL (vJ i)):=TR cK aJ ay he hs aH
theorem gZ(aL:d6 X (hS op) r)(bh:ck X a cf)(aj:ck X b dp)(h:op≠.In:=by decide)(aw:op≠.NotIn:=by decide):ck X (.Compare a [op] [b] aV) (pE r cf dp):=FW aL bh aj (ME _ h aw)
theorem b6(aL:d6 X (hS op) r)(bh:ck X a cf)(aj:ck X b dp)(h:op≠.In:=by decide)(aw:op≠.NotIn:=by decide):kO X (.Compare a [op] [b] aV) (C9 (pE r cf dp)):=xA aL bh aj (ME _ h aw)
theorem cV(az:n2 X r)(bh:ck X a cf)(aj:ck X b dp)(hs:JR b:=by intro _ _;rfl):ck X (.Subscript a b aV) (pE r cf dp):=Uq az bh aj hs
theorem hy(bh:ck X a cf)(he:∀whole,isTrue a X.env whole=(do let v <-whole;standAt a.pos;holding [v] (truthy v)):=by intro _;rfl):
  kO X a (fun ae H Q=>cf ae H fun x H'=>∃k,Aa X.K x H' k/\Q k H'):=Y4 bh he
end
section
variable {X:bA} {elt iY iter:cu} {ifs:List cu} {c7:Scope} {aV p:Pos} {iG:dJ} {g:Dx gE} {gu:Dx gO} {cL:Dx TE}
theorem hZ(gW:List ah)(f5:List (Nat×ah))(hc:X.calm=au)(wa:BJ c7 (f5.map (·.2))=au)(tm:r8 X f5)(aJ:i2 X iY iter iG)
  (bb:∀cl C s2 ax b9,p2 (o8 X iK c7 cl C (gW++f5.map (·.2)) s2 ax b9) iY (g cl C s2 ax b9))
  (bo:∀cl C s2 ax b9,u9 (o8 X iK c7 cl C (gW++f5.map (·.2)) s2 ax b9) ifs (gu cl C s2 ax b9))
  (he:∀cl C s2 ax b9,ck (o8 X iK c7 cl C (gW++f5.map (·.2)) s2 ax b9) elt (cL cl C s2 ax b9))
  (s8:∀cl C s2 ax b9,g cl C s2 ax b9=g [] 0 X.dV X.i0 []:=by intros;rfl) (kB:∀cl C s2 ax b9,gu cl C s2 ax b9=gu [] 0 X.dV X.i0 []:=by intros;rfl) (mE:∀cl C s2 ax b9,cL cl C s2 ax b9=cL [] 0 X.dV X.i0 []:=by intros;rfl)
  (hs:∀x,foldedSetIterable iter X.env x=pure x:=by intro _;rfl) :
  ck X (.ListComp elt [⟨iY,iter,ifs,0⟩] c7 aV) (I9 iG (g [] 0 X.dV X.i0 []) (gu [] 0 X.dV X.i0 []) (cL [] 0 X.dV X.i0 []) (o6 gW f5)):=by
 intro ak s ae H Q aa h
 rw[eval_ListComp]
 refine K4 (use:=av) (.inr fun _ _ _ z=>z) hc wa tm aJ (fun cl C s2 ax b9=>s8 cl C s2 ax b9 ▸ bb cl C s2 ax b9) (fun cl C s2 ax b9=>kB cl C s2 ax b9 ▸ bo cl C s2 ax b9) (fun cl C s2 ax b9=>mE cl C s2 ax b9 ▸ he cl C s2 ax b9) aa h (fun D C H' aX hK q qj al aw bq b4 bM=>?_) hs
 obtain⟨m,hm⟩:=bM
 refine⟨m,hm,fun h' HB=>?_⟩
 exact⟨.ref D,H',hK.turned (t':=aX.toks) (fun b o aj e=>HB.extBut b o aj e) qj al (.inr aw) bq b4,I,q⟩
theorem E5{py QR:Pos}(gW:List ah)(f5:List (Nat×ah))(cK:X.N.Nodup)(ab9:X.N[i]?=J y)(bV:X.env.scope.names.lookup y=J .local)(hc:X.calm=au)(wa:BJ c7 (f5.map (·.2))=au)(tm:r8 X f5)(aJ:i2 X iY iter iG)
  (bb:∀cl C s2 ax b9,p2 (o8 X iK c7 cl C (gW++f5.map (·.2)) s2 ax b9) iY (g cl C s2 ax b9))
  (bo:∀cl C s2 ax b9,u9 (o8 X iK c7 cl C (gW++f5.map (·.2)) s2 ax b9) ifs (gu cl C s2 ax b9))
  (he:∀cl C s2 ax b9,ck (o8 X iK c7 cl C (gW++f5.map (·.2)) s2 ax b9) elt (cL cl C s2 ax b9))
  (s8:∀cl C s2 ax b9,g cl C s2 ax b9=g [] 0 X.dV X.i0 []:=by intros;rfl) (kB:∀cl C s2 ax b9,gu cl C s2 ax b9=gu [] 0 X.dV X.i0 []:=by intros;rfl) (mE:∀cl C s2 ax b9,cL cl C s2 ax b9=cL [] 0 X.dV X.i0 []:=by intros;rfl)
  (acU:swapsWith (.ListComp elt [⟨iY,iter,ifs,0⟩] c7 aV) (J (.Name y py)) QR.line X.env=pure au:=by rfl)
  (hs:∀x,foldedSetIterable iter X.env x=pure x:=by intro _;rfl) :
  kq X (.Assign [.Name y py] (.ListComp elt [⟨iY,iter,ifs,0⟩] c7 aV) QR) (wI (I9 iG (g [] 0 X.dV X.i0 []) (gu [] 0 X.dV X.i0 []) (cL [] 0 X.dV X.i0 []) (o6 gW f5)) (vJ i)):=by
 intro ak s ae H D aa h
 rw[exec_Assign_Name_used _ _ _ _ acU]
 refine b3 (wpAny_standAt (b3 ?_))
 show bP _ X.A (do let _ <-comprehension (.ListComp elt [⟨iY,iter,ifs,0⟩] c7 aV) c7 X.env _ (newList []) aA (eval iter X.env) (J (assign (.Name y py) X.env))) _ _ s
 refine b3 (cU (K4 (use:=J (assign (.Name y py) X.env)) (Qf:=fun _ aX=>vc X ak D .next aX) (.inr fun _ _ _ z=>z) hc wa tm aJ (fun cl C s2 ax b9=>s8 cl C s2 ax b9 ▸ bb cl C s2 ax b9) (fun cl C s2 ax b9=>kB cl C s2 ax b9 ▸ bo cl C s2 ax b9) (fun cl C s2 ax b9=>mE cl C s2 ax b9 ▸ he cl C s2 ax b9) aa h (fun JC C H' aX hK q qj al aw bq b4 bM=>?_) hs) fun _ aX aY=>ey (ey aY))
 obtain⟨m,hm⟩:=bM
 show bP _ X.A (assign (.Name y py) X.env (.ref JC)) _ _ _
 refine wpAny_assign_Name (K9 hK cK ab9 (.inl bV) (v :=.ref JC) I (fun oI Se bM=>?_) (.inr bV))
 obtain⟨a,HB,bh⟩:=bM
 have B5:C≠a:=by
  rcases bh with z|z
  .rw[z];exact al
  .exact d1 (bq _ _ z)
 refine⟨m,hm.sameBut HB B5,fun h' acN=>?_⟩
 exact⟨_,H',Se.turned (t':=oI.toks) (fun b o aj e=>acN.extBut b o aj e) qj al (.inr aw) bq b4,q⟩
end
section
variable {P:c6} {w:cM} {K:bK} {mg:ah->Option ar} {base:br} {x d0:ah} {st:bz} {f:ag} {fd:ho} {N aI:List ah} {k:Nat} {sp:b0}
theorem c1.fA(F:c1 K x d0 st f fd)(S:bW N aI (bI st))(lI:∀(bl:ar)(A:dq)(outer:List Env)(s:aM)(H:aq)(vs:List V)(Q:bG)(E:bT),fH k (A.deeper (envOfC d0 (bI st) s.heap.objs.size f bl))->sp vs H Q E->
   ∃t,h7 (lE c8 P w K mg base N d0 (bI st) f bl A outer s H E).rE (kA st) t/\t {nx:=fun _ H'=>hX H H' (Q .bc),rt:=fun v H'=>hX H H' (Q v)} (start N vs) H)(len:∀vs H Q E,sp vs H Q E->vs.length=aI.length:=by intro vs H Q E h;first|(cases h;subst_vars;rfl)|((repeat (obtain⟨_,h⟩:=h))<;>(subst_vars;rfl))):cv P w K mg base c8 (k+1) f fd aI sp:=F.OQ S len lI
theorem c1.yS(F:c1 K x d0 st f fd)(S:bW N aI (bI st))(lI:∀(bl:ar)(A:dq)(outer:List Env)(s:aM)(H:aq)(vs:List V)(Q:bG)(E:bT),fH k (A.deeper (envOfC d0 (bI st) s.heap.objs.size f bl))->sp vs H Q E->
   ∃t,h7 (lE (hJ P w) P w K mg base N d0 (bI st) f bl A outer s H (BQ H E)) (kA st) t/\t {nx:=fun _ H'=>hX H H' (Q .bc),rt:=fun v H'=>hX H H' (Q v)} (start N vs) H)(len:∀vs H Q E,sp vs H Q E->vs.length=aI.length:=by intro vs H Q E h;first|(cases h;subst_vars;rfl)|((repeat (obtain⟨_,h⟩:=h))<;>(subst_vars;rfl))):cv P w K mg base (hJ P w) (k+1) f fd aI sp:=F.aeV S len lI
theorem dS.ez(F:dS K mg x st aI f fd)(S:bW N aI (bI st))(lI:∀(bl:ar)(A:dq)(outer:List Env)(s:aM)(H:aq)(vs:List V)(Q:bG)(E:bT),fH k (A.deeper (envOfC x (bI st) s.heap.objs.size f bl))->sp vs H Q E->
   ∃t,h7 (lE c8 P w K mg base N x (bI st) f bl A outer s H E).rE (kA st) t/\t {nx:=fun _ H'=>hX H H' (Q .bc),rt:=fun v H'=>hX H H' (Q v)} (start N vs) H)(len:∀vs H Q E,sp vs H Q E->vs.length=aI.length:=by intro vs H Q E h;first|(cases h;subst_vars;rfl)|((repeat (obtain⟨_,h⟩:=h))<;>(subst_vars;rfl))):bp P w K mg base (k+1) x aI sp:=F.ok S len lI
end
section
variable {X:bA} {k2 hD:Nat} {C:ag} {m:ah} {aI:List ah} {oL:b0} {e o:cu} {aK:List cu} {t:gx} {cf:TE} {aV apos:Pos} {E:St->bT}
theorem FF{pl:Sem Bool}(h':p1 X.prog X.w X.K X.mg X.base k2 C m aI oL)(c:ff X.K C)(az:fH hD X.A)(ay:va (hJ X.prog X.w) X E)(he:ck X o cf)(bh:hr X (e::aK) t)(hk':k2<=hD:=by decide)
  (jM:dr (e::aK) X.env=(aA,eval e X.env)::dr aK X.env:=by rfl) (fR:(backTo aV (dr aK X.env)).any (·.1)=aA:=by rfl)
  (bo:eval (.Call (.Attribute o m apos) (e::aK) [] aV) X.env=(do
   let iS <-eval o X.env
   standAt apos.atName
   let (f,first) <-holding [iS] (getMethod iS m pl)
   callWith aV f first (backTo aV (dr (e::aK) X.env)) (backToKw aV (rW [] X.env))):=by rfl) :
  ck X (.Call (.Attribute o m apos) (e::aK) [] aV) (fun ae H Q=>cf ae H fun x H1=>D5 C m x H1 (t ae H1 fun vs ax=>oL (x::vs) ax Q (E ae))):=by
 obtain⟨f2,Nk,n1,fQ,hm⟩:=h'
 intro ak s ae H Q aa aY
 refine Du (pl:=pl) (cU (he ak s ae H _ aa aY) fun u s1 bM=>?_) bo
 obtain⟨x,H1,bf,bu,a,ai,fs,ex,de,l,q⟩:=bM
 subst ex
 obtain rfl:u=ar.ref a:=bu
 refine xm bf de c hm l ?_
 refine wV (first:=[.ref a]) (h₀:=X.base) aa.ok.mod.pk hm.kD (cU (bh aV ak s1 ae H1 _ bf q) fun us s2 bM=>?_) jM fR
 obtain⟨vs,ax,bE,r,cj⟩:=bM
 refine ⟨bE.fT,?_⟩
 have dB:Vals (V.ref a::vs) (ar.ref a::us) :=.cons rfl r
 have aC:(ar.ref a::us).length=aI.length:=by rw[<-dB.length];exact n1.len _ _ _ _ cj
 have kb:=fQ s2 (.ref a::us) bE.fT (by rw[List.append_nil];exact aC)
 rw[List.append_nil]at kb
 refine ux (m3 (n1.run X.A X.stack s2 ax ⟨.ref a::us,[]⟩ (.ref a::us) (.ref a::vs) Q (E ae) (az.mono hk') bE.xW kb dB cj) fun r aX aY=>?_)
 cases r with
 |error e=>exact ay ak ae ax s2 e aX bE aY
 |ok er =>
  cases er with
  |ret u=>exact bE.after aY
  |next=>exact False.elim aY
  |brk=>exact False.elim aY
  |cont=>exact False.elim aY
end
end cN
end
variable {q:ah} {ws:List cN.V} {eE cn iH oT aW:ag} {gr:Nat} {gH:List cN.D}
namespace KR
open PySem cN dG
abbrev bF:=@c3.of
abbrev dK:=@gY.of
abbrev cF:=@d7.refl
noncomputable def top(i:Nat):bz:=PySem.Challenge.pw_keyrise_k73_refused_values.main.body.getD i (.Pass ⟨0,0,0,0⟩)
noncomputable section
abbrev AN:bz:=top 89
abbrev Ex:bz:=top 88
abbrev AX:bz:=top 85
abbrev AY:bz:=top 84
abbrev Fd:bz:=top 80
abbrev Fc:bz:=top 79
abbrev EV:bz:=top 82
abbrev ET:bz:=top 81
abbrev EK:bz:=top 83
abbrev Fe:bz:=top 86
abbrev EL:bz:=top 87
abbrev z1:bz:=ea (top 62) 1
abbrev Am:bz:=ea (top 62) 2
abbrev z2:bz:=ea (top 62) 4
abbrev Ar:bz:=ea (top 50) 0
abbrev Ax:bz:=ea (top 50) 1
abbrev As:bz:=ea (top 50) 3
abbrev AB:bz:=ea (top 48) 0
abbrev Ao:bz:=ea (top 48) 1
abbrev AD:bz:=ea (top 48) 3
abbrev AL:bz:=ea (top 59) 4
abbrev AK:bz:=ea (top 59) 1
abbrev Aq:bz:=ea (top 59) 2
abbrev kR:bz:=ea (top 45) 0
abbrev Eg:bz:=top 37
abbrev EM:bz:=top 27
abbrev EO:bz:=top 26
abbrev ED:bz:=top 32
abbrev E1:bz:=top 31
abbrev E8:bz:=top 30
abbrev Eu:bz:=top 36
abbrev DY:bz:=top 35
abbrev EC:bz:=top 34
abbrev DZ:bz:=top 33
abbrev F9:bz:=top 97
abbrev AW:bz:=top 91
abbrev An:bz:=top 21
abbrev Kk:bz:=ea (top 14) 5
abbrev E9:bz:=top 73
abbrev E7:bz:=top 72
abbrev AJ:bz:=ea (top 77) 0
abbrev AQ:bz:=ea (top 77) 1
abbrev AG:bz:=ea (top 77) 7
abbrev EG:bz:=ea (top 61) 0
abbrev EH:bz:=ea (top 62) 0
abbrev E2:bz:=ea (top 49) 0
abbrev Ez:bz:=ea (top 51) 0
abbrev EP:bz:=ea (top 59) 0
abbrev E3:bz:=ea (top 60) 0
abbrev EE:bz:=ea (top 63) 0
abbrev EY:bz:=top 43
abbrev Fn:bz:=top 44
abbrev Fo:bz:=top 57
abbrev Fa:bz:=top 58
abbrev EZ:bz:=top 24
abbrev EI:bz:=top 18
abbrev Ew:bz:=top 19
abbrev zI:bz:=ea (top 46) 0
abbrev AE:bz:=ea (top 47) 0
abbrev EW:bz:=top 90
abbrev EX:bz:=top 92
abbrev Fb:bz:=top 93
abbrev ES:bz:=top 94
abbrev EB:bz:=top 95
abbrev EU:bz:=top 96
abbrev AH:bz:=ea (top 77) 2
abbrev AR:bz:=ea (top 77) 3
abbrev AI:bz:=ea (top 77) 4
abbrev zY:bz:=ea (top 77) 5
abbrev Aj:bz:=ea (top 77) 6
abbrev Fm:bz:=top 70
abbrev FD:bz:=top 68
abbrev Fg:bz:=top 69
abbrev Et:bz:=top 65
abbrev EJ:bz:=top 66
abbrev Ey:bz:=top 56
abbrev zZ:bz:=ea (top 61) 1
abbrev AS:bz:=ea (top 60) 1
abbrev zT:bz:=ea (top 63) 1
abbrev AO:bz:=ea (top 49) 1
abbrev zL:bz:=ea (top 51) 1
abbrev EF:bz:=ea (top 14) 0
abbrev zX:bz:=ea (top 14) 1
abbrev zW:bz:=ea (top 14) 2
abbrev EN:bz:=top 28
abbrev Ff:bz:=top 20
abbrev E0:bz:=top 22
abbrev ER:bz:=top 23
abbrev Wp:bz:=top 25
abbrev Ag:bz:=ea (top 46) 1
abbrev Ap:bz:=ea (top 47) 1
abbrev zH:bz:=ea (top 49) 2
abbrev Ai:bz:=ea (top 63) 2
abbrev zK:bz:=ea (top 60) 2
abbrev Ak:bz:=ea (top 61) 2
abbrev zJ:bz:=ea (top 46) 3
abbrev AF:bz:=ea (top 47) 3
abbrev AP:bz:=ea (top 49) 4
abbrev zU:bz:=ea (top 63) 4
abbrev AU:bz:=ea (top 60) 4
abbrev z0:bz:=ea (top 61) 4
abbrev zM:bz:=ea (top 51) 5
abbrev Al:bz:=ea (top 51) 2
abbrev Ah:bz:=ea (top 51) 3
abbrev zV:bz:=ea (top 14) 4
end
theorem nh:bW ["_law_pool_here","_law_form_here","_law_word","_law_cell","_law_size","_law_text","_law_k","_law_name","_law_inner"] ["_law_pool_here","_law_form_here"] (bI AN):=cb
theorem q6:bW ["_law_one","_law_other","_law_top","_law_bottom","_law_low","_law_by","_law_rest"] ["_law_one","_law_other"] (bI Ex):=cb
theorem KM:bW ["_law_form_here","_law_word"] ["_law_form_here"] (bI AX):=cb
theorem p6:bW ["_law_pool_here","_law_deep","_law_cell","_law_way","_law_many","_law_names_here","_law_inner","_law_k"] ["_law_pool_here","_law_deep"] (bI AY):=cb
theorem WV:bW ["_law_pool_here"] ["_law_pool_here"] (bI Fd):=cb
theorem sE:bW ["_law_script","_law_pool_here","_law_k","_law_number"] ["_law_script"] (bI Fc):=cb
theorem n9:bW ["_law_cell","_law_many","_law_some","_law_size","_law_at","_law_step","_law_number","_law_first","_law_stem","_law_k"] ["_law_cell","_law_many"] (bI EV):=cb
theorem o3:bW ["_law_cell","_law_rest","_law_size","_law_number","_law_found","_law_k","_law_at"] ["_law_cell"] (bI ET):=cb
theorem EA:bW ["_law_pool_here","_law_way","_law_low","_law_cell"] ["_law_pool_here","_law_way"] (bI EK):=cb
theorem KL:bW ["_law_cell","_law_number"] ["_law_cell"] (bI Fe):=cb
theorem VR:bW ["_law_cell"] ["_law_cell"] (bI EL):=cb
theorem VD:bW ["self","value"] ["self","value"] (bI z1):=cb
theorem Kg:bW ["self","value","place"] ["self","value"] (bI Am):=cb
theorem Ko:bW ["self","source","place"] ["self","source"] (bI z2):=cb
theorem UZ:bW ["self","value"] ["self","value"] (bI Ar):=cb
theorem UB:bW ["self","value"] ["self","value"] (bI Ax):=cb
theorem U0:bW ["self","source"] ["self","source"] (bI As):=cb
theorem VS:bW ["self","value"] ["self","value"] (bI AB):=cb
theorem UW:bW ["self","value"] ["self","value"] (bI Ao):=cb
theorem VT:bW ["self","source"] ["self","source"] (bI AD):=cb
theorem VZ:bW ["self","source"] ["self","source"] (bI AL):=cb
theorem VY:bW ["self","value"] ["self","value"] (bI AK):=cb
theorem UY:bW ["self","value"] ["self","value"] (bI Aq):=cb
theorem WX:bW ["self","value"] ["self","value"] (bI kR):=cb
theorem Ki:bW ["source","steps"] ["source"] (bI Eg):=cb
theorem Ks:bW ["source","n"] ["source"] (bI EM):=cb
theorem zS:bW ["source","ahead","digits"] ["source"] (bI EO):=cb
theorem sH:bW ["steps","top","bottom","step","turned_over"] ["steps"] (bI ED):=cb
theorem Wl:bW ["steps"] ["steps"] (bI E1):=cb
theorem sD:bW ["fraction","steps","top","bottom","rest"] ["fraction"] (bI E8):=cb
theorem sG:bW ["steps","last","rows","k","step","row"] ["steps"] (bI Eu):=cb
theorem Ke:bW ["fraction","steps"] ["fraction"] (bI DY):=cb
theorem Vs:bW ["fraction"] ["fraction"] (bI EC):=cb
theorem Af:bW ["one","other","rest"] ["one","other"] (bI DZ):=cb
theorem oc:bW ["_law_script","_law_pool_here","_law_first","_law_form_here","_law_made_here","_law_shelf","_law_some","_law_k","_law_held","_law_value_here"] ["_law_script"] (bI F9):=cb
theorem WU:bW ["_law_found","_law_due"] ["_law_found","_law_due"] (bI AW):=cb
theorem Kh:bW ["n"] ["n"] (bI An):=cb
theorem WT:bW ["form","signs"] ["form","signs"] (bI E9):=cb
theorem KI:bW ["form","source","value"] ["form","source"] (bI E7):=cb
theorem Kv:bW ["self","form","room"] ["self","form","room"] (bI AJ):=cb
theorem Ky:bW ["self","value","row"] ["self","value"] (bI AQ):=cb
theorem Kt:bW ["self","start","end","rows"] ["self","start","end"] (bI AG):=cb
theorem Vz:bW ["self","parts"] ["self","parts"] (bI EG):=cb
theorem VC:bW ["self","cases"] ["self","cases"] (bI EH):=cb
theorem Wm:bW ["self","low","high"] ["self","low","high"] (bI E2):=cb
theorem Ve:bW ["self","signs"] ["self","signs"] (bI Ez):=cb
theorem VX:bW ["self","inner"] ["self","inner"] (bI EP):=cb
theorem Wr:bW ["self","inner"] ["self","inner"] (bI E3):=cb
theorem Vt:bW ["self","inner"] ["self","inner"] (bI EE):=cb
theorem Wj:bW ["value"] ["value"] (bI EY):=cb
theorem Xw:bW ["text","signs"] ["text","signs"] (bI Fn):=cb
theorem Xx:bW ["name"] ["name"] (bI Fo):=cb
theorem KJ:bW ["parts","names"] ["parts"] (bI Fa):=cb
theorem Wk:bW ["n","most"] ["n","most"] (bI EZ):=cb
theorem VP:bW ["row"] ["row"] (bI EI):=cb
theorem U9:bW ["n","width"] ["n","width"] (bI Ew):=cb
theorem Vb:bW ["self","value"] ["self","value"] (bI zI):=cb
theorem VU:bW ["self","value"] ["self","value"] (bI AE):=cb
theorem Az:bW ["_law_kept","_law_kinds_here"] ["_law_kept"] (bI EW):=cb
theorem AA:bW ["_law_shelf","_law_way","_law_value_here","_law_kept","e"] ["_law_shelf","_law_way","_law_value_here"] (bI EX):=cb
theorem AM:bW ["_law_made_here","_law_room_here","_law_kept","e"] ["_law_made_here","_law_room_here"] (bI Fb):=cb
theorem Wi:bW ["_law_shelf"] ["_law_shelf"] (bI ES):=cb
theorem xk:bW ["_law_shelf","_law_made_here","_law_some","_law_held","_law_state_here","_law_value_here","_law_way"] ["_law_shelf","_law_made_here","_law_some"] (bI EB):=cb
theorem Ay:bW ["_law_made_here","_law_far","_law_room_here","_law_due"] ["_law_made_here","_law_far"] (bI EU):=cb
theorem Ku:bW ["self","value","row"] ["self","value"] (bI AH):=cb
theorem Wq:bW ["self","value"] ["self","value"] (bI AR):=cb
theorem VW:bW ["self"] ["self"] (bI AI):=cb
theorem Vy:bW ["self"] ["self"] (bI zY):=cb
theorem UJ:bW ["self"] ["self"] (bI Aj):=cb
theorem K1:bW ["rows","entries"] ["rows"] (bI Fm):=cb
theorem X2:bW ["rows"] ["rows"] (bI FD):=cb
theorem KN:bW ["ahead","row","shared"] ["ahead","row"] (bI Fg):=cb
theorem U8:bW ["one","other"] ["one","other"] (bI Et):=cb
theorem VQ:bW ["one","other"] ["one","other"] (bI EJ):=cb
theorem Ee:bW ["one","other","place"] ["one","other"] (bI Ey):=cb
theorem VA:bW ["self","value"] ["self","value"] (bI zZ):=cb
theorem Ws:bW ["self","value"] ["self","value"] (bI AS):=cb
theorem Vu:bW ["self","value"] ["self","value"] (bI zT):=cb
theorem Wn:bW ["self","value"] ["self","value"] (bI AO):=cb
theorem Vf:bW ["self","value"] ["self","value"] (bI zL):=cb
theorem Vx:bW ["self","signs","at"] ["self","signs","at"] (bI EF):=cb
theorem Es:bW ["self","wished","sign"] ["self"] (bI zX):=cb
theorem Vw:bW ["self"] ["self"] (bI zW):=cb
theorem zN:bW ["source","most","n","k"] ["source","most"] (bI EN):=cb
theorem WW:bW ["n"] ["n"] (bI Ff):=cb
theorem w7:bW ["n","m","digits","ahead","end"] ["n"] (bI E0):=cb
theorem Wh:bW ["n"] ["n"] (bI ER):=cb
theorem Aw:bW ["source","width","n","k"] ["source","width"] (bI Wp):=cb
theorem UE:bW ["self","value"] ["self","value"] (bI Ag):=cb
theorem UX:bW ["self","value"] ["self","value"] (bI Ap):=cb
theorem Va:bW ["self","value"] ["self","value"] (bI zH):=cb
theorem UI:bW ["self","value"] ["self","value"] (bI Ai):=cb
theorem Vd:bW ["self","value"] ["self","value"] (bI zK):=cb
theorem UK:bW ["self","value"] ["self","value"] (bI Ak):=cb
theorem Vc:bW ["self","source"] ["self","source"] (bI zJ):=cb
theorem VV:bW ["self","source"] ["self","source"] (bI AF):=cb
theorem Wo:bW ["self","source"] ["self","source"] (bI AP):=cb
theorem Kn:bW ["self","source","value"] ["self","source"] (bI zU):=cb
theorem Kz:bW ["self","source","values"] ["self","source"] (bI AU):=cb
theorem VB:bW ["self","source"] ["self","source"] (bI z0):=cb
theorem Ef:bW ["self","source","text"] ["self","source"] (bI zM):=cb
theorem UL:bW ["self","text"] ["self","text"] (bI Al):=cb
theorem Kf:bW ["self","value","most"] ["self","value"] (bI Ah):=cb
theorem Vv:bW ["self","sign"] ["self","sign"] (bI zV):=cb
structure dD(mg:ah->Option ar):Prop where
 ec:mg "len"=av
 lP:mg "range"=av
 tC:mg "int"=av
 I5:mg "str"=av
 BH:mg "bool"=av
 rR:mg "tuple"=av
 gS:mg "isinstance"=av
 H9:mg "min"=av
 H6:mg "list"=av
 sT:mg "all"=av
 ag9:mg "reversed"=av
 aap:mg "enumerate"=av
 Dm:mg "zip"=av
 O6:mg "set"=av
 ahn:mg "sorted"=av
 ZK:mg "abs"=av
variable {A:Prop} {u:Int} {s:List Int} {Q:bG} {a:List Bool} {S:eW} {l L:ag} {cs:r9} {g:bN}
section
open PySem cN dG
variable {P:c6} {w:cM} {K:bK} {mg:ah->Option ar} {base:br}
variable {f C:ag}{fd:ho}{c:dF}{n:Nat}{bw:D->Bool}{has:fI->Bool}{fw:D->List Bool}
seal ck kO gi hr kq h7 p2 xg i2 u9 Sp xh
local macro_rules | `(tactic| walk_at "g1")=>`(tactic| first
 |with_reducible exact True.intro
 |refine⟨_,I,?_⟩
 |refine⟨_,_,I,I,?_⟩
 |refine Or.inl ⟨_,_,I,I,?_⟩
 |refine Or.inr ⟨_,_,I,I,?_⟩
 |refine⟨I,?_⟩
 |refine⟨(by first|omega|decide),?_⟩)
local macro_rules | `(tactic| walk_at "g")=>`(tactic| repeat walk_at "g1")
theorem fm{p:Prop}[Decidable p](al:p->A)(aw:¬p->B):if decide p=au then A else B:=by
 by_cases h:p
 .rw[if_pos (fu h)];exact al h
 .rw[if_neg (by simpa using h)];exact aw h
theorem fv{p:Prop}[Decidable p](h:¬p)(aw:B):if decide p=au then A else B:=by rw[if_neg (by simpa using h)];exact aw
theorem hC{p:Prop}[Decidable p](h:p)(aw:A):if decide p=au then A else B:=by rw[if_pos (fu h)];exact aw
theorem iE{n:Nat}(h:n<=16000000):n<=bU:=dj h (by decide)
inductive JS(vs:List V)(H:aq)(Q:bG)(E:bT):Prop where
 |mk (l:List Bool) (bg:vs=[.str (aR l)]) (al:l.length<=16000000) (aw:Q (.str (aR (l.map (!·)))) H):JS  vs H Q E
def xi:b0:=fun vs H Q E=>JS  vs H Q E
theorem fC{n:Nat}(h:n<=100000):n<=bU:=dj h (by decide)
theorem Zd(l:List Bool){gI:Nat->V}(g:Bool->Bool)(h:∀i,i<l.length->gI i=.str (aR [g (l.getD i aA)])):(List.range l.length).map gI=((l.map g).map fun b=>aR [b]).map V.str:=by
 apply List.ext_getElem?
 intro i
 rw[e4,e4,e4,e4]
 rcases hv i l.length with z|z
 ·rw[List.getElem?_range z,c4 z]
  have:=h i z
  rw[eL,c4 z]at this
  exact congrArg J this
 .rw[Ad (by simpa using z),Ad z];rfl
theorem LS(l:List Bool):((l.map fun b=>aR [b]).map (·.length)).sum+(l.map fun b=>aR [b]).length*(ah.ofString "").length=l.length:=by
 have e:(ah.ofString "").length=0:=by decide+kernel
 rw[e,Nat.mul_zero,Nat.add_zero]
 induction l with
 |nil=>rfl
 |cons b r bQ=>simp only[gF,List.sum_cons,bQ,d8,eA,List.length_nil];omega
theorem FH(h:ae.length=1):∃z,ae=[z]:=by
 match ae,h with
 |[z],_=>exact⟨z,I⟩
theorem V0(F:dS K mg "turned_row" EI ["row"] f fd):bp P w K mg base 1 "turned_row" ["row"] xi:=by
 refine F.ez VP (fun bl A _ s H vs Q E az h=>?_)
 obtain⟨l,rfl,aC,q⟩:=h
 refine⟨_,(aQ (bx (jW PySem.F.plainAttrs_str PySem.F.slot_str_join PySem.F.type_str_join sO cT (ao (hZ ["sign"] [] I (by decide+kernel) trivial (iT (af 0)) (fun _ _ _ _ _=>(eo (i:=0) (show(["sign"]:List ah).Nodup by decide+kernel))) (fun _ _ _ _ _=>hN) (fun _ _ _ _ _=>(n7 (b6 dk (af 0) cT) cT cT))) aB)))),?_⟩
 try dsimp only[cG,cH,cI,cJ]
 refine⟨I,.inr ⟨_,I,_,I,fun D c0=>?_⟩⟩
 refine FO l.length (fun i =>.str (aR [l.getD i aA])) (fun i =>.str (aR [!l.getD i aA])) (fun ae=>ae.length=1) (iE aC) ?_ ?_ ?_ ?_ ?_ ?_
 .rfl
 .intro i H1 aJ;show i<(aR l).cps.size;simpa [aR] using aJ
 .intro H1;show(aR l).cps.size<=l.length;simp[aR]
 ·rintro i H1 x ax aJ ⟨rfl,c,hc,rfl⟩
  exact⟨I,Y0 hc⟩
 ·intro i bO H1 aJ c9 R b8
  obtain⟨z,rfl⟩:=FH c9
  refine⟨_,I,I,_,I,?_⟩
  revert b8
  rw[s0,s1,Y1]
  cases l.getD i aA
  .intro b8;exact eC (b8 _ (by rfl))
  .intro b8;exact dx (b8 _ (by rfl))
 ·refine⟨_,D,(l.map (!·)).map fun b=>aR [b],I,I,bF ?_,?_,H,.refl ?_,?_⟩
  .rw[aG];exact congrArg (fun x=>J (cZ.lst x)) (Zd l (!·) fun i _=>I)
  .rw[LS,cq];omega
  .exact dc c0
  .rw[Lo];exact q
inductive PV(vs:List V)(H:aq)(Q:bG)(E:bT):Prop where
 |mk (n d:Nat) (bg:vs=[.int n,.int d]) (al:d<=16000000) (aw:Q (.str (aR (dW n d))) H):PV  vs H Q E
def IS:b0:=fun vs H Q E=>PV  vs H Q E
theorem Xn(n d:Nat):dW n d=(List.range d).map fun i=>n.testBit (d-1-i):=by
 induction d with
 |zero=>rfl
 |succ d bQ =>
  rw[dW,bQ,List.range_succ_eq_map,gF,fV]
  congr 1
  apply nd
  intro i aJ
  show n.testBit (d-1-i)=n.testBit (d+1-1-(i+1))
  congr 1
  omega
theorem TJ(n k:Nat):cO.bitAnd ((n:Int)/2^k) 1=((n.testBit k).toNat:Int):=by
 rw[PyProof.Rows.bitAnd_m1]
 have e:((n:Int)/2^k)%2=((n/2^k%2:Nat):Int):=by
  rw[Int.natCast_emod,Int.natCast_ediv,Int.natCast_pow];rfl
 rw[e,Nat.testBit_eq_decide_div_mod_eq]
 have:n/2^k%2<2:=Nat.mod_lt _ (by decide)
 by_cases q:n/2^k%2=1
 .simp[q]
 ·have:n/2^k%2=0:=by omega
  simp[this]
theorem Vi(nb:dD mg)(F:dS K mg "lower_digits" Ew ["n","width"] f fd):bp P w K mg base 1 "lower_digits" ["n","width"] IS:=by
 refine F.ez U9 (fun bl A _ s H vs Q E az h=>?_)
 obtain⟨n,d,rfl,aC,q⟩:=h
 refine⟨_,(aQ (bx (jW PySem.F.plainAttrs_str PySem.F.slot_str_join PySem.F.type_str_join sO cT (ao (hZ ["k"] [(0,"n")] I (by decide+kernel) ⟨I,.inl I,trivial⟩ (Lh I nb.lP (ao (aS gb (af 1) aD) (ao (lD ly aD) (ao (lD ly aD) aB)))) (fun _ _ _ _ _=>(eo (i:=0) (show(["k","n"]:List ah).Nodup by decide+kernel))) (fun _ _ _ _ _=>hN) (fun _ _ _ _ _=>(n7 (b6 dk (aS T3 (aS MC (af 1) (af 0)) aD) aD) cT cT))) aB)))),?_⟩
 try dsimp only[cG,cH,cI,cJ]
 refine⟨I,_,I,_,_,I,I,_,I,_,I,_,_,I,⟨by omega,by omega,by decide,by decide⟩,fun D c0=>?_⟩
 have aZ:(((d:Int)-1)-(-1)).toNat=d:=by omega
 refine FO (((d:Int)-1)-(-1)).toNat (fun i =>.int ((d:Int)-1+i*(-1))) (fun i =>.str (aR [n.testBit (d-1-i)])) (fun ae=>∃z,ae=[z,J (.int n)]) (by rw[aZ];exact iE aC) ?_ ?_ ?_ ?_ ?_ ?_
 .exact⟨_,I⟩
 .intro i H1 aJ;exact aJ
 .intro H1;exact cE _
 ·rintro i H1 x ax aJ ⟨rfl,rfl⟩
  exact⟨I,I⟩
 ·rintro i bO H1 aJ ⟨z,rfl⟩ R b8
  rw[aZ]at aJ
  have g5:((d:Int)-1+(i:Int)*(-1)).toNat=d-1-i:=by omega
  refine⟨_,I,_,I,_,_,I,I,(by omega),_,_,I,I,I,_,I,?_⟩
  have aj:cO.bitAnd ((n:Int)/2^((d:Int)-1+(i:Int)*(-1)).toNat) 1=((n.testBit (d-1-i)).toNat:Int):=by rw[g5];exact TJ _ _
  revert b8
  rw[s0,s1]
  cases e:n.testBit (d-1-i)
  ·rw[e]at aj
   intro b8;exact fv (fun c=>absurd (aj.symm.trans (V.int.inj c)) (by decide)) (b8 _ ⟨_,I⟩)
  ·rw[e]at aj
   intro b8;exact hC (congrArg V.int aj) (b8 _ ⟨_,I⟩)
 ·refine⟨_,D,(dW n d).map fun b=>aR [b],I,I,bF ?_,?_,H,.refl ?_,?_⟩
  .rw[aG,aZ,Xn,fV,fV];rfl
  .rw[LS,iM];omega
  .exact dc c0
  .rw[Lo];exact q
inductive PA(vs:List V)(H:aq)(Q:bG)(E:bT):Prop where
 |mk (n m:Nat) (bg:vs=[.int n,.int m]) (al:n<=m) (aw:aF m<=16000000) (bq:Q (.str (aR (dW n (aF m)))) H):PA  vs H Q E
def y9:b0:=fun vs H Q E=>PA  vs H Q E
theorem WC(F:dS K mg "fixed_row" EZ ["n","most"] f fd)(sg:bp P w K mg base 1 "lower_digits" ["n","width"] IS):bp P w K mg base 2 "fixed_row" ["n","most"] y9:=by
 refine F.ez Wk (fun bl A _ s H vs Q E az h=>?_)
 obtain⟨n,m,rfl,aC,aj,q⟩:=h
 refine⟨_,(aP (cz (gi.pt (ks (b6 ke (af 0) aD) (lk (b6 kY (af 0) (af 1))))) (aQ lB) cy)
  (aQ (bx (bX sg az (ao (af 0) (ao (xG PySem.F.plainAttrs_int PySem.F.slot_int_bit_length PySem.F.type_int_bit_length xq (af 1)) aB)))))),?_⟩
 try dsimp only[cG,cH,cI,cJ]
 refine⟨_,I,.inl ⟨_,_,I,I,_,I,?_⟩⟩
 refine fv (by omega) ⟨_,I,_,I,_,_,I,I,_,I,?_⟩
 refine fv (by omega) ⟨_,I,_,I,I,_,I,I,?_⟩
 rw[vv]
 exact⟨n,aF m,I,aj,H,.refl (cF _),q⟩
noncomputable def f3(z:ah)(i:Int)(t e:Bool)(u:Int):List (ah×V):=[("signs",.str z),("place",.int i),("turned",.aE t),("endless",.aE e),("wished",.int u)]
noncomputable abbrev xY(z:ah)(i:Int)(t e:Bool):List (ah×V):=f3 z i t e 0
structure ve(K:bK)(C:ag):Prop where
 cl:ff K C
 oC:jm K C "signs"
 wt:jm K C "place"
 hn:jm K C "turned"
 aei:jm K C "endless"
 CC:jm K C "wished"
theorem Nb:¬(("signs":ah)="place"):=by decide+kernel
theorem Nc:¬(("signs":ah)="turned"):=by decide+kernel
theorem aaH:¬(("signs":ah)="endless"):=by decide+kernel
theorem Nd:¬(("signs":ah)="wished"):=by decide+kernel
theorem Nf:¬(("place":ah)="turned"):=by decide+kernel
theorem aaI:¬(("place":ah)="endless"):=by decide+kernel
theorem Ng:¬(("place":ah)="wished"):=by decide+kernel
theorem aaJ:¬(("turned":ah)="endless"):=by decide+kernel
theorem Nh:¬(("turned":ah)="wished"):=by decide+kernel
theorem Ni:¬(("endless":ah)="wished"):=by decide+kernel
theorem aa1:(("place":ah) == "signs")=aA:=by decide+kernel
theorem aa2:(("turned":ah) == "signs")=aA:=by decide+kernel
theorem aa3:(("turned":ah) == "place")=aA:=by decide+kernel
theorem aa4:(("wished":ah) == "signs")=aA:=by decide+kernel
theorem aa5:(("wished":ah) == "place")=aA:=by decide+kernel
theorem aa6:(("wished":ah) == "turned")=aA:=by decide+kernel
theorem aa7:(("wished":ah) == "endless")=aA:=by decide+kernel
theorem A7(z:ah):eU "signs" (.str z) []=([("signs",.str z)]:List (ah×V)):=rfl
theorem AZ(z:ah)(i:Int):eU "place" (.int i) ([("signs",.str z)]:List (ah×V))=([("signs",.str z),("place",.int i)]:List (ah×V)):=by
 simp only[eU,Nb,if_false]
theorem E4(z:ah)(i:Int)(t:Bool):eU "turned" (.aE t) ([("signs",.str z),("place",.int i)]:List (ah×V))=([("signs",.str z),("place",.int i),("turned",.aE t)]:List (ah×V)):=by
 simp only[eU,Nc,Nf,if_false]
theorem KC(z:ah)(i:Int)(t e:Bool):eU "endless" (.aE e) ([("signs",.str z),("place",.int i),("turned",.aE t)]:List (ah×V))=([("signs",.str z),("place",.int i),("turned",.aE t),("endless",.aE e)]:List (ah×V)):=by
 simp only[eU,aaH,aaI,aaJ,if_false]
theorem WY(z:ah)(i:Int)(t e:Bool)(u:Int):eU "wished" (.int u) ([("signs",.str z),("place",.int i),("turned",.aE t),("endless",.aE e)]:List (ah×V))=f3 z i t e u:=by
 simp only[eU,Nd,Ng,Nh,Ni,if_false];rfl
theorem X5(z:ah)(i j:Int)(t e:Bool)(u:Int):eU "place" (.int j) (f3 z i t e u)=f3 z j t e u:=by
 simp only[f3,eU,Nb,if_false,if_true]
theorem Xy(z:ah)(i:Int)(t gV e:Bool)(u:Int):eU "turned" (.aE gV) (f3 z i t e u)=f3 z i gV e u:=by
 simp only[f3,eU,Nc,Nf,if_false,if_true]
theorem K2(z:ah)(i:Int)(t e:Bool)(u dt:Int):eU "wished" (.int dt) (f3 z i t e u)=f3 z i t e dt:=by
 simp only[f3,eU,Nd,Ng,Nh,Ni,if_false,if_true]
theorem Fi(z:ah)(i:Int)(t e:Bool):(f3 z i t e u).lookup ("signs":ah)=J (.str z):=by simp[f3]
theorem A2(z:ah)(i:Int)(t e:Bool):(f3 z i t e u).lookup ("place":ah)=J (.int i):=by
 simp[f3,List.lookup,aa1]
theorem KQ(z:ah)(i:Int)(t e:Bool):(f3 z i t e u).lookup ("turned":ah)=J (.aE t):=by
 simp[f3,List.lookup,aa2,aa3]
theorem Xe(z:ah)(i:Int)(t e:Bool):(f3 z i t e u).lookup ("wished":ah)=J (.int u):=by
 simp[f3,List.lookup,aa4,aa5,aa6,aa7]
theorem lA(z:ah)(i:Int)(t e:Bool){m:ah}(h:(m == ("signs":ah))=aA)(aw:(m == ("place":ah))=aA)(bq:(m == ("turned":ah))=aA)
  (b4:(m == ("endless":ah))=aA:=by decide+kernel) (eb:(m == ("wished":ah))=aA:=by decide+kernel):(f3 z i t e u).lookup m=av:=by
 simp[f3,List.lookup,h,aw,bq,b4,eb]
def JY(H:aq)(p C ai:ag)(l:List Bool)(i:Nat)(t e:Bool):Prop:=∃u:Int,H p=J (.ins C ai (f3 (aR l) ((i:Nat):Int) t e u))
inductive QC(C:ag)(vs:List V)(H:aq)(Q:bG)(E:bT):Prop where
 |mk (p ai z i:_) (bg:vs=[.ref p,.str z,.int i]) (al:H p=J (.ins C ai [])) (aw:Q .bc (upd H p (.ins C ai (xY z i aA aA)))):QC C vs H Q E
def QB(C:ag):b0:=fun vs H Q E=>QC C vs H Q E
theorem W2(T:ve K C)(F:c1 K "__init__" "Source.__init__" EF f fd):cv P w K mg base c8 1 f fd ["self","signs","at"] (QB C):=by
 refine F.ok Vx (fun vs H Q E h=>?_) (fun bl A _ s H vs Q E az h=>?_)
 .obtain⟨p,ai,z,i,rfl,_⟩:=h;rfl
 obtain⟨p,ai,z,i,rfl,aO,q⟩:=h
 refine⟨_,(aP (hO (af 0) (af 1) I)
  (aP (hO (af 0) (af 2) rfl)
  (aP (hO (af 0) gg rfl)
  (aP (hO (af 0) gg rfl)
  (aQ (hO (af 0) aD rfl)))))),?_⟩
 try dsimp only[cG,cH,cI,cJ]
 refine⟨_,I,_,I,p,C,ai,_,I,aO,T.cl,T.oC,(by show 0<1000;decide),?_⟩
 refine⟨_,I,_,I,p,C,ai,_,I,aG,T.cl,T.wt,(by show 1<1000;decide),?_⟩
 refine⟨_,I,p,C,ai,_,I,aG,T.cl,T.hn,(by rw[A7,AZ];show 2<1000;decide),?_⟩
 refine⟨_,I,p,C,ai,_,I,aG,T.cl,T.aei,(by rw[A7,AZ,E4];show 3<1000;decide),?_⟩
 refine⟨_,I,p,C,ai,_,I,aG,T.cl,T.CC,(by rw[A7,AZ,E4,KC];show 4<1000;decide),?_⟩
 rw[fX,fX,fX,fX,A7,AZ,E4,KC,WY]
 exact q
inductive Pw(C:ag)(vs:List V)(H:aq)(Q:bG)(E:bT):Prop where
 |mk (p ai:ag) (l:List Bool) (i:Nat) (t e b:Bool) (bg:vs=[.ref p]) (al:JY H p C ai l i t e) (aw:l.length<=16000000) (bq:l[i]?=J b) (b4:Q (.int ((xor t b).toNat:Nat)) (upd H p (.ins C ai (xY (aR l) ((i+1:Nat):Int) t e)))):Pw C vs H Q E
def oM(C:ag):b0:=fun vs H Q E=>Pw C vs H Q E
theorem To(nb:dD mg)(T:ve K C)(F:c1 K "draw" "Source.draw" zX f fd):cv P w K mg base c8 1 f fd ["self"] (oM C):=by
 refine F.ok Es (fun vs H Q E h=>?_) (fun bl A _ s H vs Q E az h=>?_)
 .obtain⟨p,ai,l,i,t,e,b,rfl,_⟩:=h;rfl
 obtain⟨p,ai,l,i,t,e,b,rfl,⟨u,aO⟩,aC,aj,q⟩:=h
 have aJ:i<l.length:=(i4.mp aj).1
 refine⟨_,(aP (bZ 1 Es.bB (dw (af 0) I))
  (aP (hO (af 0) aD rfl)
  (aP (cz (b6 ke (dw (af 0) rfl) (cx ep rfl nb.ec ef (ao (dw (af 0) rfl) aB))) (aP (bZ 2 Es.bB (vn Ba rfl nb.tC sR (ao (cV cX (dw (af 0) rfl) (dw (af 0) rfl)) aB)))
   (aP (hO (af 0) (aS ed (dw (af 0) rfl) aD) rfl)
   (aQ (bx (n7 (hy (dw (af 0) rfl)) (aS gb aD (af 2)) (af 2)))))) cy)
  (aP (cz (i6 (hy (dw (af 0) rfl))) (aQ lB) cy)
  (aQ (bx (af 1))))))),?_⟩
 try dsimp only[cG,cH,cI,cJ]
 refine⟨_,I,p,C,ai,_,_,I,aO,T.cl,T.CC,Xe ..,?_⟩
 refine⟨_,I,p,C,ai,_,I,aO,T.cl,T.CC,(by show 5<1000;decide),?_⟩
 rw[K2]
 refine⟨_,I,p,C,ai,_,_,I,aG,T.cl,T.wt,A2 ..,_,I,p,C,ai,_,_,I,aG,T.cl,T.oC,Fi ..,_,_,I,⟨by rw[d8];exact iE aC,I⟩,.inl ⟨_,_,rfl,rfl,_,rfl,?_⟩⟩
 refine hC (by rw[d8];omega) ?_
 refine⟨_,I,p,C,ai,_,_,I,aG,T.cl,T.oC,Fi ..,_,I,p,C,ai,_,_,I,aG,T.cl,T.wt,A2 ..,.inr ⟨_,_,l2 b,I,I,by rw[d8];exact iE aC,dz (xt aj),.inr ⟨_,_,I,YX b,(by show 1<=640;decide),?_⟩⟩⟩
 refine⟨_,I,p,C,ai,_,_,I,aG,T.cl,T.wt,A2 ..,.inl ⟨_,_,I,I,_,I,p,C,ai,_,I,aG,T.cl,T.wt,(by show 5<1000;decide),?_⟩⟩
 rw[X5,fX]
 refine⟨_,I,p,C,ai,_,_,I,aG,T.cl,T.hn,KQ ..,_,I,?_⟩
 cases t with
 |false =>
  refine dx ⟨_,I,?_⟩
  have e:(aA ^^ b)=b:=by cases b<;>rfl
  rw[e]at q
  exact q
 |true =>
  refine eC ⟨_,I,_,_,I,I,?_⟩
  have e:((au ^^ b).toNat:Int)=1-(b.toNat:Int):=by cases b<;>rfl
  rw[e]at q
  exact q
inductive QI(C:ag)(vs:List V)(H:aq)(Q:bG)(E:bT):Prop where
 |mk (p ai:ag) (l:List Bool) (i:Nat) (t e:Bool) (u:Int) (bg:vs=[.ref p]) (al:H p=J (.ins C ai (f3 (aR l) ((i:Nat):Int) t e u))) (aw:Q .bc (upd H p (.ins C ai (f3 (aR l) ((i:Nat):Int) (!t) e u)))):QI C vs H Q E
def zg(C:ag):b0:=fun vs H Q E=>QI C vs H Q E
theorem Th(T:ve K C)(F:c1 K "turn" "Source.turn" zW f fd):cv P w K mg base c8 1 f fd ["self"] (zg C):=by
 refine F.ok Vw (fun vs H Q E h=>?_) (fun bl A _ s H vs Q E az h=>?_)
 .obtain⟨p,ai,l,i,t,e,u,rfl,_⟩:=h;rfl
 obtain⟨p,ai,l,i,t,e,u,rfl,aO,q⟩:=h
 refine⟨_,(aQ (hO (af 0) (FV (dw (af 0) I)) I)),?_⟩
 try dsimp only[cG,cH,cI,cJ]
 refine⟨_,I,p,C,ai,_,_,I,aO,T.cl,T.hn,KQ ..,t,I,_,I,p,C,ai,_,I,aO,T.cl,T.hn,(by show 5<1000;decide),?_⟩
 rw[Xy]
 exact q
def ue:b0:=fun _ _ _ _=>False
noncomputable abbrev fe(C ai:ag)(l:List Bool)(i:Nat)(t e:Bool):cZ :=.ins C ai (xY (aR l) ((i:Nat):Int) t e)
noncomputable abbrev zh(C ai:ag)(l:List Bool)(i:Nat)(t e:Bool)(u:Int):cZ :=.ins C ai (f3 (aR l) ((i:Nat):Int) t e u)
inductive Pq(C:ag)(vs:List V)(H:aq)(Q:bG)(E:bT):Prop where
 |mk (p ai:ag) (l:List Bool) (i n m:Nat) (t b1:Bool) (bg:vs=[.ref p,.int m]) (al:H p=J (fe C ai l i t b1)) (aw:l.length<=16000000) (bq:n<=m) (b4:i+aF m<=l.length) (eb:((l.drop i).take (aF m)).map (xor t)=dW n (aF m)) (ij:Q (.int n) (upd H p (fe C ai l (i+aF m) t b1))):Pq C vs H Q E
def y8(C:ag):b0:=fun vs H Q E=>Pq C vs H Q E
theorem V8(nb:dD mg)(eg:ff K C)(F:dS K mg "draw_fixed" EN ["source","most"] f fd)(gN:fZ P w K mg base 1 C "draw" ["self"] (oM C))(lX:fZ P w K mg base 1 C "refuse" ["self"] ue):bp P w K mg base 2 "draw_fixed" ["source","most"] (y8 C):=by
 refine F.ez zN (fun bl A _ s H vs Q E az h=>?_)
 obtain⟨p,ai,l,i,n,m,t,b1,rfl,aO,aC,aZ,aJ,aj,q⟩:=h
 refine⟨_,(aP (bZ 2 zN.bB aD)
  (aP (ll h5.never rfl (Lh rfl nb.lP (ao (aS gb (xG PySem.F.plainAttrs_int PySem.F.slot_int_bit_length PySem.F.type_int_bit_length xq (af 1)) aD) (ao (lD ly aD) (ao (lD ly aD) aB)))) (eo (i:=3) zN.bB rfl (by exact Or.inl I))
   (aP (bZ 2 zN.bB (aS ed (aS kZ aD (af 2)) (ig gN eg az (af 0))))
   (aQ (cz (b6 kY (af 2) (aS MC (af 1) (af 3))) (aQ (ih (ig lX eg az (af 0)))) cy))))
  (aQ (bx (af 2))))),?_⟩
 try dsimp only[cG,cH,cI,cJ]
 have ajN:=vv m
 refine⟨_,I,I,_,I,I,_,_,I,I,_,I,_,I,_,_,I,⟨by omega,by omega,by decide,by decide⟩,?_⟩
 have hw:(((cO.Int.intBits ((m:Nat):Int):Nat):Int)-1-(-1)).toNat=aF m:=by omega
 refine XR (fun j ae ax=>∃z,ae=[J (.ref p),J (.int m),J (.int ((n/2^(aF m-j):Nat):Int)),z]/\ax=upd H p (fe C ai l (i+j) t b1)) ?_ ?_ ?_
 ·refine⟨av,?_,(A5 aO).symm⟩
  rw[Nat.sub_zero,Nat.div_eq_of_lt (Nat.lt_of_le_of_lt aZ (Bz m))];rfl
 ·rintro j ae ax cw ⟨z,rfl,rfl⟩
  rw[hw]at cw
  obtain⟨b,gn,fQ⟩:=X8 aj cw aJ
  have j3:(((cO.Int.intBits ((m:Nat):Int):Nat):Int)-1+(j:Int)*(-1)).toNat=aF m-1-j:=by omega
  have aU:aF m-j=aF m-1-j+1:=by omega
  have ba:aF m-(j+1)=aF m-1-j:=by omega
  have aK:=Zo n (aF m-1-j)
  refine⟨_,I,.inl ⟨_,_,I,I,.inl ⟨by decide,by decide⟩,_,rfl,p,ai,_,rfl,aG,lA _ _ _ _ (by decide+kernel) (by decide+kernel) (by decide+kernel),?_⟩⟩
  refine⟨p,ai,l,i+j,t,b1,b,I,⟨_,aG⟩,aC,gn,.inl ⟨_,_,I,I,?_⟩⟩
  refine⟨_,I,_,I,_,I,_,_,I,I,(by omega),_,_,I,I,_,I,?_⟩
  have ev:(2:Int)*((n/2^(aF m-j):Nat):Int)+(((t ^^ b).toNat:Nat):Int)=((n/2^(aF m-(j+1)):Nat):Int):=by
   rw[fQ,aU,ba,aK];omega
  refine fv ?_ ?_
  ·rw[ev,j3,ba]
   have a1:((m:Nat):Int)/2^(aF m-1-j)=((m/2^(aF m-1-j):Nat):Int):=by
    rw[Int.natCast_ediv,Int.natCast_pow];rfl
   have a2:=Nat.div_le_div_right (c:=2^(aF m-1-j)) aZ
   rw[a1];omega
  ·rw[<-ev]
   exact⟨_,I,by rw[fX];rfl⟩
 ·rintro ae ax ⟨z,rfl,rfl⟩
  rw[hw]
  refine⟨_,I,_,.ins aO (fun b u aj e=>by rw[bt aj];exact e) aG,?_⟩
  have e:n/2^(aF m-aF m)=n:=by rw[Nat.sub_self,Nat.pow_zero,Nat.div_one]
  rw[e]
  exact q
inductive Pn(vs:List V)(H:aq)(Q:bG)(E:bT):Prop where
 |mk (n:Nat) (bg:vs=[.int n]) (al:n+1<2^255) (aw:Q (.str (aR (cnt n))) H):Pn  vs H Q E
def y7:b0:=fun vs H Q E=>Pn  vs H Q E
theorem Zr{e:Nat}:e<8->0<(fE e).length:=by intro h;unfold fE;rw[if_neg (by omega)];decide
theorem FP(e:Nat):(fE e).length<=1:=by unfold fE;split<;>simp
theorem Zu{n:Nat}(h:2^k<=n):k<aF n:=by
 rcases hv k (aF n)with z|z
 .exact z
 ·have:=Bz n
  have:=Nat.pow_le_pow_right (show 0<2 by decide) z
  omega
def hU(n:Int):Prop:=0<=n/\n<2^255-1
noncomputable instance (n:Int):Decidable (hU n):=inferInstanceAs (Decidable (_/\_))
inductive PL(vs:List V)(H:aq)(Q:bG)(E:bT):Prop where
 |mk (n:Int) (bg:vs=[.int n]) (al:Q (.aE (decide (hU n))) H):PL  vs H Q E
def za:b0:=fun vs H Q E=>PL  vs H Q E
theorem M0:hU (m:Int)↔aF (m+1)<=255:=by
 unfold hU
 constructor
 .intro ⟨_,h⟩;exact jI (by omega)
 ·intro h
  rcases hv (m+1) (2^255)with z|z
  .omega
  .have:=Zu z;omega
theorem Xb(Gz:ek mg "MOST_DIGITS" (.int 255))(F:dS K mg "is_count" Ff ["n"] f fd):bp P w K mg base 1 "is_count" ["n"] za:=by
 refine F.ez WW (fun bl A _ s H vs Q E az h=>?_)
 obtain⟨n,rfl,q⟩:=h
 refine⟨_,(aQ (bx (i7 (gZ CJ (af 0) aD) (ky (gZ tP (xG PySem.F.plainAttrs_int PySem.F.slot_int_bit_length PySem.F.type_int_bit_length xq (aS ed (af 0) aD)) (hM Gz)))))),?_⟩
 try dsimp only[cG,cH,cI,cJ]
 refine⟨_,I,_,_,I,I,_,I,?_⟩
 refine fm (fun c=>?_) (fun c=>?_)
 ·refine⟨_,I,.inl ⟨_,_,I,I,I,_,I,I,_,_,I,I,H,.refl (cF _),?_⟩⟩
  obtain⟨m,rfl⟩:∃m:Nat,n=m:=⟨n.toNat,by omega⟩
  rw[show((m:Int)+1)=((m+1:Nat):Int)from rfl,vv (m+1)]
  have e:decide (((aF (m+1):Nat):Int)<=255)=decide (hU (m:Int)):=by
   rw[decide_eq_decide,M0];omega
  dsimp only
  rw[e]
  exact q
 ·refine⟨H,.refl (cF _),?_⟩
  have e:decide (hU n)=aA:=gd fun z=>c z.1
  rw[<-e];exact q
theorem WD(vL:ek mg "MOST_AHEAD" (.int 7))(F:dS K mg "count_row" E0 ["n"] f fd)(m5:bp P w K mg base 1 "is_count" ["n"] za)(sg:bp P w K mg base 1 "lower_digits" ["n","width"] IS):bp P w K mg base 2 "count_row" ["n"] y7:=by
 refine F.ez w7 (fun bl A _ s H vs Q E az h=>?_)
 obtain⟨n,rfl,aZ,q⟩:=h
 refine⟨_,(aP (cz (i6 (hy (bX m5 az (ao (af 0) aB)))) (aQ lB) cy)
  (aP (bZ 1 w7.bB (aS ed (af 0) aD))
  (aP (bZ 2 w7.bB (xG PySem.F.plainAttrs_int PySem.F.slot_int_bit_length PySem.F.type_int_bit_length xq (af 1)))
  (aP (bZ 3 w7.bB (aS gb (xG PySem.F.plainAttrs_int PySem.F.slot_int_bit_length PySem.F.type_int_bit_length xq (af 2)) aD))
  (aP (bZ 4 w7.bB (n7 (b6 dk (af 3) (hM vL)) cT cT))
  (aQ (bx (aS ed (aS ed (aS ed (aS kZ cT (af 3)) (af 4)) (bX sg az (ao (af 2) (ao (af 3) aB)))) (bX sg az (ao (af 1) (ao (aS gb (af 2) aD) aB))))))))))),?_⟩
 try dsimp only[cG,cH,cI,cJ]
 have hd:aF (n+1)<=255:=jI aZ
 have aO:0<aF (n+1):=vq (by omega)
 have he:aF (aF (n+1))<=8:=jI (by omega)
 have aY:0<aF (aF (n+1)):=vq (by omega)
 have hz:=vv (n+1)
 have e6:=vv (aF (n+1))
 refine⟨_,I,_,I,_,I,?_⟩
 rw[fu (M0.mpr hd)]
 refine dx ⟨_,I,.inl ⟨_,_,I,I,_,I,I,_,I,I,?_⟩⟩
 rw[show((n:Int)+1)=((n+1:Nat):Int)from rfl,hz]
 refine⟨_,I,I,_,I,I,_,_,I,I,?_⟩
 rw[e6]
 obtain⟨k,hk⟩:∃k:Nat,((aF (aF (n+1)):Nat):Int)-1=k:=⟨aF (aF (n+1))-1,by omega⟩
 have hk':k=aF (aF (n+1))-1:=by omega
 dsimp only
 rw[hk]
 have a1:(k:Int)<2^40:=by omega
 have a2 : -(2^40)<(k:Int):=by omega
 have a3:(ah.ofString "1").length*((k:Nat):Int).toNat<=bU:=by rw[s1,d8];exact fC (by show 1*_<=_;omega)
 have a4:(Txt.mul (ah.ofString "1") (k:Int)).length+(aR (fE (aF (aF (n+1))))).length<=bU:=by
  rw[s1,Bv,d8,d8,List.length_replicate]
  have:=FP (aF (aF (n+1)))
  exact fC (by omega)
 have a5:(Txt.mul (ah.ofString "1") (k:Int)++aR (fE (aF (aF (n+1))))).length+(aR (dW (aF (n+1)) k)).length<=bU:=by
  rw[s1,Bv,kz,d8,d8,ee,List.length_replicate,iM]
  have:=FP (aF (aF (n+1)))
  exact fC (by omega)
 have a6:(Txt.mul (ah.ofString "1") (k:Int)++aR (fE (aF (aF (n+1))))++aR (dW (aF (n+1)) k)).length+(aR (dW (n+1) (aF (n+1)-1))).length<=bU:=by
  rw[s1,Bv,kz,kz,d8,d8,ee,ee,List.length_replicate,iM,iM]
  have:=FP (aF (aF (n+1)))
  exact fC (by omega)
 have MS:Txt.mul (ah.ofString "1") (k:Int)++aR (fE (aF (aF (n+1))))++aR (dW (aF (n+1)) k)++aR (dW (n+1) (aF (n+1)-1))=aR (cnt n):=by
  rw[s1,Bv,kz,kz,kz]
  unfold cnt
  rw[hk',h9,h9]
  rfl
 have ad:[V.int ((n:Int)+1),V.int (((aF (n+1):Nat):Int)-1)]=[.int ((n+1:Nat):Int),.int ((aF (n+1)-1:Nat):Int)]:=by
  have:((aF (n+1):Nat):Int)-1=((aF (n+1)-1:Nat):Int):=by omega
  rw[this];rfl
 refine⟨_,I,I,_,I,?_⟩
 refine fm (fun c=>?_) (fun c=>?_)
 ·have G9:(ah.ofString "")=aR (fE (aF (aF (n+1)))):=by
   have:=V.int.inj c
   rw[y2];unfold fE;rw[if_pos (by omega)]
  rw[G9]
  refine⟨_,I,.inr ⟨_,_,I,I,a1,a2,a3,_,I,.inr ⟨_,_,I,I,a4,_,I,_,I,_,_,I,(by omega),.inr ⟨_,_,I,I,a5,?_⟩⟩⟩⟩
  refine⟨_,I,_,I,_,_,I,I,n+1,aF (n+1)-1,ad,(by omega),.inr ⟨_,_,I,I,a6,H,.refl (cF _),?_⟩⟩
  rw[MS]
  exact q
 ·have G9:(ah.ofString "0")=aR (fE (aF (aF (n+1)))):=by
   have:¬k=7:=fun z=>c (by rw[z];rfl)
   rw[s0];unfold fE;rw[if_neg (by omega)]
  rw[G9]
  refine⟨_,I,.inr ⟨_,_,I,I,a1,a2,a3,_,I,.inr ⟨_,_,I,I,a4,_,I,_,I,_,_,I,(by omega),.inr ⟨_,_,I,I,a5,?_⟩⟩⟩⟩
  refine⟨_,I,_,I,_,_,I,I,n+1,aF (n+1)-1,ad,(by omega),.inr ⟨_,_,I,I,a6,H,.refl (cF _),?_⟩⟩
  rw[MS]
  exact q
def ib(n:Int):Prop := -(2^255)<n/\n<2^255-1
inductive Kj(vs:List V)(H:aq)(Q:bG)(E:bT):Prop where
 |mk (n:Int) (bg:vs=[.int n]) (al:ib n) (aw:Q (.str (aR (ha n))) H):Kj  vs H Q E
def AV:b0:=fun vs H Q E=>Kj  vs H Q E
theorem Mh{n:Int}(h:n<0)(b : -(2^255)<n):∃m:Nat,-1-n=m/\m+1<2^255/\ha n=aA::(cnt m).map (!·):=by
 refine⟨(-1-n).toNat,by omega,by omega,?_⟩
 unfold ha;rw[if_pos h]
theorem Mc{n:Int}(h:¬n<0)(b:n<2^255-1):∃m:Nat,n=m/\m+1<2^255/\ha n=au::cnt m:=by
 refine⟨n.toNat,by omega,by omega,?_⟩
 unfold ha;rw[if_neg h]
theorem Bq{n:Nat}(h:n+1<2^255):(cnt n).length<=269:=by
 have:=xo h
 have:=jI h
 omega
theorem L3(b:Bool)(l:List Bool):aR [b]++aR l=aR (b::l):=by rw[kz];rfl
theorem Wu(F:dS K mg "whole_row" ER ["n"] f fd)(lW:bp P w K mg base 2 "count_row" ["n"] y7)(n0:bp P w K mg base 1 "turned_row" ["row"] xi):bp P w K mg base 3 "whole_row" ["n"] AV:=by
 refine F.ez Wh (fun bl A _ s H vs Q E az h=>?_)
 obtain⟨n,rfl,aZ,q⟩:=h
 refine⟨_,(aP (cz (b6 ke (af 0) aD) (aQ (bx (aS ed cT (bX n0 az (ao (bX lW az (ao (aS gb (lD ly aD) (af 0)) aB)) aB))))) cy)
  (aQ (bx (aS ed cT (bX lW az (ao (af 0) aB)))))),?_⟩
 try dsimp only[cG,cH,cI,cJ]
 refine⟨_,I,.inl ⟨_,_,I,I,_,I,?_⟩⟩
 refine fm (fun c=>?_) (fun c=>?_)
 ·obtain⟨m,e,hm,j5⟩:=Mh c aZ.1
  have lm:=Bq hm
  refine⟨_,I,_,I,_,_,I,I,m,(congrArg (fun x=>[V.int x]) e),hm,cnt m,I,(by omega),.inr ⟨_,_,I,I,(by rw[s0,d8,d8,cq];exact fC (by simp only[eA,List.length_nil];omega)),H,.refl (cF _),?_⟩⟩
  rw[s0,L3,<-j5]
  exact q
 ·obtain⟨m,rfl,hm,j5⟩:=Mc c aZ.2
  have lm:=Bq hm
  refine⟨_,I,m,I,hm,.inr ⟨_,_,I,I,(by rw[s1,d8,d8];exact fC (by simp only[eA,List.length_nil];omega)),H,.refl (cF _),?_⟩⟩
  rw[s1,L3,<-j5]
  exact q
inductive Pt(C:ag)(vs:List V)(H:aq)(Q:bG)(E:bT):Prop where
 |mk (p ai:ag) (l:List Bool) (i d:Nat) (t b1:Bool) (bg:vs=[.ref p,.int d]) (al:H p=J (fe C ai l i t b1)) (aw:l.length<=16000000) (bq:i+d<=l.length) (b4:Q (.int ((kF 1 (((l.map (xor t)).drop i).take d):Nat):Int)) (upd H p (fe C ai l (i+d) t b1))):Pt C vs H Q E
def Ps(C:ag):b0:=fun vs H Q E=>Pt C vs H Q E
theorem get_map{l:List Bool}(h:i<l.length):∃b,l[i]?=J b/\(l.map (xor t)).getD i aA=xor t b:=by
 refine⟨l[i],c4 h,?_⟩
 rw[eL,e4,c4 h];rfl
theorem XY{L:List Bool}{b:Bool}(h:i+j<L.length)(aj:L.getD (i+j) aA=b):(L.drop i).take (j+1)=(L.drop i).take j++[b]:=by
 rw[lu,List.getElem?_drop]
 rw[eL,c4 h]at aj
 rw[c4 h]
 have:L[i+j]=b:=aj
 rw[this];rfl
theorem UA(nb:dD mg)(eg:ff K C)(F:dS K mg "draw_lower_digits" Wp ["source","width"] f fd)(gN:fZ P w K mg base 1 C "draw" ["self"] (oM C)):bp P w K mg base 2 "draw_lower_digits" ["source","width"] (Ps C):=by
 refine F.ez Aw (fun bl A _ s H vs Q E az h=>?_)
 obtain⟨p,ai,l,i,d,t,b1,rfl,aO,aC,aJ,q⟩:=h
 refine⟨_,(aP (bZ 2 Aw.bB aD)
  (aP (ll h5.never rfl (ob rfl nb.lP (ao (af 1) aB)) (eo (i:=3) Aw.bB rfl (by exact Or.inl I))
   (aQ (bZ 2 Aw.bB (aS ed (aS kZ aD (af 2)) (ig gN eg az (af 0))))))
  (aQ (bx (af 2))))),?_⟩
 try dsimp only[cG,cH,cI,cJ]
 refine⟨_,I,_,I,by omega,by omega,?_⟩
 refine qW (fun j ae ax=>∃z,ae=[J (.ref p),J (.int d),J (.int ((kF 1 (((l.map (xor t)).drop i).take j):Nat):Int)),z]/\ax=upd H p (fe C ai l (i+j) t b1)) ?_ ?_ ?_
 .exact⟨av,I,(A5 aO).symm⟩
 ·rintro j ae ax cw ⟨z,rfl,rfl⟩
  have NV:j<d:=by omega
  obtain⟨b,gn,fQ⟩:=get_map (l:=l) (t:=t) (i:=i+j) (by omega)
  have aio:=XY (L:=l.map (xor t)) (i:=i) (j:=j) (by rw[cq];omega) fQ
  refine⟨_,I,.inl ⟨_,_,I,I,.inl ⟨by decide,by decide⟩,_,rfl,p,ai,_,rfl,aG,lA _ _ _ _ (by decide+kernel) (by decide+kernel) (by decide+kernel),?_⟩⟩
  refine⟨p,ai,l,i+j,t,b1,b,I,⟨_,aG⟩,aC,gn,.inl ⟨_,_,I,I,?_⟩⟩
  have ev:(2:Int)*((kF 1 (((l.map (xor t)).drop i).take j):Nat):Int)+(((t ^^ b).toNat:Nat):Int)=((kF 1 (((l.map (xor t)).drop i).take (j+1)):Nat):Int):=by
   rw[aio,X4]
   show _=((2*kF 1 (((l.map (xor t)).drop i).take j)+(t ^^ b).toNat:Nat):Int)
   omega
  rw[<-ev]
  exact⟨_,I,by rw[fX];rfl⟩
 ·rintro ae ax ⟨z,rfl,rfl⟩
  have e:((d:Nat):Int).toNat=d:=by omega
  rw[e]
  exact⟨_,I,_,.ins aO (fun b u aj e=>by rw[bt aj];exact e) aG,q⟩
inductive Pp(C:ag)(vs:List V)(H:aq)(Q:bG)(E:bT):Prop where
 |mk (p ai:ag) (l:List Bool) (i n:Nat) (t b1:Bool) (bg:vs=[.ref p]) (al:JY H p C ai l i t b1) (aw:l.length<=16000000) (bq:i<=l.length) (b4:n+1<2^255) (eb:cnt n <+: (l.map (xor t)).drop i) (ij:Q (.int (n:Nat)) (upd H p (fe C ai l (i+(cnt n).length) t b1))):Pp C vs H Q E
def II(C:ag):b0:=fun vs H Q E=>Pp C vs H Q E
theorem V9(vL:ek mg "MOST_AHEAD" (.int 7))(eg:ff K C)(F:dS K mg "draw_count" EO ["source"] f fd)(gN:fZ P w K mg base 1 C "draw" ["self"] (oM C))(zx:bp P w K mg base 2 "draw_lower_digits" ["source","width"] (Ps C)):bp P w K mg base 3 "draw_count" ["source"] (II C):=by
 refine F.ez zS (fun bl A _ s H vs Q E az h=>?_)
 obtain⟨p,ai,l,i,n,t,b1,rfl,⟨wM,aO⟩,aC,aJ,aZ,hc,q⟩:=h
 refine⟨_,(aP (bZ 1 zS.bB aD)
  (aP (q0 h5.never (gi.pt (o4 (b6 ke (af 1) (hM vL)) (p8 (b6 dk (ig gN eg az (af 0)) aD))))
   (aQ (bZ 1 zS.bB (aS ed (af 1) aD))))
  (aP (bZ 2 zS.bB (bX zx az (ao (af 0) (ao (af 1) aB))))
  (aQ (bx (aS gb (bX zx az (ao (af 0) (ao (aS gb (af 2) aD) aB))) aD)))))),?_⟩
 try dsimp only[cG,cH,cI,cJ]
 have hd:aF (n+1)<=255:=jI aZ
 have aj8:0<aF (n+1):=vq (by omega)
 have he:aF (aF (n+1))<=8:=jI (by omega)
 have aY:0<aF (aF (n+1)):=vq (by omega)
 have ca:=Ul hc (by rw[cq];exact aJ)
 have fits:=ca.fits
 have cl:=Mo n
 rw[cq]at fits
 refine⟨fun m ae ax=>∃(j:Nat)(u:Int),j<=aF (aF (n+1))-1/\m=8-j/\ae=[J (.ref p),J (.int (j:Nat)),av]/\(j≠0->u=0)/\ax=upd H p (.ins C ai (f3 (aR l) ((i+j:Nat):Int) t b1 u)),⟨8,0,wM,UF _,I,I,(fun z=>absurd I z),(A5 aO).symm⟩,?_⟩
 rintro m ae ax ⟨j,u,cw,rfl,rfl,da,rfl⟩
 refine⟨_,I,.inl ⟨_,_,I,I,_,I,?_⟩⟩
 have v1:kF 1 (((l.map (xor t)).drop (i+(aF (aF (n+1))-1)+(fE (aF (aF (n+1)))).length)).take (aF (aF (n+1))-1))=aF (n+1):=by rw[ca.size];exact My (by omega)
 have v2:kF 1 (((l.map (xor t)).drop (i+(aF (aF (n+1))-1)+(fE (aF (aF (n+1)))).length+(aF (aF (n+1))-1))).take (aF (n+1)-1))=n+1:=by rw[ca.more];exact My (by omega)
 have ad:[V.ref p,V.int (((aF (n+1):Nat):Int)-1)]=[.ref p,.int ((aF (n+1)-1:Nat):Int)]:=by
  have:((aF (n+1):Nat):Int)-1=((aF (n+1)-1:Nat):Int):=by omega
  rw[this]
 have MR:((n+1:Nat):Int)-1=((n:Nat):Int):=by omega
 have ap:i+(aF (aF (n+1))-1)+(fE (aF (aF (n+1)))).length+(aF (aF (n+1))-1)+(aF (n+1)-1)=i+(cnt n).length:=by omega
 refine fm (fun c=>?_) (fun c=>?_)
 ·have ajV:j<7:=by omega
  obtain⟨b,gn,fQ⟩:=get_map (l:=l) (t:=t) (i:=i+j) (by have:=Zr (e:=aF (aF (n+1)));omega)
  refine⟨_,I,p,ai,_,I,aG,lA _ _ _ _ (by decide+kernel) (by decide+kernel) (by decide+kernel),p,ai,l,i+j,t,b1,b,I,⟨_,aG⟩,aC,gn,I,_,I,?_⟩
  by_cases acb:j<aF (aF (n+1))-1
  ·have o:=ca.ones j acb
   rw[fQ]at o
   rw[o]
   refine hC I ⟨fun bR H'=>∃bY,bY<8-j/\∃(j':Nat)(u:Int),j'<=aF (aF (n+1))-1/\bY=8-j'/\bR=[J (.ref p),J (.int (j':Nat)),av]/\(j'≠0->u=0)/\H'=upd H p (.ins C ai (f3 (aR l) ((i+j':Nat):Int) t b1 u)),fun _ _ h=>h,?_⟩
   exact⟨_,I,.inl ⟨_,_,I,I,8-(j+1),by omega,j+1,0,by omega,rfl,rfl,(fun _=>rfl),by rw[fX];rfl⟩⟩
  ·have g5:j=aF (aF (n+1))-1:=by omega
   have o:=ca.zero (by omega)
   rw[<-g5,fQ]at o
   rw[o]
   refine fv (by intro z;cases z) ?_
   have qf:(fE (aF (aF (n+1)))).length=1:=by unfold fE;rw[if_neg (by omega)];rfl
   have ex:upd (upd H p (.ins C ai (f3 (aR l) ((i+j:Nat):Int) t b1 u))) p (.ins C ai (xY (aR l) ((i+j+1:Nat):Int) t b1))=upd H p (fe C ai l (i+(aF (aF (n+1))-1)+(fE (aF (aF (n+1)))).length) t b1):=by
    rw[fX,qf,<-g5]
   rw[ex,g5]
   refine⟨_,I,_,I,p,ai,l,i+(aF (aF (n+1))-1)+(fE (aF (aF (n+1)))).length,aF (aF (n+1))-1,t,b1,I,aG,aC,(by omega),?_⟩
   rw[v1]
   refine⟨_,I,_,I,_,_,I,I,p,ai,l,_,aF (n+1)-1,t,b1,ad,aG,aC,(by omega),_,_,I,I,?_⟩
   rw[v2,fX,fX,ap]
   refine⟨_,.ins aO (fun b u aj e=>by rw[bt aj];exact e) aG,?_⟩
   dsimp only
   rw[MR]
   exact q
 ·have g5:j=aF (aF (n+1))-1:=by omega
  have qf:(fE (aF (aF (n+1)))).length=0:=by unfold fE;rw[if_pos (by omega)];rfl
  have aca:j≠0:=by omega
  rw[da aca]
  have ex:upd H p (fe C ai l (i+j) t b1)=upd H p (fe C ai l (i+(aF (aF (n+1))-1)+(fE (aF (aF (n+1)))).length) t b1):=by
   rw[qf,<-g5];rfl
  rw[ex,g5]
  refine⟨_,I,_,I,p,ai,l,i+(aF (aF (n+1))-1)+(fE (aF (aF (n+1)))).length,aF (aF (n+1))-1,t,b1,I,aG,aC,(by omega),?_⟩
  rw[v1]
  refine⟨_,I,_,I,_,_,I,I,p,ai,l,_,aF (n+1)-1,t,b1,ad,aG,aC,(by omega),_,_,I,I,?_⟩
  rw[v2,fX,fX,ap]
  refine⟨_,.ins aO (fun b u aj e=>by rw[bt aj];exact e) aG,?_⟩
  dsimp only
  rw[MR]
  exact q
inductive Pu(C:ag)(vs:List V)(H:aq)(Q:bG)(E:bT):Prop where
 |mk (p ai:ag) (l:List Bool) (i:Nat) (n:Int) (t b1:Bool) (bg:vs=[.ref p]) (al:H p=J (fe C ai l i t b1)) (aw:l.length<=16000000) (bq:i<=l.length) (b4:ib n) (eb:ha n <+: (l.map (xor t)).drop i) (ij:Q (.int n) (upd H p (fe C ai l (i+(ha n).length) t b1))):Pu C vs H Q E
def CW(C:ag):b0:=fun vs H Q E=>Pu C vs H Q E
theorem Bj{L:List Bool}{b:Bool}(h:(b::r) <+: L.drop i):i<L.length/\L.getD i aA=b/\r <+: L.drop (i+1):=by
 obtain⟨u,e⟩:=h
 have aC:i<L.length:=by
  rcases hv i L.length with z|z
  .exact z
  .rw[List.drop_eq_nil_of_le z]at e;cases e
 rw[q4 aC]at e
 have aU:b=L[i]:=(List.cons.inj e).1
 refine⟨aC,?_,u,(List.cons.inj e).2⟩
 rw[eL,c4 aC,aU];rfl
theorem V7(eg:ff K C)(F:dS K mg "draw_whole" EM ["source"] f fd)(gN:fZ P w K mg base 1 C "draw" ["self"] (oM C))(lY:fZ P w K mg base 1 C "turn" ["self"] (zg C))(sa:bp P w K mg base 3 "draw_count" ["source"] (II C)):bp P w K mg base 4 "draw_whole" ["source"] (CW C):=by
 refine F.ez Ks (fun bl A _ s H vs Q E az h=>?_)
 obtain⟨p,ai,l,i,n,t,b1,rfl,aO,aC,aJ,aZ,hc,q⟩:=h
 refine⟨_,(aP (cz (b6 dk (ig gN eg az (af 0)) aD) (aQ (bx (bX sa az (ao (af 0) aB)))) cy)
  (aP (ih (ig lY eg az (af 0)))
  (aP (bZ 1 Ks.bB (aS gb (lD ly aD) (bX sa az (ao (af 0) aB))))
  (aP (ih (ig lY eg az (af 0)))
  (aQ (bx (af 1))))))),?_⟩
 try dsimp only[cG,cH,cI,cJ]
 have nm:∀(z:ah)(i:Int)(t e:Bool){u:Int},(f3 z i t e u).lookup ("draw":ah)=av:=fun _ _ _ _=>lA _ _ _ _ (by decide+kernel) (by decide+kernel) (by decide+kernel)
 have tO:∀(z:ah)(i:Int)(t e:Bool){u:Int},(f3 z i t e u).lookup ("turn":ah)=av:=fun _ _ _ _=>lA _ _ _ _ (by decide+kernel) (by decide+kernel) (by decide+kernel)
 by_cases c:n<0
 ·obtain⟨m,e,hm,j5⟩:=Mh c aZ.1
  rw[j5]at hc
  obtain⟨al,aw,bq⟩:=Bj hc
  rw[cq]at al
  obtain⟨b,gn,fQ⟩:=get_map (l:=l) (t:=t) al
  rw[aw]at fQ
  refine⟨_,I,p,ai,_,I,aO,nm ..,p,ai,l,i,t,b1,b,I,⟨_,aO⟩,aC,gn,I,_,I,?_⟩
  rw[<-fQ]
  refine fv (by intro z;cases z) ?_
  refine⟨_,I,p,ai,_,I,aG,tO ..,p,ai,l,_,_,_,_,I,aG,?_⟩
  rw[fX]
  refine⟨_,I,_,I,p,ai,l,i+1,m,(!t),b1,I,⟨_,aG⟩,aC,(by omega),hm,?_,?_⟩
  .rw[<-KG,<-List.map_drop];exact Kp bq
  rw[fX]
  refine⟨_,_,I,I,?_⟩
  refine⟨_,I,p,ai,_,I,aG,tO ..,p,ai,l,_,_,_,_,I,aG,?_⟩
  rw[fX,Bool.not_not]
  refine⟨_,I,_,.ins aO (fun b u aj e=>by rw[bt aj];exact e) aG,?_⟩
  have b1:(-1:Int)-(m:Int)=n:=by omega
  have jc:i+1+(cnt m).length=i+(ha n).length:=by rw[j5,eA,cq];omega
  dsimp only
  rw[b1,jc]
  exact q
 ·obtain⟨m,rfl,hm,j5⟩:=Mc c aZ.2
  rw[j5]at hc
  obtain⟨al,aw,bq⟩:=Bj hc
  rw[cq]at al
  obtain⟨b,gn,fQ⟩:=get_map (l:=l) (t:=t) al
  rw[aw]at fQ
  refine⟨_,I,p,ai,_,I,aO,nm ..,p,ai,l,i,t,b1,b,I,⟨_,aO⟩,aC,gn,I,_,I,?_⟩
  rw[<-fQ]
  refine hC I ?_
  refine⟨_,I,p,ai,l,i+1,m,t,b1,I,⟨_,aG⟩,aC,(by omega),hm,bq,?_⟩
  rw[fX]
  refine⟨_,.ins aO (fun b u aj e=>by rw[bt aj];exact e) aG,?_⟩
  have jc:i+1+(cnt m).length=i+(ha (m:Int)).length:=by rw[j5,eA];omega
  rw[jc]
  exact q
theorem nE(l:List Int):(l.map V.int).length=l.length:=cq ..
theorem wF{n:Nat}(h:n<=100001):n<=bU:=dj h (by decide)
theorem qU{r:ag}(hs:d7 H ax)(az:H r=av):d7 H (upd ax r o):=fun b u e=>by rw[bt (eB e az)];exact hs b u e
inductive QE(vs:List V)(H:aq)(Q:bG)(E:bT):Prop where
 |mk (t:ag) (p q:Int) (bg:vs=[.ref t]) (al:H t=J (.tup [.int p,.int q])) (aw:0<=q) (bq:(e7 p q).length<=100000) (b4:(∀x∈e7 p q,x.natAbs<2^1000)) (eb:∀r,H r=av->Q (.ref r) (upd H r (.lst ((e7 p q).map .int)))):QE  vs H Q E
def C3:b0:=fun vs H Q E=>QE  vs H Q E
theorem W0(F:dS K mg "steps_of" E8 ["fraction"] f fd):bp P w K mg base 1 "steps_of" ["fraction"] C3:=by
 refine F.ez sD (fun bl A _ s H vs Q E az h=>?_)
 obtain⟨t,p,q,rfl,bo,aY,aC,aj,gh⟩:=h
 refine⟨_,(aP (bZ 1 sD.bB (eJ aB))
  (aP (bZ 2 sD.bB (cV cX (af 0) aD))
  (aP (bZ 3 sD.bB (cV cX (af 0) aD))
  (aP (q0 h5.never (b6 tQ (af 3) aD)
   (aP (ih (jW PySem.F.plainAttrs_list PySem.F.slot_list_append PySem.F.type_list_append sq (af 1) (ao (aS vp (af 2) (af 3)) aB)))
   (aP (bZ 4 sD.bB (aS d2 (af 2) (af 3)))
   (aP (bZ 2 sD.bB (af 3))
   (aQ (bZ 3 sD.bB (af 4)))))))
  (aQ (bx (af 1))))))),?_⟩
 try dsimp only[cG,cH,cI,cJ]
 have a0:e5 [V.int p,V.int q] 0=J (.int p):=dz (j:=0) rfl
 have a1:e5 [V.int p,V.int q] 1=J (.int q):=dz (j:=1) rfl
 refine⟨UF _,fun r eT=>?_⟩
 have Og:=dc (o:=cZ.lst []) eT t _ bo
 refine⟨_,I,.inl (.inr ⟨_,_,_,_,I,I,dK Og,a0,_,I,.inl (.inr ⟨_,_,_,_,I,I,dK Og,a1,?_⟩)⟩)⟩
 refine⟨fun m ae ax=>∃(d:List Int)(x y:Int)(z:Option V),d++e7 x y=e7 p q/\0<=y/\m=y.toNat/\ae=[J (.ref t),J (.ref r),J (.int x),J (.int y),z]/\ax=upd H r (.lst (d.map .int)),⟨q.toNat,[],p,q,av,I,aY,I,I,I⟩,?_⟩
 rintro m ae ax ⟨d,x,y,z,hd,bV,rfl,rfl,rfl⟩
 refine⟨_,I,I,_,I,?_⟩
 rw[xD]
 by_cases tB:y=0
 ·subst tB
  rw[q1,List.append_nil]at hd
  subst hd
  refine dx ⟨_,I,_,.new eT (dc eT) aG trivial,gh r eT⟩
 ·have lM:0<y:=by omega
  rw[ng lM]at hd
  have Hm:x/y∈e7 p q:=by rw[<-hd];exact na _ (eI ..)
  have cB:=congrArg List.length hd
  rw[ee,eA]at cB
  have fk:(y == 0)=aA:=by simpa using tB
  rw[fk]
  have cd:=hL x lM
  have k4:=hu x tB
  refine eC ⟨fun bR H'=>∃bY,bY<y.toNat/\∃(d:List Int)(x y:Int)(z:Option V),d++e7 x y=e7 p q/\0<=y/\bY=y.toNat/\bR=[J (.ref t),J (.ref r),J (.int x),J (.int y),z]/\H'=upd H r (.lst (d.map .int)),fun _ _ h=>h,?_⟩
  refine⟨_,I,.inl ⟨I,_,bF aG⟩,_,I,_,I,_,_,I,I,⟨lM,.inr (dj (Zp lM (aj _ Hm)) (Nat.add_le_add_left (by decide) _))⟩,?_⟩
  refine⟨_,_,_,I,I,aG,(by rw[nE];exact e3 (show d.length<100001 by omega) (wF (by decide))),?_⟩
  refine⟨_,I,_,I,_,_,I,I,lM,_,I,_,I,?_⟩
  refine⟨(x%y).toNat,by omega,d++[x/y],y,x%y,_,?_,k4,rfl,rfl,?_⟩
  .rw[h9];exact hd
  .rw[fX,gf];rfl
inductive Pf(vs:List V)(H:aq)(Q:bG)(E:bT):Prop where
 |mk (a:ag) (s:List Int) (bg:vs=[.ref a]) (al:H a=J (.lst (s.map .int))) (aw:s.length<=100000) (bq:Q (.aE (qi s)) H):Pf  vs H Q E
def IG:b0:=fun vs H Q E=>Pf  vs H Q E
theorem Xg(h:s.length<2):qi s=decide (s.length=1):=by unfold qi;rw[if_pos h]
theorem XP(h:¬s.length<2):qi s=(s.tail.all (fun x=>decide (0<x))&&decide (1<s.getLastD 0)):=by unfold qi;rw[if_neg h]
theorem Fz(h:s≠[]):e5 (s.map V.int) (-1)=J (.int (s.getLastD 0)):=by
 rw[List.getLastD_eq_getLast?,List.getLast?_eq_some_getLast h,Option.getD_some]
 conv=>lhs;rw[<-List.dropLast_concat_getLast h,gf]
 exact SI _ _
theorem WE(nb:dD mg)(F:dS K mg "are_steps" E1 ["steps"] f fd):bp P w K mg base 1 "are_steps" ["steps"] IG:=by
 refine F.ez Wl (fun bl A _ s H vs Q E az h=>?_)
 obtain⟨a,s,rfl,bh,aC,q⟩:=h
 refine⟨_,(aP (cz (b6 ke (cx ep I nb.ec ef (ao (af 0) aB)) aD) (aQ (bx (gZ dk (cx ep I nb.ec ef (ao (af 0) aB)) aD))) cy)
  (aQ (bx (i7 (cx (sM rfl) rfl nb.sT sS (ao (hZ ["step"] [] rfl (by decide+kernel) trivial (iT (n6 oJ (af 0) (nf aD) oY)) (fun _ _ _ _ _=>(eo (i:=0) (show(["step"]:List ah).Nodup by decide+kernel))) (fun _ _ _ _ _=>hN) (fun _ _ _ _ _=>(gZ kY (af 0) aD))) aB)) (ky (gZ kY (cV cX (af 0) (lD ly aD)) aD)))))),?_⟩
 try dsimp only[cG,cH,cI,cJ]
 refine⟨_,I,_,_,I,.inl ⟨_,bF bh,I⟩,.inl ⟨_,_,I,I,_,I,?_⟩⟩
 rw[nE]
 refine fm (fun c=>?_) (fun c=>?_)
 ·refine⟨_,I,_,_,I,.inl ⟨_,bF bh,I⟩,I,H,.refl (cF _),?_⟩
  have e:decide (V.int ((s.map V.int).length:Nat)=V.int 1)=qi s:=by
   rw[Xg (by omega),nE,xD]
   apply Bool.eq_iff_iff.mpr;simp;omega
  rw[e];exact q
 ·have hs:s≠[]:=by intro e;subst e;simp at c
  refine .inl ⟨_,I,_,I,.inl ⟨a,_,I,bF bh,fun p aO=>⟨_,I,⟨_,bF aG⟩,fun D c0=>?_⟩⟩⟩
  rw[Fw,<-List.map_drop]at c0 ⊢
  have kh:=dc (o:=cZ.lst ((s.drop 1).map V.int)) aO
  refine Fx (xs:=(s.drop 1).map V.int) (fun x=>match x with|.int i =>.aE (decide (0<i))|_=>x) (fun ae=>ae.length=1) (by rw[nE,kv];exact fC (by omega)) rfl c0 (bF aG) ?_ ?_
  ·rintro x ay bO H1 c9 d3 R b8
   obtain⟨i,_,rfl⟩:=List.mem_map.mp ay
   obtain⟨z,rfl⟩:=FH c9
   exact⟨_,I,_,_,I,I,b8 _ I⟩
  ·rw[fV]
   have mY:=kh.trans (dc (o:=cZ.lst ((s.drop 1).map fun i=>V.aE (decide (0<i)))) c0)
   refine⟨D,(s.drop 1).map fun i=>decide (0<i),I,bF (by rw[aG,fV];rfl),_,I,?_⟩
   have cY:qi s=(((s.drop 1).map fun i=>decide (0<i)).all id&&decide (1<s.getLastD 0)):=by
    rw[XP (by omega),<-List.drop_one,List.all_map];rfl
   cases gQ:((s.drop 1).map fun i=>decide (0<i)).all id with
   |false =>
    rw[gQ,Bool.false_and]at cY
    rw[cY]at q
    exact dx ⟨H,.refl mY,q⟩
   |true =>
    rw[gQ,Bool.true_and]at cY
    rw[cY]at q
    exact eC ⟨_,I,_,I,.inl (.inl ⟨_,_,_,_,I,I,bF (mY _ _ bh),Fz hs,_,_,I,I,H,.refl mY,q⟩)⟩
inductive PD(vs:List V)(H:aq)(Q:bG)(E:bT):Prop where
 |mk (a:ag) (s:List Int) (bg:vs=[.ref a]) (al:H a=J (.lst (s.map .int))) (aw:s.length<=1000) (bq:(∀x∈s,x.natAbs<2^1000)) (b4:Good s) (eb:∀r,H r=av->Q (.ref r) (upd H r (.tup [.int (fL s).1,.int (fL s).2]))):PD  vs H Q E
def PC:b0:=fun vs H Q E=>PD  vs H Q E
theorem Yt(aC:s.length<=1000)(aj:∀x∈s,x.natAbs<2^1000):cO.Int.intBits (fL s).1<=2^20/\cO.Int.intBits (fL s).2<=2^20:=by
 obtain⟨al,aw⟩:=Lr aj
 have k:(1000+1)*s.length+1<=2^20:=by
  have:(1000+1)*s.length<=1001*1000:=Nat.mul_le_mul_left _ aC
  omega
 exact⟨dj (Mp al) k,dj (Mp aw) k⟩
theorem YS{x:V}(h:((s.take (s.length-1)).map V.int)[((s.take (s.length-1)).map V.int).length-1-i]?=J x)(aJ:i<s.length-1):∃y,x=.int y/\s.drop (s.length-1-(i+1))=y::s.drop (s.length-1-i)/\y∈s:=by
 have al:s.length-1-1-i<s.length-1:=Nat.lt_of_le_of_lt (Nat.sub_le ..) (Nat.sub_lt (Nat.lt_of_le_of_lt (UF _) aJ) Nat.one_pos)
 rw[nE,jn,Nat.min_eq_left (Nat.sub_le ..),e4,List.getElem?_take_of_lt al]at h
 have hk:s.length-1-1-i<s.length:=e3 al (Nat.sub_le ..)
 rw[c4 hk]at h
 refine⟨_,(gy h).symm,?_,List.getElem_mem hk⟩
 have aU:s.length-1-(i+1)=s.length-1-1-i:=by rw[Nat.sub_sub (s.length-1) 1 i,Nat.add_comm 1 i]
 have ba:s.length-1-i=s.length-1-1-i+1:=by rw[<-aU];exact(Nat.sub_add_cancel (Nat.sub_pos_of_lt aJ)).symm
 rw[aU,ba]
 exact q4 hk
theorem YA(h:s≠[]):s.drop (s.length-1)=[s.getLastD 0]:=by
 rw[List.getLastD_eq_getLast?,List.getLast?_eq_some_getLast h,Option.getD_some]
 conv=>lhs;rw[<-List.dropLast_concat_getLast h]
 rw[ee,kQ,Nat.add_sub_cancel,List.drop_left]
theorem VJ(nb:dD mg)(F:dS K mg "fraction_of" ED ["steps"] f fd)(uC:bp P w K mg base 1 "are_steps" ["steps"] IG):bp P w K mg base 2 "fraction_of" ["steps"] PC:=by
 refine F.ez sH (fun bl A _ s H vs Q E az h=>?_)
 obtain⟨a,s,rfl,bh,aC,aj,bb,q⟩:=h
 refine⟨_,(aP (cz (i6 (hy (bX uC az (ao (af 0) aB)))) (aQ lB) cy)
  (aP (bZ 1 sH.bB (cV cX (af 0) (lD ly aD)))
  (aP (bZ 2 sH.bB aD)
  (aP (ll h5.never rfl (TV rfl nb.ag9 (n6 oJ (af 0) oY (nf (lD ly aD)))) (eo (i:=3) sH.bB rfl (by exact Or.inl I))
   (aP (bZ 4 sH.bB (af 1))
   (aP (bZ 1 sH.bB (aS ed (aS Tf (af 3) (af 1)) (af 2)))
   (aQ (bZ 2 sH.bB (af 4))))))
  (aQ (bx (js (ao (af 1) (ao (af 2) aB))))))))),?_⟩
 try dsimp only[cG,cH,cI,cJ]
 have hs:=bb.ne
 have aZ:0<s.length:=List.length_pos_iff.mpr hs
 refine⟨_,I,a,s,I,bh,by omega,_,rfl,?_⟩
 rw[(Lq s).mpr bb]
 refine dx ⟨_,I,_,I,.inl (.inl ⟨_,_,_,_,I,I,bF bh,Fz hs,?_⟩)⟩
 refine⟨_,I,_,I,_,I,.inl ⟨a,_,I,bF bh,fun p aO=>?_⟩⟩
 rw[YF,<-List.map_take,nE]
 have kh:=dc (o:=cZ.lst ((s.take (s.length-1)).map V.int)) aO
 refine⟨p,_,I,bF aG,?_⟩
 have cB:((s.take (s.length-1)).map V.int).length=s.length-1:=by rw[nE,jn];omega
 refine Tx (fun i ae ax=>ax=upd H p (.lst ((s.take (s.length-1)).map V.int))/\∃du dy,ae=[J (.ref a),J (.int (fL (s.drop (s.length-1-i))).1),J (.int (fL (s.drop (s.length-1-i))).2),du,dy]) ?_ ?_ ?_ ?_
 ·refine⟨I,av,av,?_⟩
  rw[Nat.sub_zero,YA hs]
  show _=[_,J (V.int (s.getLastD 0*1+0)),J (V.int 1),_,_]
  rw[Int.mul_one,Int.add_zero];rfl
 .rintro i ae ax aJ ⟨rfl,_⟩;exact bF aG
 ·rintro i x ae ax aJ ay ⟨rfl,du,dy,rfl⟩
  rw[cB]at aJ
  obtain⟨y,rfl,j2,bV⟩:=YS ay aJ
  have aaL:=Yt (s:=s.drop (s.length-1-i)) (by rw[kv];omega) fun x ay=>aj x (List.mem_of_mem_drop ay)
  refine⟨_,I,_,I,_,I,_,_,I,I,⟨dj (TI (aj y bV)) (by decide),aaL.1⟩,_,I,.inl ⟨_,_,I,I,_,I,I,J (.int y),J (.int (fL (s.drop (s.length-1-i))).1),?_⟩⟩
  rw[j2];rfl
 ·rintro ae ax ⟨rfl,du,dy,rfl⟩
  rw[cB,Nat.sub_self,List.drop_zero]
  refine⟨_,I,_,I,(by show 2<=bU;decide),fun r eT=>?_⟩
  exact⟨_,.new (kh.free eT) (kh.trans (dc eT)) aG trivial,q r (kh.free eT)⟩
noncomputable instance (n:Int):Decidable (ib n):=inferInstanceAs (Decidable (_/\_))
def m9(s:List Int):Prop:=(∀x∈s.take 1,ib x)/\∀x∈s.drop 1,hU (x-1)
noncomputable instance (s:List Int):Decidable (m9 s):=inferInstanceAs (Decidable (_/\_))
inductive PI(vs:List V)(H:aq)(Q:bG)(E:bT):Prop where
 |mk (n:Int) (bg:vs=[.int n]) (al:Q (.aE (decide (ib n))) H):PI  vs H Q E
def PG:b0:=fun vs H Q E=>PI  vs H Q E
theorem U1(F:dS K mg "has_whole_row" An ["n"] f fd)(m5:bp P w K mg base 1 "is_count" ["n"] za):bp P w K mg base 2 "has_whole_row" ["n"] PG:=by
 refine F.ez Kh (fun bl A _ s H vs Q E az h=>?_)
 obtain⟨n,rfl,q⟩:=h
 refine⟨_,(aQ (bx (bX m5 az (ao (n7 (b6 CJ (af 0) aD) (af 0) (aS gb (lD ly aD) (af 0))) aB)))),?_⟩
 try dsimp only[cG,cH,cI,cJ]
 refine⟨_,I,_,_,I,I,_,I,?_⟩
 refine fm (fun c=>?_) (fun c=>?_)
 ·refine⟨_,I,_,I,H,.refl (cF _),?_⟩
  have e:decide (hU n)=decide (ib n):=decide_eq_decide.mpr (by unfold hU ib;omega)
  rw[e];exact q
 ·refine⟨_,I,_,I,_,_,I,I,_,I,H,.refl (cF _),?_⟩
  have e:decide (hU (-1-n))=decide (ib n):=decide_eq_decide.mpr (by unfold hU ib;omega)
  rw[e];exact q
inductive Pl(vs:List V)(H:aq)(Q:bG)(E:bT):Prop where
 |mk (p q:Int) (bg:vs=[.int p,.int q]) (al:0<=q) (aw:Q (.int (eF p q)) H):Pl  vs H Q E
def Pk:b0:=fun vs H Q E=>Pl  vs H Q E
theorem UN(F:dS K mg "common_divisor" DZ ["one","other"] f fd):bp P w K mg base 1 "common_divisor" ["one","other"] Pk:=by
 refine F.ez Af (fun bl A _ s H vs Q E az h=>?_)
 obtain⟨p,q,rfl,aY,gh⟩:=h
 refine⟨_,(aP (q0 h5.never (b6 tQ (af 1) aD)
   (aP (bZ 2 Af.bB (aS d2 (af 0) (af 1)))
   (aP (bZ 0 Af.bB (af 1))
   (aQ (bZ 1 Af.bB (af 2))))))
  (aQ (bx (af 0)))),?_⟩
 try dsimp only[cG,cH,cI,cJ]
 refine⟨fun m ae ax=>∃(x y:Int)(z:Option V),eF x y=eF p q/\0<=y/\m=y.toNat/\ae=[J (.int x),J (.int y),z]/\ax=H,⟨q.toNat,p,q,av,I,aY,I,I,I⟩,?_⟩
 rintro m ae ax ⟨x,y,z,hd,bV,rfl,rfl,rfl⟩
 refine⟨_,I,I,_,I,?_⟩
 rw[xD]
 by_cases tB:y=0
 ·subst tB
  rw[xE]at hd
  subst hd
  exact dx ⟨_,I,ax,.refl (cF _),gh⟩
 ·have lM:0<y:=by omega
  rw[BC lM]at hd
  have fk:(y == 0)=aA:=by simpa using tB
  rw[fk]
  have cd:=hL x lM
  have k4:=hu x tB
  refine eC ⟨fun bR H'=>∃bY,bY<y.toNat/\∃(x y:Int)(z:Option V),eF x y=eF p q/\0<=y/\bY=y.toNat/\bR=[J (.int x),J (.int y),z]/\H'=ax,fun _ _ h=>h,?_⟩
  refine⟨_,I,_,I,_,_,I,I,lM,_,I,_,I,?_⟩
  exact⟨(x%y).toNat,by omega,y,x%y,_,hd,k4,rfl,rfl,rfl⟩
inductive PN(vs:List V)(H:aq)(Q:bG)(E:bT):Prop where
 |mk (t:ag) (p q:Int) (bg:vs=[.ref t]) (al:H t=J (.tup [.int p,.int q])) (aw:Q (.aE (decide (0<q/\eF p q=1))) H):PN  vs H Q E
def PM:b0:=fun vs H Q E=>PN  vs H Q E
theorem VI(F:dS K mg "is_fraction" EC ["fraction"] f fd)(DB:bp P w K mg base 1 "common_divisor" ["one","other"] Pk):bp P w K mg base 2 "is_fraction" ["fraction"] PM:=by
 refine F.ez Vs (fun bl A _ s H vs Q E az h=>?_)
 obtain⟨t,p,q,rfl,bo,gh⟩:=h
 refine⟨_,(aQ (bx (i7 (gZ kY (cV cX (af 0) aD) aD) (ky (gZ dk (bX DB az (ao (cV cX (af 0) aD) (ao (cV cX (af 0) aD) aB))) aD))))),?_⟩
 try dsimp only[cG,cH,cI,cJ]
 have a0:e5 [V.int p,V.int q] 0=J (.int p):=dz (j:=0) rfl
 have a1:e5 [V.int p,V.int q] 1=J (.int q):=dz (j:=1) rfl
 refine⟨_,I,.inl (.inr ⟨_,_,_,_,I,I,dK bo,a1,_,_,I,I,_,I,?_⟩)⟩
 refine fm (fun c=>?_) (fun c=>?_)
 ·refine⟨_,I,.inl (.inr ⟨_,_,_,_,I,I,dK bo,a0,_,I,.inl (.inr ⟨_,_,_,_,I,I,dK bo,a1,p,q,I,Int.le_of_lt c,I,H,.refl (cF _),?_⟩)⟩)⟩
  have e:decide (V.int (eF p q)=V.int 1)=decide (0<q/\eF p q=1):=decide_eq_decide.mpr ⟨fun z=>⟨c,V.int.inj z⟩,fun z=>congrArg V.int z.2⟩
  rw[e];exact gh
 ·refine⟨H,.refl (cF _),?_⟩
  rw[gd (fun z=>c z.1)]at gh
  exact gh
inductive PF(vs:List V)(H:aq)(Q:bG)(E:bT):Prop where
 |mk (t:ag) (p q:Int) (bg:vs=[.ref t]) (al:H t=J (.tup [.int p,.int q])) (aw:(0<q->(e7 p q).length<=100000/\∀x∈e7 p q,x.natAbs<2^1000)) (bq:Q (.aE (decide (0<q/\eF p q=1/\m9 (e7 p q)))) H):PF  vs H Q E
def IL:b0:=fun vs H Q E=>PF  vs H Q E
theorem UC(nb:dD mg)(F:dS K mg "has_fraction_row" DY ["fraction"] f fd)(DF:bp P w K mg base 2 "is_fraction" ["fraction"] PM)(qN:bp P w K mg base 1 "steps_of" ["fraction"] C3)(sb:bp P w K mg base 2 "has_whole_row" ["n"] PG)(m5:bp P w K mg base 1 "is_count" ["n"] za):bp P w K mg base 3 "has_fraction_row" ["fraction"] IL:=by
 refine F.ez Ke (fun bl A _ s H vs Q E az h=>?_)
 obtain⟨t,p,q,rfl,bo,aj,gh⟩:=h
 refine⟨_,(aP (cz (i6 (hy (bX DF az (ao (af 0) aB)))) (aQ (bx gg)) cy)
  (aP (bZ 1 Ke.bB (bX qN az (ao (af 0) aB)))
  (aQ (bx (i7 (bX sb az (ao (cV cX (af 1) aD) aB)) (ky (cx (sM rfl) rfl nb.sT sS (ao (hZ ["step"] [] rfl (by decide+kernel) trivial (iT (n6 oJ (af 1) (nf aD) oY)) (fun _ _ _ _ _=>(eo (i:=0) (show(["step"]:List ah).Nodup by decide+kernel))) (fun _ _ _ _ _=>hN) (fun _ _ _ _ _=>(bX m5 az (ao (aS gb (af 0) aD) aB)))) aB)))))))),?_⟩
 try dsimp only[cG,cH,cI,cJ]
 refine⟨_,I,t,p,q,I,bo,_,I,?_⟩
 by_cases aH:0<q/\eF p q=1
 ·rw[fu aH]
  obtain⟨aC,bL⟩:=aj aH.1
  refine dx ⟨_,I,t,p,q,I,bo,Int.le_of_lt aH.1,aC,bL,fun r eT=>?_⟩
  have kh:=dc (o:=cZ.lst ((e7 p q).map V.int)) eT
  obtain⟨a,aK,he⟩:∃a aK,e7 p q=a::aK:=⟨_,_,ng aH.1⟩
  rw[he]at gh kh aC ⊢
  have a0:e5 ((a::aK).map V.int) 0=J (.int a):=dz (j:=0) rfl
  refine⟨_,I,.inl (.inl ⟨_,_,_,_,I,I,bF aG,a0,a,I,_,I,?_⟩)⟩
  refine fm (fun c=>?_) (fun c=>?_)
  ·refine .inl ⟨_,I,_,I,.inl ⟨r,_,I,bF aG,fun g bb=>⟨_,I,⟨_,bF aG⟩,fun D c0=>?_⟩⟩⟩
   rw[Fw,<-List.map_drop]at c0 ⊢
   have mY:=kh.trans (dc (o:=cZ.lst (((a::aK).drop 1).map V.int)) bb)
   refine Fx (xs:=((a::aK).drop 1).map V.int) (fun x=>match x with|.int i =>.aE (decide (hU (i-1)))|_=>x) (fun ae=>ae.length=1) (by rw[nE,kv];exact fC (by omega)) rfl c0 (bF aG) ?_ ?_
   ·rintro x ay bO H1 c9 d3 R b8
    obtain⟨i,_,rfl⟩:=List.mem_map.mp ay
    obtain⟨z,rfl⟩:=FH c9
    exact⟨_,I,_,_,I,I,_,I,b8 _ I⟩
   ·rw[fV]
    have wB:=mY.trans (dc (o:=cZ.lst (((a::aK).drop 1).map fun i=>V.aE (decide (hU (i-1))))) c0)
    refine⟨D,((a::aK).drop 1).map fun i=>decide (hU (i-1)),I,bF (by rw[aG,fV];rfl),H,.refl wB,?_⟩
    have e:(((a::aK).drop 1).map fun i=>decide (hU (i-1))).all id=decide (0<q/\eF p q=1/\m9 (a::aK)):=by
     rw[List.all_map]
     apply Bool.eq_iff_iff.mpr
     rw[i5,n5]
     constructor
     ·intro h
      refine⟨aH.1,aH.2,fun x ay=>?_,fun x ay=>lr (h x ay)⟩
      rw[ft.mp ay];exact c
     ·intro h x ay
      exact fu (h.2.2.2 x ay)
    rw[e];exact gh
  ·refine⟨H,.refl kh,?_⟩
   rw[gd (fun z=>c (z.2.2.1 a (ft.mpr rfl)))]at gh
   exact gh
 ·rw[gd aH]
  refine eC ⟨H,.refl (cF _),?_⟩
  rw[gd (fun z=>aH ⟨z.1,z.2.1⟩)]at gh
  exact gh
inductive Qr(vs:List V)(H:aq)(Q:bG)(E:bT):Prop where
 |mk (a:ag) (s:List Int) (bg:vs=[.ref a]) (al:H a=J (.lst (s.map .int))) (aw:s≠[]) (bq:s.length<=10000) (b4:m9 s) (eb:Q (.str (aR (j8 s))) H):Qr  vs H Q E
def IX:b0:=fun vs H Q E=>Qr  vs H Q E
theorem X7{x:Int}{b:Bool}(h:if k=0 then ib x else hU (x-1)):(h4 k x b).length<=271:=by
 unfold h4
 rw[cq,ee,kQ]
 by_cases hk:k=0
 ·rw[if_pos hk]at h ⊢
  have:=KY h.1 h.2
  omega
 ·rw[if_neg hk]at h ⊢
  have:=Bq (n:=(x-1).toNat) (by unfold hU at h;omega)
  omega
theorem m9.at{x:Int}(h:m9 s)(ay:s[i]?=J x):if i=0 then ib x else hU (x-1):=by
 match s,i,ay with
 |a::r,0,ay=>cases ay;exact h.1 x (ft.mpr I)
 |a::r,i+1,ay=>exact h.2 x (hY ay)
theorem SX{l:List (List Bool)}(h:∀p∈l,p.length<=271):((l.map aR).map (·.length)).sum<=271*l.length:=by
 induction l with
 |nil=>exact UF _
 |cons p r bQ =>
  rw[gF,gF,List.sum_cons,eA,d8]
  have:=h p (eI ..)
  have:=bQ fun q aY=>h q (dP _ aY)
  omega
theorem A6(x:List Bool)(b:Bool):aR x++aR [b]=aR (x++[b]):=by rw[kz]
theorem Vh(nb:dD mg)(F:dS K mg "row_of_steps" Eu ["steps"] f fd)(qO:bp P w K mg base 3 "whole_row" ["n"] AV)(lW:bp P w K mg base 2 "count_row" ["n"] y7)(n0:bp P w K mg base 1 "turned_row" ["row"] xi):bp P w K mg base 4 "row_of_steps" ["steps"] IX:=by
 refine F.ez sG (fun bl A _ s H vs Q E az h=>?_)
 obtain⟨a,s,rfl,bh,kc,aC,b8,q⟩:=h
 refine⟨_,(aP (bZ 1 sG.bB (aS gb (cx ep I nb.ec ef (ao (af 0) aB)) aD))
  (aP (bZ 2 sG.bB (eJ aB))
  (aP (ll h5.never rfl (S7 rfl nb.aap (af 0)) (qb rfl (j0 (eo (i:=3) sG.bB rfl (by exact Or.inl I)) (j0 (eo (i:=4) sG.bB rfl (by exact Or.inl I)) p9)))
   (aP (bZ 5 sG.bB (n7 (b6 dk (af 3) aD) (bX qO az (ao (af 4) aB)) (bX lW az (ao (aS gb (af 4) aD) aB))))
   (aP (bZ 5 sG.bB (aS ed (af 5) (n7 (b6 dk (af 3) (af 1)) cT cT)))
   (aQ (ih (jW PySem.F.plainAttrs_list PySem.F.slot_list_append PySem.F.type_list_append sq (af 2) (ao (n7 (b6 dk (aS d2 (af 3) aD) aD) (bX n0 az (ao (af 5) aB)) (af 5)) aB)))))))
  (aQ (bx (jW PySem.F.plainAttrs_str PySem.F.slot_str_join PySem.F.type_str_join sO cT (ao (af 2) aB))))))),?_⟩
 try dsimp only[cG,cH,cI,cJ]
 refine⟨_,I,_,_,I,.inl ⟨_,bF bh,I⟩,_,_,I,I,UF _,fun r eT=>?_⟩
 have sB:=dc (o:=cZ.lst []) eT
 refine⟨_,I,a,_,I,bF (sB _ _ bh),?_⟩
 refine Zg (xs:=s.map V.int) (fun i ae ax=>d7 H ax/\ax r=J (.lst (((gT 0 s).take i).map (fun p=>V.str (aR p))))/\∃du dy hI,ae=[J (.ref a),J (.int ((s.length:Nat)-1:Int)),J (.ref r),du,dy,hI]) ?_ ?_ ?_ ?_
 .exact⟨sB,aG,av,av,av,by dsimp only;rw[nE];rfl⟩
 .rintro i ae ax aJ ⟨hs,_⟩;exact bF (hs _ _ bh)
 ·rintro i aiT ae ax T ay cc ⟨hs,l5,du,dy,hI,rfl⟩
  obtain⟨x,HQ,rfl⟩:∃x,s[i]?=J x/\aiT=.int x:=by
   rw[e4]at ay
   cases h:s[i]? with
   |none=>rw[h]at ay;cases ay
   |some y=>rw[h]at ay;exact⟨y,I,(gy ay).symm⟩
  have aJ:i<s.length:=(i4.mp HQ).1
  have gp:=b8.at HQ
  have yw:=Me (k:=0) HQ
  rw[Nat.zero_add]at yw
  have fl:=hs.trans (dc (o:=cZ.tup [V.int ((i:Nat):Int),V.int x]) cc)
  have nq:=dc (o:=cZ.tup [V.int ((i:Nat):Int),V.int x]) cc _ _ l5
  refine⟨T,_,I,dK aG,I,_,_,I,_,_,I,I,?_⟩
  refine⟨_,I,I,_,I,?_⟩
  by_cases ym:i=0
  ·rw[if_pos ym]at gp
   have eY:decide (V.int ((i:Nat):Int)=V.int 0)=au:=fu (congrArg V.int (by omega))
   rw[eY]
   refine eC ⟨_,I,x,I,gp,_,I,_,I,_,I,I,_,I,?_⟩
   obtain⟨jR,rd⟩:∃jR,jR=ha x:=⟨_,rfl⟩
   have ex:(if i=0 then ha x else cnt (x-1).toNat)=jR:=by rw[if_pos ym,rd]
   have ad4:jR.length<=270:=by rw[rd];exact KY gp.1 gp.2
   rw[<-rd]
   have wh:(jR++[!decide (i+1=s.length)]).length<=271:=by rw[ee,kQ];omega
   refine fm (fun g0=>?_) (fun g0=>?_)
   ·
    have jc:i+1=s.length:=by have:=V.int.inj g0;omega
    have fk:[!decide (i+1=s.length)]=[aA]:=by rw[fu jc];rfl
    refine .inr ⟨_,_,I,I,(by rw[s0,d8,d8];exact fC (by rw[kQ];omega)),?_⟩
    rw[s0,A6,<-fk]
    refine⟨_,I,.inl ⟨I,_,bF nq⟩,_,I,_,_,I,I,(by show(0:Int)<2;decide),I,_,I,?_⟩
    have oq:∀z:List V,z=((gT 0 s).take i).map (fun p=>V.str (aR p))->z.length<bU:=fun z bL=>by rw[bL,cq,jn];exact e3 (show min i (gT 0 s).length<100001 by omega) (wF (by decide))
    have cY:∀p:List Bool,p=h4 i x (decide (i+1=s.length))->((gT 0 s).take i).map (fun p=>V.str (aR p))++[V.str (aR p)]=((gT 0 s).take (i+1)).map (fun p=>V.str (aR p)):=fun p aO=>by rw[lu,yw,gf,aO];rfl
    refine fm (fun hj=>?_) (fun hj=>?_)
    ·have aL:odd i=au:=fu (by have:=V.int.inj hj;omega)
     refine⟨_,I,_,I,by omega,?_⟩
     refine⟨_,_,_,I,I,nq,oq _ I,?_⟩
     rw[cY _ (by unfold h4;rw[aL,ex];exact nd fun b _=>by cases b<;>rfl)]
     exact⟨qU fl eT,aG,_,_,_,I⟩
    ·have aL:odd i=aA:=gd (fun z=>hj (congrArg V.int (by omega)))
     refine⟨_,I,?_⟩
     refine⟨_,_,_,I,I,nq,oq _ I,?_⟩
     rw[cY _ (by unfold h4;rw[aL,ex,xv])]
     exact⟨qU fl eT,aG,_,_,_,I⟩
   ·have jc:¬i+1=s.length:=fun z=>g0 (congrArg V.int (by omega))
    have fk:[!decide (i+1=s.length)]=[au]:=by rw[gd jc];rfl
    refine .inr ⟨_,_,I,I,(by rw[s1,d8,d8];exact fC (by rw[kQ];omega)),?_⟩
    rw[s1,A6,<-fk]
    refine⟨_,I,.inl ⟨I,_,bF nq⟩,_,I,_,_,I,I,(by show(0:Int)<2;decide),I,_,I,?_⟩
    have oq:∀z:List V,z=((gT 0 s).take i).map (fun p=>V.str (aR p))->z.length<bU:=fun z bL=>by rw[bL,cq,jn];exact e3 (show min i (gT 0 s).length<100001 by omega) (wF (by decide))
    have cY:∀p:List Bool,p=h4 i x (decide (i+1=s.length))->((gT 0 s).take i).map (fun p=>V.str (aR p))++[V.str (aR p)]=((gT 0 s).take (i+1)).map (fun p=>V.str (aR p)):=fun p aO=>by rw[lu,yw,gf,aO];rfl
    refine fm (fun hj=>?_) (fun hj=>?_)
    ·have aL:odd i=au:=fu (by have:=V.int.inj hj;omega)
     refine⟨_,I,_,I,by omega,?_⟩
     refine⟨_,_,_,I,I,nq,oq _ I,?_⟩
     rw[cY _ (by unfold h4;rw[aL,ex];exact nd fun b _=>by cases b<;>rfl)]
     exact⟨qU fl eT,aG,_,_,_,I⟩
    ·have aL:odd i=aA:=gd (fun z=>hj (congrArg V.int (by omega)))
     refine⟨_,I,?_⟩
     refine⟨_,_,_,I,I,nq,oq _ I,?_⟩
     rw[cY _ (by unfold h4;rw[aL,ex,xv])]
     exact⟨qU fl eT,aG,_,_,_,I⟩
  ·rw[if_neg ym]at gp
   have eY:decide (V.int ((i:Nat):Int)=V.int 0)=aA:=gd (fun z=>ym (by have:=V.int.inj z;omega))
   rw[eY]
   have ajO:=gp.1
   have Ce:=gp.2
   refine dx ⟨_,I,_,_,I,I,(x-1).toNat,(congrArg (fun y=>[V.int y]) (by omega)),(by omega),_,I,_,I,_,I,I,_,I,?_⟩
   obtain⟨jR,rd⟩:∃jR,jR=cnt (x-1).toNat:=⟨_,rfl⟩
   have ex:(if i=0 then ha x else cnt (x-1).toNat)=jR:=by rw[if_neg ym,rd]
   have ad4:jR.length<=270:=by rw[rd];have:=Bq (n:=(x-1).toNat) (by omega);omega
   rw[<-rd]
   have wh:(jR++[!decide (i+1=s.length)]).length<=271:=by rw[ee,kQ];omega
   refine fm (fun g0=>?_) (fun g0=>?_)
   ·
    have jc:i+1=s.length:=by have:=V.int.inj g0;omega
    have fk:[!decide (i+1=s.length)]=[aA]:=by rw[fu jc];rfl
    refine .inr ⟨_,_,I,I,(by rw[s0,d8,d8];exact fC (by rw[kQ];omega)),?_⟩
    rw[s0,A6,<-fk]
    refine⟨_,I,.inl ⟨I,_,bF nq⟩,_,I,_,_,I,I,(by show(0:Int)<2;decide),I,_,I,?_⟩
    have oq:∀z:List V,z=((gT 0 s).take i).map (fun p=>V.str (aR p))->z.length<bU:=fun z bL=>by rw[bL,cq,jn];exact e3 (show min i (gT 0 s).length<100001 by omega) (wF (by decide))
    have cY:∀p:List Bool,p=h4 i x (decide (i+1=s.length))->((gT 0 s).take i).map (fun p=>V.str (aR p))++[V.str (aR p)]=((gT 0 s).take (i+1)).map (fun p=>V.str (aR p)):=fun p aO=>by rw[lu,yw,gf,aO];rfl
    refine fm (fun hj=>?_) (fun hj=>?_)
    ·have aL:odd i=au:=fu (by have:=V.int.inj hj;omega)
     refine⟨_,I,_,I,by omega,?_⟩
     refine⟨_,_,_,I,I,nq,oq _ I,?_⟩
     rw[cY _ (by unfold h4;rw[aL,ex];exact nd fun b _=>by cases b<;>rfl)]
     exact⟨qU fl eT,aG,_,_,_,I⟩
    ·have aL:odd i=aA:=gd (fun z=>hj (congrArg V.int (by omega)))
     refine⟨_,I,?_⟩
     refine⟨_,_,_,I,I,nq,oq _ I,?_⟩
     rw[cY _ (by unfold h4;rw[aL,ex,xv])]
     exact⟨qU fl eT,aG,_,_,_,I⟩
   ·have jc:¬i+1=s.length:=fun z=>g0 (congrArg V.int (by omega))
    have fk:[!decide (i+1=s.length)]=[au]:=by rw[gd jc];rfl
    refine .inr ⟨_,_,I,I,(by rw[s1,d8,d8];exact fC (by rw[kQ];omega)),?_⟩
    rw[s1,A6,<-fk]
    refine⟨_,I,.inl ⟨I,_,bF nq⟩,_,I,_,_,I,I,(by show(0:Int)<2;decide),I,_,I,?_⟩
    have oq:∀z:List V,z=((gT 0 s).take i).map (fun p=>V.str (aR p))->z.length<bU:=fun z bL=>by rw[bL,cq,jn];exact e3 (show min i (gT 0 s).length<100001 by omega) (wF (by decide))
    have cY:∀p:List Bool,p=h4 i x (decide (i+1=s.length))->((gT 0 s).take i).map (fun p=>V.str (aR p))++[V.str (aR p)]=((gT 0 s).take (i+1)).map (fun p=>V.str (aR p)):=fun p aO=>by rw[lu,yw,gf,aO];rfl
    refine fm (fun hj=>?_) (fun hj=>?_)
    ·have aL:odd i=au:=fu (by have:=V.int.inj hj;omega)
     refine⟨_,I,_,I,by omega,?_⟩
     refine⟨_,_,_,I,I,nq,oq _ I,?_⟩
     rw[cY _ (by unfold h4;rw[aL,ex];exact nd fun b _=>by cases b<;>rfl)]
     exact⟨qU fl eT,aG,_,_,_,I⟩
    ·have aL:odd i=aA:=gd (fun z=>hj (congrArg V.int (by omega)))
     refine⟨_,I,?_⟩
     refine⟨_,_,_,I,I,nq,oq _ I,?_⟩
     rw[cY _ (by unfold h4;rw[aL,ex,xv])]
     exact⟨qU fl eT,aG,_,_,_,I⟩
 ·rintro ae ax ⟨hs,l5,du,dy,hI,rfl⟩
  have kB:(gT 0 s).take (s.map V.int).length=gT 0 s:=by rw[nE,<-Fh 0 s,List.take_length]
  rw[kB]at l5
  obtain⟨a0,CS,rfl⟩:=List.exists_cons_of_ne_nil kc
  have cB:∀p∈gT 0 (a0::CS),p.length<=271:=fun p aO=>by
   obtain⟨i,aJ,rfl⟩:=List.mem_iff_getElem.mp aO
   have tr:i<(a0::CS).length:=by rw[<-Fh 0 (a0::CS)];exact aJ
   have bb:=Me (k:=0) (c4 tr)
   rw[c4 aJ,Nat.zero_add]at bb
   rw[gy bb]
   exact X7 (b8.at (c4 tr))
  refine⟨I,_,I,_,r,(gT 0 (a0::CS)).map aR,I,I,bF (by rw[l5,fV];rfl),?_,H,.refl hs,?_⟩
  ·have:=SX cB
   have eY:(ah.ofString "").length=0:=by decide+kernel
   rw[eY,Nat.mul_zero,Nat.add_zero]
   rw[Fh]at this
   omega
  .rw[qV,Td];exact q
structure r9 where
 (n s w l f t a b De k:ag)
structure JQ(mg:ah->Option ar)(c:r9):Prop where
 ajD:ek mg "NoFit" (.ref c.n)
 ajE:ek mg "Short" (.ref c.s)
 ajF:ek mg "Wrong" (.ref c.w)
 gl:ek mg "Left" (.ref c.l)
 abc:ek mg "NoForm" (.ref c.f)
 gt:ek mg "NoText" (.ref c.t)
 ga:ek mg "NotAhead" (.ref c.a)
 ajA:ek mg "BadPage" (.ref c.b)
 g2:ek mg "Twice" (.ref c.De)
 ajC:ek mg "Lacking" (.ref c.k)
structure w8(K:bK)(c:r9)(C:ag)(bs:List Bool):Prop where
 hb:ExcC K C
 yG:∃hz e6 q8 sU sV sW sX vD vE vC:Bool,bs=[hz,e6,q8,sU,sV,sW,sX,vD,vE,vC,au]/\fp K (.ref C) (.ref c.n)=J hz/\fp K (.ref C) (.ref c.s)=J e6/\fp K (.ref C) (.ref c.w)=J q8/\fp K (.ref C) (.ref c.l)=J sU/\
  fp K (.ref C) (.ref c.f)=J sV/\fp K (.ref C) (.ref c.t)=J sW/\fp K (.ref C) (.ref c.a)=J sX/\fp K (.ref C) (.ref c.b)=J vD/\fp K (.ref C) (.ref c.De)=J vE/\fp K (.ref C) (.ref c.k)=J vC/\fp K (.ref C) (.type "ValueError")=J au
inductive PS(K:bK)(c:r9)(vs:List V)(H:aq)(Q:bG)(E:bT):Prop where
 |mk (v:V) (bg:vs=[v]) (al:((v=.bc/\∀p,H p=av->Q (.ref p) (upd H p (.lst ([]:List V))))\/ (∃a C d bs,v=.ref a/\H a=J (si a C d)/\(d=av\/∃ai fs,d=J ai/\H ai=J (.kG fs))/\w8 K c C bs/\∀p,H p=av->Q (.ref p) (upd H p (.lst (bs.map .aE)))))):PS K c vs H Q E
def IP(K:bK)(c:r9):b0:=fun vs H Q E=>PS K c vs H Q E
theorem V5{c:r9}(nb:dD mg)(Ie:mg "ValueError"=av)(X:JQ mg c)(F:dS K mg "_law_kinds" EW ["_law_kept"] f fd):bp P w K mg base 1 "_law_kinds" ["_law_kept"] (IP K c):=by
 obtain⟨GI,GN,GP,GH,GJ,GK,GL,GD,GO,GF⟩:=X
 refine F.ez Az (fun bl A _ s H vs Q E az h=>?_)
 obtain⟨v,rfl,b5⟩:=h
 refine⟨_,(aP (cz (b6 xH (af 0) mv) (aQ (bx (eJ aB))) cy)
  (aP (bZ 1 Az.bB (eJ (ao (cx oa rfl nb.gS gP (ao (af 0) (ao (hM GI) aB))) (ao (cx oa rfl nb.gS gP (ao (af 0) (ao (hM GN) aB))) (ao (cx oa rfl nb.gS gP (ao (af 0) (ao (hM GP) aB))) (ao (cx oa rfl nb.gS gP (ao (af 0) (ao (hM GH) aB))) aB))))))
  (aP (bZ 1 Az.bB (aS xI (af 1) (eJ (ao (cx oa rfl nb.gS gP (ao (af 0) (ao (hM GJ) aB))) (ao (cx oa rfl nb.gS gP (ao (af 0) (ao (hM GK) aB))) (ao (cx oa rfl nb.gS gP (ao (af 0) (ao (hM GL) aB))) aB))))))
  (aP (bZ 1 Az.bB (aS xI (af 1) (eJ (ao (cx oa rfl nb.gS gP (ao (af 0) (ao (hM GD) aB))) (ao (cx oa rfl nb.gS gP (ao (af 0) (ao (hM GO) aB))) (ao (cx oa rfl nb.gS gP (ao (af 0) (ao (hM GF) aB))) aB))))))
  (aQ (bx (aS xI (af 1) (eJ (ao (cx oa rfl nb.gS gP (ao (af 0) (ao (jr (v :=.ty "ValueError") rfl Ie Wd rfl) aB))) aB))))))))),?_⟩
 try dsimp only[cG,cH,cI,cJ]
 rcases b5 with⟨rfl,q⟩|⟨a,C,d,bs,rfl,bh,hd,⟨hb,hz,e6,q8,sU,sV,sW,sX,vD,vE,vC,rfl,k1,k2,k3,tD,k5,ry,HU,HV,HW,adu,gK⟩,q⟩
 .exact⟨_,I,I,_,I,hC I ⟨UF _,fun r eT=>⟨_,.new eT (dc eT) aG trivial,q r eT⟩⟩⟩
 ·have pq:∀{D:ag}{b:Bool},fp K (.ref C) (.ref D)=J b->∀nk,RelV (.ref D) nk->fp K (.ref C) nk=J b:=fun{D b}h nk r=>by
   obtain rfl:nk=.ref D:=r
   exact h
  have adU:∀nk,RelV (.ty "ValueError") nk->fp K (.ref C) nk=J au:=fun nk r=>by
   obtain rfl:nk=.type "ValueError":=r
   exact gK
  have s3:∀{H':aq},d7 H H'->(d=av\/∃ai fs,d=J ai/\H' ai=J (.kG fs)):=fun{H'}hs=>by
   rcases hd with z|⟨ai,fs,z,e⟩
   .exact .inl z
   .exact .inr ⟨ai,fs,z,hs _ _ e⟩
  refine⟨_,I,I,_,I,fv (fun z=>nomatch z) ?_⟩
  refine⟨_,I,a,C,d,_,hz,I,bh,hb,hd,pq k1,?_⟩
  refine⟨_,I,a,C,d,_,e6,I,bh,hb,hd,pq k2,?_⟩
  refine⟨_,I,a,C,d,_,q8,I,bh,hb,hd,pq k3,?_⟩
  refine⟨_,I,a,C,d,_,sU,I,bh,hb,hd,pq tD,?_⟩
  refine⟨(by show 4<=bU;decide),fun cd al=>?_⟩
  have kh:=dc (o:=cZ.lst [V.aE hz,.aE e6,.aE q8,.aE sU]) al
  have G1:=kh _ _ bh
  refine⟨_,I,_,I,a,C,d,_,sV,I,G1,hb,s3 kh,pq k5,?_⟩
  refine⟨_,I,a,C,d,_,sW,I,G1,hb,s3 kh,pq ry,?_⟩
  refine⟨_,I,a,C,d,_,sX,I,G1,hb,s3 kh,pq HU,?_⟩
  refine⟨(by show 3<=bU;decide),fun dB aw=>?_⟩
  have mY:=dc (o:=cZ.lst [V.aE sV,.aE sW,.aE sX]) aw
  refine⟨cd,dB,_,_,I,I,mY _ _ aG,aG,(by show 4+3<=bU;decide),fun yZ bq=>?_⟩
  have wB:=dc (o:=cZ.lst ([V.aE hz,.aE e6,.aE q8,.aE sU]++[V.aE sV,.aE sW,.aE sX])) bq
  have t3:=(kh.trans mY).trans wB
  have G2:=t3 _ _ bh
  refine⟨_,I,_,I,a,C,d,_,vD,I,G2,hb,s3 t3,pq HV,?_⟩
  refine⟨_,I,a,C,d,_,vE,I,G2,hb,s3 t3,pq HW,?_⟩
  refine⟨_,I,a,C,d,_,vC,I,G2,hb,s3 t3,pq adu,?_⟩
  refine⟨(by show 3<=bU;decide),fun t8 b4=>?_⟩
  have O1:=dc (o:=cZ.lst [V.aE vD,.aE vE,.aE vC]) b4
  refine⟨yZ,t8,_,_,I,I,O1 _ _ aG,aG,(by show 7+3<=bU;decide),fun qA eb=>?_⟩
  have ahb:=dc (o:=cZ.lst (([V.aE hz,.aE e6,.aE q8,.aE sU]++[V.aE sV,.aE sW,.aE sX])++[V.aE vD,.aE vE,.aE vC])) eb
  have I7:=(t3.trans O1).trans ahb
  have abC:=I7 _ _ bh
  refine⟨_,I,_,I,a,C,d,_,au,I,abC,hb,s3 I7,adU,?_⟩
  refine⟨(by show 1<=bU;decide),fun IB ij=>?_⟩
  have O2:=dc (o:=cZ.lst [V.aE au]) ij
  refine⟨qA,IB,_,_,I,I,O2 _ _ aG,aG,(by show 10+1<=bU;decide),fun p aO=>?_⟩
  have y5:=I7.trans O2
  exact⟨_,.new (y5.free aO) (y5.trans (dc aO)) aG trivial,q p (y5.free aO)⟩
theorem mw:1<=bU:=by decide
inductive PW(vs:List V)(H:aq)(Q:bG)(E:bT):Prop where
 |mk (t s:ah) (bg:vs=[.str t,.str s]) (al:t.length<=1000) (aw:Q (.aE (mR t s)) H):PW  vs H Q E
def zc:b0:=fun vs H Q E=>PW  vs H Q E
theorem XE(nb:dD mg)(F:dS K mg "made_of" Fn ["text","signs"] f fd):bp P w K mg base 1 "made_of" ["text","signs"] zc:=by
 refine F.ez Xw (fun bl A _ s H vs Q E az h=>?_)
 obtain⟨t,cA,rfl,bo,q⟩:=h
 refine⟨_,(aQ (bx (cx (sM I) I nb.sT sS (ao (hZ ["sign"] [(1,"signs")] I (by decide+kernel) ⟨I,.inl I,trivial⟩ (iT (af 0)) (fun _ _ _ _ _=>(eo (i:=0) (show(["sign","signs"]:List ah).Nodup by decide+kernel))) (fun _ _ _ _ _=>hN) (fun _ _ _ _ _=>(FW Yf (af 0) (af 1) (by with_unfolding_all rfl)))) aB)))),?_⟩
 try dsimp only[cG,cH,cI,cJ]
 refine .inr ⟨_,I,t,I,fun D c0=>?_⟩
 refine L5 (fun c =>.aE (decide (c∈cA.cps.toList))) (fun ae=>∃z,ae=[z,J (.str cA)]) (fC (by show t.length<=_;omega)) ⟨_,I⟩ c0 ?_ ?_
 ·rintro c hc bO H1 ⟨z,rfl⟩ hs R b8
  refine⟨_,I,_,I,_,_,I,I,?_⟩
  rw[StrLaws.found_one]
  exact b8 _ ⟨_,I⟩
 ·refine⟨D,t.cps.toList.map fun c=>decide (c∈cA.cps.toList),I,?_,H,.refl (dc c0),?_⟩
  .rw[fV];exact bF aG
  .rw[List.all_map];exact q
inductive PQ(vs:List V)(H:aq)(Q:bG)(E:bT):Prop where
 |mk (n:ah) (bg:vs=[.str n]) (al:n.length<=1000) (aw:Q (.aE (isName n)) H):PQ  vs H Q E
def PO:b0:=fun vs H Q E=>PQ  vs H Q E
theorem XF(nb:dD mg)(Gy:ek mg "LONGEST_NAME" (.int 12))(GC:ek mg "SMALL_LETTERS" (.str kp))(F:dS K mg "is_name" Fo ["name"] f fd)(nZ:bp P w K mg base 1 "made_of" ["text","signs"] zc):bp P w K mg base 2 "is_name" ["name"] PO:=by
 refine F.ez Xx (fun bl A _ s H vs Q E az h=>?_)
 obtain⟨n,rfl,aZ,q⟩:=h
 refine⟨_,(aQ (bx (i7 (gZ ke aD (cx ep I nb.ec ef (ao (af 0) aB))) (i7 (gZ tP (cx ep I nb.ec ef (ao (af 0) aB)) (hM Gy)) (ky (bX nZ az (ao (af 0) (ao (hM GC) aB)))))))),?_⟩
 try dsimp only[cG,cH,cI,cJ]
 have ln:n.length<=bU:=fC (by omega)
 unfold isName at q
 refine⟨_,I,_,_,I,⟨ln,I⟩,.inl ⟨_,_,I,I,_,I,?_⟩⟩
 refine fm (fun dA=>?_) (fun dA=>?_)
 ·refine⟨_,I,_,_,I,⟨ln,I⟩,_,_,I,I,_,I,?_⟩
  refine fm (fun g0=>?_) (fun g0=>?_)
  ·refine⟨_,I,n,kp,I,aZ,H,.refl (cF _),?_⟩
   rw[fu ⟨by omega,by omega⟩,Bool.true_and]at q
   exact q
  ·rw[gd (fun z=>g0 (by omega)),Bool.false_and]at q
   exact⟨H,.refl (cF _),q⟩
 ·rw[gd (fun z=>dA (by omega)),Bool.false_and]at q
  exact⟨H,.refl (cF _),q⟩
structure Parts(H:aq)(p:ag)(aI:List (ag×ah×ag)):Prop where
 l:H p=J (.lst (aI.map fun x=>V.ref x.1))
 t:∀x,x∈aI->H x.1=J (.tup [.str x.2.1,.ref x.2.2])
 n:aI.length<=30
 b:∀x,x∈aI->x.2.1.length<=100
noncomputable def g9(aI:List (ag×ah×ag)):List ah:=aI.map fun x=>x.2.1
noncomputable def iw(aI:List (ag×ah×ag)):List ag:=aI.map fun x=>x.2.2
theorem Parts.same{aI:List (ag×ah×ag)}(h:Parts H p aI)(s:d7 H H'):Parts H' p aI:=⟨s _ _ h.l,fun x ay=>s _ _ (h.t x ay),h.n,h.b⟩
inductive PY(vs:List V)(H:aq)(Q:bG)(E:bT):Prop where
 |mk (p aI:_) (bg:vs=[.ref p]) (al:Parts H p aI) (aw:l7 (g9 aI)=au) (bq:∀D,H D=av->Q (.ref D) (upd H D (.lst ((g9 aI).map V.str)))):PY  vs H Q E
def IU:b0:=fun vs H Q E=>PY  vs H Q E
theorem W6(nb:dD mg)(GA:ek mg "MOST_PARTS" (.int 20))(F:dS K mg "names_of" Fa ["parts"] f fd)(DG:bp P w K mg base 2 "is_name" ["name"] PO):bp P w K mg base 3 "names_of" ["parts"] IU:=by
 refine F.ez KJ (fun bl A _ s H vs Q E az h=>?_)
 obtain⟨p,aI,rfl,cP,bb,q⟩:=h
 refine⟨_,(aP (E5 (i:=1)  ["part"] [] KJ.bB I I I (by decide+kernel) trivial (iT (af 0)) (fun _ _ _ _ _=>(eo (i:=0) (show(["part"]:List ah).Nodup by decide+kernel))) (fun _ _ _ _ _=>hN) (fun _ _ _ _ _=>(cV cX (af 0) aD)))
  (aP (cz (gi.pt (ks (b6 dk (cx ep rfl nb.ec ef (ao (af 1) aB)) aD) (lk (b6 kY (cx ep rfl nb.ec ef (ao (af 1) aB)) (hM GA))))) (aQ lB) cy)
  (aP (cz (b6 ke (Li rfl rfl nb.ec rfl nb.O6 (af 1)) (cx ep rfl nb.ec ef (ao (af 1) aB))) (aQ lB) cy)
  (aP (cz (i6 (hy (cx (sM rfl) rfl nb.sT sS (ao (hZ ["name"] [] rfl (by decide+kernel) trivial (iT (af 1)) (fun _ _ _ _ _=>(eo (i:=0) (show(["name"]:List ah).Nodup by decide+kernel))) (fun _ _ _ _ _=>hN) (fun _ _ _ _ _=>(bX DG az (ao (af 0) aB)))) aB)))) (aQ lB) cy)
  (aQ (bx (af 1))))))),?_⟩
 try dsimp only[cG,cH,cI,cJ]
 refine .inl ⟨_,I,p,I,⟨_,bF cP.l⟩,fun D c0=>?_⟩
 refine uP (K:=K) (a:=p) (xs:=aI.map fun x=>V.ref x.1) (fun i=>V.str ((g9 aI).getD i ah.empty)) (fun ae=>∃z,ae=[z]) (by rw[cq];exact fC (by have:=cP.n;omega)) ⟨_,I⟩ c0 (bF cP.l) ?_ ?_
 ·rintro i x ay bO H1 ⟨z,rfl⟩ d3 R b8
  rw[e4]at ay
  obtain⟨y,bV,rfl⟩:=Uf.mp ay
  have hm:=hY bV
  have e:(g9 aI).getD i ah.empty=y.2.1:=by unfold g9;rw[eL,e4,bV];rfl
  rw[e]at b8
  exact⟨_,I,.inl (.inr ⟨_,_,_,_,I,I,dK (d3 _ _ (cP.t y hm)),dz (j:=0) I,b8 _ ⟨_,I⟩⟩)⟩
 have b1:(List.range (aI.map fun x=>V.ref x.1).length).map (fun i=>V.str ((g9 aI).getD i ah.empty))=(g9 aI).map V.str:=by
  have bg:=KO (g9 aI)
  rw[show(aI.map fun x=>V.ref x.1).length=(g9 aI).length by unfold g9;rw[cq,cq]]
  exact bg
 rw[b1]
 have ajX:(g9 aI).length<=30:=by unfold g9;rw[cq];exact cP.n
 have vR:c3 K (upd H D (.lst ((g9 aI).map V.str))) D ((g9 aI).map V.str):=bF aG
 have et:=Uj (g9 aI)
 unfold l7 at bb
 refine⟨_,I,_,_,I,.inl ⟨_,vR,I⟩,I,_,I,?_⟩
 rw[cq]
 simp only[jD,n5]at bb
 obtain⟨⟨bg,j9,hd⟩,gQ⟩:=bb
 refine fv (fun z=>bg (by have:=V.int.inj z;omega)) ⟨_,I,_,_,I,.inl ⟨_,vR,I⟩,_,_,I,I,_,I,fv (by rw[cq];omega) ?_⟩
 refine⟨_,I,_,_,WS vR,(by unfold scanBound;omega),_,I,_,_,I,.inl ⟨_,vR,I⟩,.inl ⟨_,_,I,I,_,I,fv (by rw[cq];show ¬(((BL (g9 aI):Nat):Int)<_);omega) ?_⟩⟩
 refine .inl ⟨_,I,D,I,⟨_,vR⟩,fun hq l8=>?_⟩
 have nv:upd H D (.lst ((g9 aI).map V.str)) D=J (.lst ((g9 aI).map V.str)):=aG
 refine Fx (K:=K) (a:=D) (xs:=(g9 aI).map V.str) (fun x=>match x with|.str n =>.aE (isName n)|_ =>.bc) (fun ae=>∃z,ae=[z]) (by rw[cq];exact fC (by omega)) ⟨_,rfl⟩ l8 vR ?_ ?_
 ·rintro x ay bO H1 ⟨z,rfl⟩ d3 R b8
  obtain⟨n,aZ,rfl⟩:=List.mem_map.mp ay
  obtain⟨y,bV,rfl⟩:=List.mem_map.mp aZ
  have:=cP.b y bV
  exact⟨_,I,_,I,by omega,b8 _ ⟨_,rfl⟩⟩
 ·rw[fV]
  refine⟨hq,(g9 aI).map isName,I,?_,_,I,?_⟩
  .rw[fV];exact bF aG
  rw[List.all_map,show(id ∘ isName)=isName from rfl,gQ]
  exact dx ⟨_,I,_,.new (o:=cZ.lst ((g9 aI).map V.str)) c0 ((dc c0).trans (dc l8)) (by rw[bt (fun z=>by rw[<-z,nv]at l8;cases l8)];exact aG) trivial,q D c0⟩
structure vd(K:bK)(C:ag):Prop where
 cl:ff K C
 mS:jm K C "low"
 CA:jm K C "high"
structure su(K:bK)(C:ag):Prop where
 cl:ff K C
 oC:jm K C "signs"
structure n3(K:bK)(C:ag):Prop where
 cl:ff K C
 rB:jm K C "names"
 lN:jm K C "forms"
theorem ad2:¬(("low":ah)="high"):=by decide+kernel
theorem aeC:¬(("names":ah)="forms"):=by decide+kernel
theorem S5(v:V):eU "low" v []=([("low",v)]:List (ah×V)):=rfl
theorem Y3(v w:V):eU "high" w ([("low",v)]:List (ah×V))=([("low",v),("high",w)]:List (ah×V)):=by simp only[eU,ad2,if_false]
theorem Xz(v:V):eU "signs" v []=([("signs",v)]:List (ah×V)):=rfl
theorem Le(v:V):eU "names" v []=([("names",v)]:List (ah×V)):=rfl
theorem Lf(v w:V):eU "forms" w ([("names",v)]:List (ah×V))=([("names",v),("forms",w)]:List (ah×V)):=by simp only[eU,aeC,if_false]
theorem h3(k:ah)(v:V)(r:List (ah×V)):((k,v)::r).lookup k=J v:=by simp[List.lookup]
theorem ps(k k2:ah)(v w:V)(h:(k2 == k)=aA):([(k,v),(k2,w)]:List (ah×V)).lookup k2=J w:=by simp[List.lookup,h]
theorem Hf:(("high":ah) == "low")=aA:=by decide+kernel
theorem ta:(("forms":ah) == "names")=aA:=by decide+kernel
noncomputable def QQ(a b:Int):List (ah×V):=[("low",.int a),("high",.int b)]
noncomputable def Ou(s:ah):List (ah×V):=[("signs",.str s)]
noncomputable def Df(dE dM:ag):List (ah×V):=[("names",.ref dE),("forms",.ref dM)]
inductive QA(C:ag)(vs:List V)(H:aq)(Q:bG)(E:bT):Prop where
 |mk (p ai:ag) (a b:Int) (bg:vs=[.ref p,.int a,.int b]) (al:H p=J (.ins C ai [])) (aw:a<=b) (bq:Q .bc (upd H p (.ins C ai (QQ a b)))):QA C vs H Q E
def I2(C:ag):b0:=fun vs H Q E=>QA C vs H Q E
theorem Wv(T:vd K C)(F:c1 K "__init__" "Span.__init__" E2 f fd):cv P w K mg base c8 1 f fd ["self","low","high"] (I2 C):=by
 refine F.ok Wm (fun vs H Q E h=>?_) (fun bl A _ s H vs Q E az h=>?_)
 .obtain⟨_,_,_,_,rfl,_⟩:=h;rfl
 obtain⟨p,ai,a,b,rfl,aO,ajL,q⟩:=h
 refine⟨_,(aP (cz (b6 kY (af 1) (af 2)) (aQ lB) cy)
  (aP (hO (af 0) (af 1) rfl)
  (aQ (hO (af 0) (af 2) rfl)))),?_⟩
 try dsimp only[cG,cH,cI,cJ]
 refine⟨_,I,_,I,_,_,I,I,_,I,fv (by omega) ?_⟩
 refine⟨_,I,_,I,p,C,ai,_,I,aO,T.cl,T.mS,(by show 0<1000;decide),?_⟩
 rw[S5]
 refine⟨_,I,_,I,p,C,ai,_,I,aG,T.cl,T.CA,(by show 1<1000;decide),?_⟩
 rw[Y3,fX]
 exact q
inductive PU(C:ag)(vs:List V)(H:aq)(Q:bG)(E:bT):Prop where
 |mk (p ai:ag) (s:ah) (bg:vs=[.ref p,.str s]) (al:H p=J (.ins C ai [])) (aw:s.length<=1000) (bq:oi s=au) (b4:Q .bc (upd H p (.ins C ai (Ou s)))):PU C vs H Q E
def IQ(C:ag):b0:=fun vs H Q E=>PU C vs H Q E
theorem W7(nb:dD mg)(GB:ek mg "MOST_SIGNS" (.int 60))(Gx:ek mg "LETTERS_AND_FIGURES" (.str pX))(T:su K C)(F:c1 K "__init__" "Letters.__init__" Ez f fd)(nZ:bp P w K mg base 1 "made_of" ["text","signs"] zc):cv P w K mg base c8 2 f fd ["self","signs"] (IQ C):=by
 refine F.ok Ve (fun vs H Q E h=>?_) (fun bl A _ s H vs Q E az h=>?_)
 .obtain⟨_,_,_,rfl,_⟩:=h;rfl
 obtain⟨p,ai,t,rfl,aO,bo,bb,q⟩:=h
 refine⟨_,(aP (cz (gi.pt (ks (b6 dk (af 1) cT) (lk (b6 kY (cx ep I nb.ec ef (ao (af 1) aB)) (hM GB))))) (aQ lB) cy)
  (aP (cz (b6 ke (Li rfl rfl nb.ec rfl nb.O6 (af 1)) (cx ep rfl nb.ec ef (ao (af 1) aB))) (aQ lB) cy)
  (aP (cz (i6 (hy (bX nZ az (ao (af 1) (ao (hM Gx) aB))))) (aQ lB) cy)
  (aQ (hO (af 0) (af 1) rfl))))),?_⟩
 try dsimp only[cG,cH,cI,cJ]
 have ln:t.length<=bU:=fC (by omega)
 have et:=Ui t
 unfold oi at bb
 simp only[jD,n5]at bb
 obtain⟨⟨bg,B4,hd⟩,gQ⟩:=bb
 refine⟨_,I,I,_,I,fv (fun z=>bg ((SZ t).mp (V.str.inj z))) ⟨_,I,_,_,I,⟨ln,I⟩,_,_,I,I,_,I,fv (by omega) ?_⟩⟩
 refine⟨_,I,_,_,Xs t,(by unfold scanBound;show t.length+1<_;omega),_,I,_,_,I,⟨ln,I⟩,.inl ⟨_,_,I,I,_,I,fv (by show ¬(((BM t:Nat):Int)<_);omega) ?_⟩⟩
 refine⟨_,I,t,pX,I,by omega,_,rfl,?_⟩
 rw[gQ]
 refine dx ⟨_,I,_,I,p,C,ai,_,I,aO,T.cl,T.oC,(by show 0<1000;decide),?_⟩
 rw[Xz]
 exact q
theorem Parts.keep{o C ai:ag}{fs:List (ah×V)}{aI:List (ag×ah×ag)}(h:Parts H p aI)(aL:H o=J (.ins C ai fs))(s:∀b u,b≠o->H b=J u->H' b=J u):Parts H' p aI :=
 ⟨s _ _ (fun z=>by have:=h.l;rw[z,aL]at this;cases this) h.l,fun x ay=>s _ _ (fun z=>by have:=h.t x ay;rw[z,aL]at this;cases this) (h.t x ay),h.n,h.b⟩
inductive QJ(C:ag)(vs:List V)(H:aq)(Q:bG)(E:bT):Prop where
 |mk (o ai p:ag) (aI:List (ag×ah×ag)) (bg:vs=[.ref o,.ref p]) (al:H o=J (.ins C ai [])) (aw:Parts H p aI) (bq:l7 (g9 aI)=au) (b4:∀dE dM,H dE=av->H dM=av->dE≠dM->Q .bc (upd (upd (upd H dE (.lst ((g9 aI).map V.str))) dM (.lst ((iw aI).map V.ref))) o (.ins C ai (Df dE dM)))):QJ C vs H Q E
def wG(C:ag):b0:=fun vs H Q E=>QJ C vs H Q E
theorem W3(nb:dD mg)(T:n3 K C)(F:c1 K "__init__" "Record.__init__" EG f fd)(uI:bp P w K mg base 3 "names_of" ["parts"] IU):cv P w K mg base c8 4 f fd ["self","parts"] (wG C):=by
 refine F.ok Vz (fun vs H Q E h=>?_) (fun bl A _ s H vs Q E az h=>?_)
 .obtain⟨_,_,_,_,rfl,_⟩:=h;rfl
 obtain⟨o,ai,p,aI,rfl,aL,cP,bb,q⟩:=h
 refine⟨_,(aP (hO (af 0) (bX uI az (ao (af 1) aB)) I)
  (aQ (hO (af 0) (hZ ["part"] [] rfl (by decide+kernel) trivial (iT (af 1)) (fun _ _ _ _ _=>(eo (i:=0) (show(["part"]:List ah).Nodup by decide+kernel))) (fun _ _ _ _ _=>hN) (fun _ _ _ _ _=>(cV cX (af 0) aD))) rfl))),?_⟩
 try dsimp only[cG,cH,cI,cJ]
 refine⟨_,I,p,aI,I,cP,bb,fun dE al=>?_⟩
 have ew:dE≠o:=(eB aL al).symm
 refine⟨_,I,o,C,ai,_,I,(by rw[bt (d1 ew)];exact aL),T.cl,T.rB,(by show 0<1000;decide),?_⟩
 rw[Le]
 have k1:∀b u,b≠o->H b=J u->upd (upd H dE (.lst ((g9 aI).map V.str))) o (.ins C ai [("names",.ref dE)]) b=J u:=fun b u nb e=>by rw[bt nb,bt (eB e al)];exact e
 have tg:=cP.keep aL k1
 refine .inl ⟨_,I,p,I,⟨_,bF tg.l⟩,fun dM aw=>?_⟩
 have dZ:dM≠o:=fun z=>by rw[z,aG]at aw;cases aw
 have yL:dE≠dM:=fun z=>by rw[bt dZ,<-z,aG]at aw;cases aw
 have j9:H dM=av:=by rw[bt dZ,bt (d1 yL)]at aw;exact aw
 refine uP (K:=K) (a:=p) (xs:=aI.map fun x=>V.ref x.1) (fun i=>V.ref ((iw aI).getD i 0)) (fun ae=>∃z,ae=[z]) (by rw[cq];exact fC (by have:=cP.n;omega)) ⟨_,I⟩ aw (bF tg.l) ?_ ?_
 ·rintro i x ay bO H1 ⟨z,rfl⟩ d3 R b8
  rw[e4]at ay
  obtain⟨y,bV,rfl⟩:=Uf.mp ay
  have hm:=hY bV
  have e:(iw aI).getD i 0=y.2.2:=by unfold iw;rw[eL,e4,bV];rfl
  rw[e]at b8
  exact⟨_,I,.inl (.inr ⟨_,_,_,_,I,I,dK (d3 _ _ (tg.t y hm)),dz (j:=1) I,b8 _ ⟨_,I⟩⟩)⟩
 have b1:(List.range (aI.map fun x=>V.ref x.1).length).map (fun i=>V.ref ((iw aI).getD i 0))=(iw aI).map V.ref:=by
  apply List.ext_getElem
  .unfold iw;simp
  ·intro i g1 g2
   have g3:i<aI.length:=by simpa [iw] using g2
   have tb:i<(iw aI).length:=by simpa using g2
   rw[jE,jE,List.getElem_range,eL,c4 tb];rfl
 rw[b1]
 refine⟨_,I,o,C,ai,_,I,(by rw[bt (d1 dZ)];exact aG),T.cl,T.lN,(by show 1<1000;decide),?_⟩
 rw[Lf,Bb (d1 dZ),fX]
 exact q dE dM al j9 yL
theorem Xd(nb:dD mg)(T:n3 K C)(F:c1 K "__init__" "Choice.__init__" EH f fd)(uI:bp P w K mg base 3 "names_of" ["parts"] IU):cv P w K mg base c8 4 f fd ["self","cases"] (wG C):=by
 refine F.ok VC (fun vs H Q E h=>?_) (fun bl A _ s H vs Q E az h=>?_)
 .obtain⟨_,_,_,_,rfl,_⟩:=h;rfl
 obtain⟨o,ai,p,aI,rfl,aL,cP,bb,q⟩:=h
 refine⟨_,(aP (hO (af 0) (bX uI az (ao (af 1) aB)) I)
  (aQ (hO (af 0) (hZ ["case"] [] rfl (by decide+kernel) trivial (iT (af 1)) (fun _ _ _ _ _=>(eo (i:=0) (show(["case"]:List ah).Nodup by decide+kernel))) (fun _ _ _ _ _=>hN) (fun _ _ _ _ _=>(cV cX (af 0) aD))) rfl))),?_⟩
 try dsimp only[cG,cH,cI,cJ]
 refine⟨_,I,p,aI,I,cP,bb,fun dE al=>?_⟩
 have ew:dE≠o:=(eB aL al).symm
 refine⟨_,I,o,C,ai,_,I,(by rw[bt (d1 ew)];exact aL),T.cl,T.rB,(by show 0<1000;decide),?_⟩
 rw[Le]
 have k1:∀b u,b≠o->H b=J u->upd (upd H dE (.lst ((g9 aI).map V.str))) o (.ins C ai [("names",.ref dE)]) b=J u:=fun b u nb e=>by rw[bt nb,bt (eB e al)];exact e
 have tg:=cP.keep aL k1
 refine .inl ⟨_,I,p,I,⟨_,bF tg.l⟩,fun dM aw=>?_⟩
 have dZ:dM≠o:=fun z=>by rw[z,aG]at aw;cases aw
 have yL:dE≠dM:=fun z=>by rw[bt dZ,<-z,aG]at aw;cases aw
 have j9:H dM=av:=by rw[bt dZ,bt (d1 yL)]at aw;exact aw
 refine uP (K:=K) (a:=p) (xs:=aI.map fun x=>V.ref x.1) (fun i=>V.ref ((iw aI).getD i 0)) (fun ae=>∃z,ae=[z]) (by rw[cq];exact fC (by have:=cP.n;omega)) ⟨_,I⟩ aw (bF tg.l) ?_ ?_
 ·rintro i x ay bO H1 ⟨z,rfl⟩ d3 R b8
  rw[e4]at ay
  obtain⟨y,bV,rfl⟩:=Uf.mp ay
  have hm:=hY bV
  have e:(iw aI).getD i 0=y.2.2:=by unfold iw;rw[eL,e4,bV];rfl
  rw[e]at b8
  exact⟨_,I,.inl (.inr ⟨_,_,_,_,I,I,dK (d3 _ _ (tg.t y hm)),dz (j:=1) I,b8 _ ⟨_,I⟩⟩)⟩
 have b1:(List.range (aI.map fun x=>V.ref x.1).length).map (fun i=>V.ref ((iw aI).getD i 0))=(iw aI).map V.ref:=by
  apply List.ext_getElem
  .unfold iw;simp
  ·intro i g1 g2
   have g3:i<aI.length:=by simpa [iw] using g2
   have tb:i<(iw aI).length:=by simpa using g2
   rw[jE,jE,List.getElem_range,eL,c4 tb];rfl
 rw[b1]
 refine⟨_,I,o,C,ai,_,I,(by rw[bt (d1 dZ)];exact aG),T.cl,T.lN,(by show 1<1000;decide),?_⟩
 rw[Lf,Bb (d1 dZ),fX]
 exact q dE dM al j9 yL
structure kN(K:bK)(C:ag):Prop where
 cl:ff K C
 nH:jm K C "inner"
inductive P5(C:ag)(vs:List V)(H:aq)(Q:bG)(E:bT):Prop where
 |mk (p ai w:_) (bg:vs=[.ref p,.ref w]) (al:H p=J (.ins C ai [])) (aw:Q .bc (upd H p (.ins C ai [("inner",.ref w)]))):P5 C vs H Q E
def qG(C:ag):b0:=fun vs H Q E=>P5 C vs H Q E
theorem V2(T:kN K C)(F:c1 K "__init__" "Maybe.__init__" EP f fd):cv P w K mg base c8 1 f fd ["self","inner"] (qG C):=by
 refine F.ok VX (fun vs H Q E h=>?_) (fun bl A _ s H vs Q E az h=>?_)
 .obtain⟨_,_,_,rfl,_⟩:=h;rfl
 obtain⟨p,ai,w,rfl,aO,q⟩:=h
 exact⟨_,(aQ (hO (af 0) (af 1) I)),_,I,_,I,p,C,ai,_,I,aO,T.cl,T.nH,(by show 0<1000;decide),q⟩
theorem Ww(T:kN K C)(F:c1 K "__init__" "Many.__init__" E3 f fd):cv P w K mg base c8 1 f fd ["self","inner"] (qG C):=by
 refine F.ok Wr (fun vs H Q E h=>?_) (fun bl A _ s H vs Q E az h=>?_)
 .obtain⟨_,_,_,rfl,_⟩:=h;rfl
 obtain⟨p,ai,w,rfl,aO,q⟩:=h
 exact⟨_,(aQ (hO (af 0) (af 1) I)),_,I,_,I,p,C,ai,_,I,aO,T.cl,T.nH,(by show 0<1000;decide),q⟩
theorem VF(T:kN K C)(F:c1 K "__init__" "Turned.__init__" EE f fd):cv P w K mg base c8 1 f fd ["self","inner"] (qG C):=by
 refine F.ok Vt (fun vs H Q E h=>?_) (fun bl A _ s H vs Q E az h=>?_)
 .obtain⟨_,_,_,rfl,_⟩:=h;rfl
 obtain⟨p,ai,w,rfl,aO,q⟩:=h
 exact⟨_,(aQ (hO (af 0) (af 1) I)),_,I,_,I,p,C,ai,_,I,aO,T.cl,T.nH,(by show 0<1000;decide),q⟩
noncomputable def isNum:D->Bool
 |.int _=>au
 |_=>aA
noncomputable def Ga(bw:D->Bool):Fin 4->D->Bool
 |0,.bc=>au
 |1,.aE _=>au
 |2,.int i=>decide (ib i)
 |3,d=>bw d
 |_,_=>aA
noncomputable def rA(g:D->Bool):D->Bool
 |.tup []=>au
 |.tup [x]=>g x
 |_=>aA
noncomputable def wq(g:D->Bool):D->Bool
 |.lst ds=>decide (ds.length<=60)&&ds.all g
 |_=>aA
noncomputable def Iq(k:Fin 3)(g:D->Bool)(d:D):Bool:=if k=0 then rA g d else if k=1 then wq g d else g d
noncomputable def ahp(a b:Int):D->Bool
 |.int i=>decide (a<=i/\i<=b)
 |_=>aA
noncomputable def adZ(s:ah):D->Bool
 |.str t=>decide (t.length<=200)&&mR t s
 |_=>aA
noncomputable def Jf(g:List D->Bool):D->Bool
 |.tup ds=>g ds
 |_=>aA
noncomputable def vG(g:ah->D->Bool):D->Bool
 |.tup [.str n,x]=>g n x
 |_=>aA
mutual
noncomputable def b2(bw:D->Bool):bN->D->Bool
 |.bare k,d=>Ga bw k d
 |.sp a b,d=>ahp a b d
 |.le s,d=>adZ s d
 |.one k f,d=>Iq k (b2 bw f) d
 |.two k ns fs,d=>if k=0 then Jf (fy bw fs) d else vG (jv bw fs ns) d
noncomputable def fy(bw:D->Bool):List bN->List D->Bool
 |[],ds=>ds.isEmpty
 |f::fs,ds=>match ds with|[]=>aA|d::ds=>b2 bw f d&&fy bw fs ds
noncomputable def jv(bw:D->Bool):List bN->List ah->ah->D->Bool
 |[],_,_,_=>aA
 |f::fs,ns,n,x=>if ns.head?=J n then b2 bw f x else jv bw fs ns.tail n x
end
inductive PR(vs:List V)(H:aq)(Q:bG)(E:bT):Prop where
 |mk (v:V) (d:D) (bg:vs=[v]) (al:d4 H d v) (aw:Q (.aE (isNum d)) H):PR  vs H Q E
def zb:b0:=fun vs H Q E=>PR  vs H Q E
inductive PH(vs:List V)(H:aq)(Q:bG)(E:bT):Prop where
 |mk (n:Int) (bg:vs=[.int n]) (al:Q (.aE (decide (ib n))) H):PH  vs H Q E
def IM:b0:=fun vs H Q E=>PH  vs H Q E
theorem UM(F:dS K mg "has_whole_row" An ["n"] f fd)(m5:bp P w K mg base 1 "is_count" ["n"] za):bp P w K mg base 2 "has_whole_row" ["n"] IM:=by
 refine F.ez Kh (fun bl A _ s H vs Q E az h=>?_)
 obtain⟨n,rfl,q⟩:=h
 refine⟨_,(aQ (bx (bX m5 az (ao (n7 (b6 CJ (af 0) aD) (af 0) (aS gb (lD ly aD) (af 0))) aB)))),?_⟩
 try dsimp only[cG,cH,cI,cJ]
 refine⟨_,I,_,_,I,I,_,I,?_⟩
 refine fm (fun c=>?_) (fun c=>?_)
 ·refine⟨_,I,_,I,H,.refl (cF _),?_⟩
  have e:decide (hU n)=decide (ib n):=decide_eq_decide.mpr (by unfold hU ib;omega)
  rw[e];exact q
 ·refine⟨_,I,_,I,_,_,I,I,_,I,H,.refl (cF _),?_⟩
  have e:decide (hU (-1-n))=decide (ib n):=decide_eq_decide.mpr (by unfold hU ib;omega)
  rw[e];exact q
theorem V6(nb:dD mg)(F:dS K mg "is_number" EY ["value"] f fd):bp P w K mg base 1 "is_number" ["value"] zb:=by
 refine F.ez Wj (fun bl A _ s H vs Q E az h=>?_)
 obtain⟨v,d,rfl,hd,q⟩:=h
 refine⟨_,(aQ (bx (i7 (cx jF I nb.gS gP (ao (af 0) (ao (jr (v :=.ty "int") I nb.tC sR I) aB))) (ky (FV (cx jF I nb.gS gP (ao (af 0) (ao (jr (v :=.ty "bool") I nb.BH By I) aB)))))))),?_⟩
 try dsimp only[cG,cH,cI,cJ]
 refine⟨_,I,.inl ⟨_,_,_,_,I,hd.ty,hE K d (by decide),_,I,?_⟩⟩
 cases d with
 |int i=>exact eC ⟨_,I,.inl ⟨_,_,_,_,I,hd.ty,hE K _ (by decide),_,I,H,.refl (cF _),q⟩⟩
 |aE b=>exact eC ⟨_,I,.inl ⟨_,_,_,_,I,hd.ty,hE K _ (by decide),_,I,H,.refl (cF _),q⟩⟩
 |_=>exact dx ⟨H,.refl (cF _),q⟩
mutual
noncomputable def oE:D->Prop
 |.int i=>i.natAbs<2^390
 |.tup ds=>rH ds
 |.lst ds=>rH ds
 |_=>True
noncomputable def rH:List D->Prop
 |[]=>True
 |d::ds=>oE d/\rH ds
end
theorem Bg:∀(ds:List D){i:Nat}{d:D},rH ds->ds[i]?=J d->oE d
 |[],i,d,_,e=>by cases e
 |x::ds,0,d,h,e=>by cases e;exact h.1
 |x::ds,i+1,d,h,e=>Bg ds h.2 e
theorem Mg:∀(ds:List D),(∀d,d∈ds->oE d)->rH ds
 |[],_=>trivial
 |x::ds,h=>⟨h x (eI ..),Mg ds fun d hd=>h d (dP _ hd)⟩
inductive Pz(has:fI->Bool)(bw:D->Bool)(c:dF)(n:Nat)(i:fI)(vs:List V)(H:aq)(Q:bG)(E:bT):Prop where
 |mk (o:ag) (f:bN) (v:V) (d:D) (bg:vs=[.ref o,v]) (al:slot f=i) (aw:b7 c [] H f o) (bq:kg has f) (b4:bo f<=n) (eb:d4 H d v) (ij:oE d) (oj:Q (.aE (b2 bw f d)) H):Pz has bw c n i vs H Q E
def jy(has:fI->Bool)(bw:D->Bool)(c:dF)(n:Nat)(i:fI):b0:=fun vs H Q E=>Pz has bw c n i vs H Q E
theorem sL(bw:D->Bool)(k:Fin 4)(d:D):b2 bw (.bare k) d=Ga bw k d:=by rw[b2]
theorem Tw{d:D}(h:d4 H d v):decide (v=.bc)=Ga (fun _=>aA) 0 d:=by
 cases d with
 |bc=>obtain rfl:v=.bc:=h;rfl
 |aE b=>obtain rfl:v=.aE b:=h;rfl
 |int i=>obtain rfl:v=.int i:=h;rfl
 |str s=>obtain⟨rfl,_⟩:=h;rfl
 |tup ds=>obtain⟨a,vs,rfl,e,_⟩:=h;rfl
 |lst ds=>obtain⟨a,vs,rfl,e,_⟩:=h;rfl
theorem Vm(F:c1 K "fits" "Nothing.fits" zI f fd):cv P w K mg base c8 1 f fd ["self","value"] (jy has bw c n (.b 0)):=by
 refine F.fA Vb (fun bl A _ s H vs Q E az h=>?_)
 obtain⟨o,aW,v,d,rfl,hs,cW,aT,cS,hd,e8,q⟩:=h
 have:=ni hs
 subst this
 refine⟨_,(aQ (bx (gZ xH (af 1) mv))),_,I,I,H,.refl (cF _),?_⟩
 rw[Tw hd]
 rw[sL]at q
 cases d<;>exact q
theorem Wa(F:c1 K "fits" "Truth.fits" AE f fd):cv P w K mg base c8 1 f fd ["self","value"] (jy has bw c n (.b 1)):=by
 refine F.fA VU (fun bl A _ s H vs Q E az h=>?_)
 obtain⟨o,aW,v,d,rfl,hs,cW,aT,cS,hd,e8,q⟩:=h
 have:=ni hs
 subst this
 rw[sL]at q
 refine⟨_,(aQ (bx (J9 (gZ MD (af 1) gg) (ky (gZ MD (af 1) gg))))),_,I,aA,I,hd.plain,?_⟩
 have no:∀d',d=d'->(∀b,d'≠.aE b)->∀b,decide (v=.aE b)=aA:=fun d' e aZ b=>gd fun z=>by
  subst e
  cases d with
  |aE i9=>exact aZ i9 I
  |bc=>obtain rfl:v=.bc:=hd;cases z
  |int i=>obtain rfl:v=.int i:=hd;cases z
  |str s=>obtain⟨rfl,_⟩:=hd;cases z
  |tup ds=>obtain⟨a,vs,rfl,e,_⟩:=hd;cases z
  |lst ds=>obtain⟨a,vs,rfl,e,_⟩:=hd;cases z
 cases d with
 |aE b =>
  obtain rfl:v=.aE b:=hd
  cases b with
  |false=>exact⟨au,I,eC ⟨H,.refl (cF _),q⟩⟩
  |true=>exact⟨aA,I,dx ⟨_,I,au,I,I,H,.refl (cF _),q⟩⟩
 |_ =>
  have ew:=no _ rfl (fun b z=>by cases z)
  refine⟨aA,by rw[ew],dx ⟨_,rfl,au,rfl,hd.plain,H,.refl (cF _),?_⟩⟩
  rw[ew];exact q
theorem VK(F:c1 K "fits" "Whole.fits" AB f fd)(m6:bp P w K mg base 1 "is_number" ["value"] zb)(sb:bp P w K mg base 2 "has_whole_row" ["n"] IM):cv P w K mg base c8 3 f fd ["self","value"] (jy has bw c n (.b 2)):=by
 refine F.fA VS (fun bl A _ s H vs Q E az h=>?_)
 obtain⟨o,aW,v,d,rfl,hs,cW,aT,cS,hd,e8,q⟩:=h
 have:=ni hs
 subst this
 rw[sL]at q
 refine⟨_,(aQ (bx (i7 (bX m6 az (ao (af 1) aB)) (ky (bX sb az (ao (af 1) aB)))))),_,I,v,d,I,hd,_,I,?_⟩
 cases d with
 |int i =>
  obtain rfl:v=.int i:=hd
  exact eC ⟨_,I,i,I,H,.refl (cF _),q⟩
 |_=>exact dx ⟨H,.refl (cF _),q⟩
theorem WG(T:vd K c.s)(F:c1 K "fits" "Span.fits" AO f fd)(m6:bp P w K mg base 1 "is_number" ["value"] zb):cv P w K mg base c8 2 f fd ["self","value"] (jy has bw c n .s):=by
 refine F.fA Wn (fun bl A _ s H vs Q E az h=>?_)
 obtain⟨o,aW,v,d,rfl,hs,cW,aT,cS,hd,e8,q⟩:=h
 obtain⟨a,b,rfl⟩:=FT hs
 obtain⟨_,ai,aL⟩:=cW
 rw[b2]at q
 refine⟨_,(aQ (bx (i7 (bX m6 az (ao (af 1) aB)) (i7 (gZ tP (dw (af 0) I) (af 1)) (ky (gZ tP (af 1) (dw (af 0) I))))))),_,I,v,d,I,hd,_,I,?_⟩
 cases d with
 | int i =>
  obtain rfl:v=.int i:=hd
  refine eC ⟨_,I,o,c.s,ai,_,_,I,aL,T.cl,T.mS,h3 ..,_,I,_,_,I,I,_,I,fm (fun dA=>?_) (fun dA=>?_)⟩
  ·refine⟨_,I,_,I,o,c.s,ai,_,_,I,aL,T.cl,T.CA,ps _ _ _ _ Hf,_,_,I,I,H,.refl (cF _),?_⟩
   have e:decide (i<=b)=decide (a<=i/\i<=b):=decide_eq_decide.mpr ⟨fun z=>⟨dA,z⟩,fun z=>z.2⟩
   dsimp only
   rw[e];exact q
  ·have e:decide (a<=i/\i<=b)=aA:=gd fun z=>dA z.1
   have q:Q (.aE (decide (a<=i/\i<=b))) H:=q
   rw[e]at q
   exact⟨H,.refl (cF _),q⟩
 |_=>exact dx ⟨H,.refl (cF _),q⟩
theorem Vo(nb:dD mg)(pb:ek mg "LONGEST_TEXT" (.int 200))(T:su K c.l)(F:c1 K "fits" "Letters.fits" zL f fd)(nZ:bp P w K mg base 1 "made_of" ["text","signs"] zc):cv P w K mg base c8 2 f fd ["self","value"] (jy has bw c n .l):=by
 refine F.fA Vf (fun bl A _ s H vs Q E az h=>?_)
 obtain⟨o,aW,v,d,rfl,hs,cW,aT,cS,hd,e8,q⟩:=h
 obtain⟨cA,rfl⟩:=FU hs
 obtain⟨_,ai,aL⟩:=cW
 rw[b2]at q
 refine⟨_,(aQ (bx (i7 (cx jF I nb.gS gP (ao (af 1) (ao (jr (v :=.ty "str") I nb.I5 F7 I) aB))) (i7 (gZ tP (cx ep I nb.ec ef (ao (af 1) aB)) (hM pb)) (ky (bX nZ az (ao (af 1) (ao (dw (af 0) I) aB)))))))),_,I,.inl ⟨_,_,_,_,I,hd.ty,hE K d (by decide),_,I,?_⟩⟩
 cases d with
 | str t =>
  obtain⟨rfl,Cr⟩:=hd
  refine eC ⟨_,I,_,_,I,⟨iE Cr,I⟩,_,_,I,I,_,I,fm (fun dA=>?_) (fun dA=>?_)⟩
  ·refine⟨_,I,_,I,o,c.l,ai,_,_,I,aL,T.cl,T.oC,h3 ..,t,cA,I,by omega,H,.refl (cF _),?_⟩
   have q:Q (.aE (decide (t.length<=200)&&mR t cA)) H:=q
   rw[fu (by omega),Bool.true_and]at q
   exact q
  ·have q:Q (.aE (decide (t.length<=200)&&mR t cA)) H:=q
   rw[gd (by omega),Bool.false_and]at q
   exact⟨H,.refl (cF _),q⟩
 |_=>exact dx ⟨H,.refl (cF _),q⟩
theorem b7.fits{c:dF}(f:bN){o:ag}(h:b7 c X H f o):∃ai fs,H o=J (.ins (fJ c (slot f)) ai fs)/\fs.lookup (ah.ofString "fits")=av :=
 b7.ins (m:=ah.ofString "fits") (by decide+kernel) (by decide+kernel) (by decide+kernel) (by decide+kernel) (by decide+kernel) (by decide+kernel) f h
theorem Wb(nb:dD mg)(T:kN K (c.o 0))(F:c1 K "fits" "Maybe.fits" AK f fd)(jU:hT P w K mg base (2*n+4) "fits" ["self","value"] (fJ c) (jy has bw c n)):cv P w K mg base c8 (2*n+4+1) f fd ["self","value"] (jy has bw c (n+1) (.o 0)):=by
 refine F.fA VY (fun bl A _ s H vs Q E az h=>?_)
 obtain⟨o,aW,v,d,rfl,hs,cW,aT,cS,hd,e8,q⟩:=h
 obtain⟨g,rfl⟩:=pU hs
 obtain⟨_,ai,i,aL,fM⟩:=cW
 have g6:=aT.one
 have iz:bo g<=n:=by rw[bo]at cS;omega
 rw[b2]at q
 have q:Q (.aE (rA (b2 bw g) d)) H:=q
 obtain⟨f6,f9,eR,li⟩:=b7.fits g fM
 refine⟨_,(aP (cz (gi.pt (ks (i6 (hy (cx jF I nb.gS gP (ao (af 1) (ao (jr (v :=.ty "tuple") I nb.rR q2 I) aB))))) (lk (b6 kY (cx ep I nb.ec ef (ao (af 1) aB)) aD)))) (aQ (bx gg)) cy)
  (aQ (bx (J9 (gZ dk (cx ep rfl nb.ec ef (ao (af 1) aB)) aD) (ky (jq jU az (dw (af 0) rfl) (ao (cV cX (af 1) aD) aB) (hk:=by omega))))))),_,rfl,.inl ⟨_,_,_,_,rfl,hd.ty,hE K d (by decide),_,rfl,?_⟩⟩
 cases d with
 | tup ds =>
  obtain⟨a,vs,rfl,de,et,kX⟩:=hd
  have cB:=dn.len ds et
  refine dx ⟨_,I,_,_,I,.inr ⟨_,dK de,I⟩,_,_,I,I,_,I,fm (fun dA=>?_) (fun dA=>?_)⟩
  ·have e:rA (b2 bw g) (.tup ds)=aA:=by
    cases ds with
    |nil=>rw[cB,List.length_nil]at dA;omega
    |cons x r =>
     cases r with
     |nil=>rw[cB,kQ]at dA;omega
     |cons y r=>rfl
   rw[e]at q
   exact⟨H,.refl (cF _),q⟩
  ·refine⟨_,I,_,_,I,.inr ⟨_,dK de,I⟩,I,_,I,fm (fun g0=>?_) (fun g0=>?_)⟩
   ·have bg:ds=[]:=List.length_eq_zero_iff.mp (by have:=V.int.inj g0;omega)
    subst bg
    exact⟨H,.refl (cF _),q⟩
   ·have al:ds.length=1:=by
     rcases Nat.eq_zero_or_pos ds.length with z|z
     .exact absurd (by rw[cB,z];rfl) g0
     .omega
    obtain⟨x,rfl⟩:=List.length_eq_one_iff.mp al
    obtain⟨y,r,rfl,ay,dH⟩:=et
    obtain rfl:r=[]:=dH
    refine⟨_,I,o,c.o 0,ai,_,_,I,aL,T.cl,T.nH,h3 ..,i,slot g,f6,f9,I,eR,li,?_⟩
    exact⟨_,I,.inl (.inr ⟨_,_,_,_,I,I,dK de,dz (j:=0) I,i,g,y,x,I,I,fM,g6,iz,ay,e8.1,H,.refl (cF _),q⟩)⟩
 |_=>exact eC ⟨H,.refl (cF _),q⟩
theorem Vl(T:kN K (c.o 2))(F:c1 K "fits" "Turned.fits" zT f fd)(jU:hT P w K mg base (2*n+4) "fits" ["self","value"] (fJ c) (jy has bw c n)):cv P w K mg base c8 (2*n+4+1) f fd ["self","value"] (jy has bw c (n+1) (.o 2)):=by
 refine F.fA Vu (fun bl A _ s H vs Q E az h=>?_)
 obtain⟨o,aW,v,d,rfl,hs,cW,aT,cS,hd,e8,q⟩:=h
 obtain⟨g,rfl⟩:=pU hs
 obtain⟨_,ai,i,aL,fM⟩:=cW
 have g6:=aT.one
 have iz:bo g<=n:=by rw[bo]at cS;omega
 rw[b2]at q
 have q:Q (.aE (b2 bw g d)) H:=q
 obtain⟨f6,f9,eR,li⟩:=b7.fits g fM
 refine⟨_,(aQ (bx (jq jU az (dw (af 0) I) (ao (af 1) aB) (hk:=by omega)))),_,rfl,o,c.o 2,ai,_,_,rfl,aL,T.cl,T.nH,h3 ..,i,slot g,f6,f9,rfl,eR,li,?_⟩
 exact⟨_,I,i,g,v,d,I,I,fM,g6,iz,hd,e8,H,.refl (cF _),q⟩
theorem WH(nb:dD mg)(pd:ek mg "MOST_VALUES" (.int 60))(T:kN K (c.o 1))(F:c1 K "fits" "Many.fits" AS f fd)(jU:hT P w K mg base (2*n+4) "fits" ["self","value"] (fJ c) (jy has bw c n)):cv P w K mg base c8 (2*n+4+1) f fd ["self","value"] (jy has bw c (n+1) (.o 1)):=by
 refine F.fA Ws (fun bl A _ s H vs Q E az h=>?_)
 obtain⟨o,aW,v,d,rfl,hs,cW,aT,cS,hd,e8,q⟩:=h
 obtain⟨g,rfl⟩:=pU hs
 obtain⟨_,ai,i,aL,fM⟩:=cW
 have g6:=aT.one
 have iz:bo g<=n:=by rw[bo]at cS;omega
 rw[b2]at q
 have q:Q (.aE (wq (b2 bw g) d)) H:=q
 obtain⟨f6,f9,eR,li⟩:=b7.fits g fM
 refine⟨_,(aP (cz (gi.pt (ks (i6 (hy (cx jF I nb.gS gP (ao (af 1) (ao (jr (v :=.ty "list") I nb.H6 FX I) aB))))) (lk (b6 kY (cx ep I nb.ec ef (ao (af 1) aB)) (hM pd))))) (aQ (bx gg)) cy)
  (aQ (bx (cx (sM rfl) rfl nb.sT sS (ao (hZ ["part"] [(0,"self")] rfl (by decide+kernel) ⟨rfl,.inl rfl,trivial⟩ (iT (af 1)) (fun _ _ _ _ _=>(eo (i:=0) (show(["part","self"]:List ah).Nodup by decide+kernel))) (fun _ _ _ _ _=>hN) (fun _ _ _ _ _=>(jq jU az (dw (af 1) rfl) (ao (af 0) aB) (hk:=by omega)))) aB))))),_,rfl,.inl ⟨_,_,_,_,rfl,hd.ty,hE K d (by decide),_,rfl,?_⟩⟩
 cases d with
 | lst ds =>
  obtain⟨a,vs,rfl,de,et,kX⟩:=hd
  have cB:=dn.len ds et
  have q:Q (.aE (decide (ds.length<=60)&&ds.all (b2 bw g))) H:=q
  refine dx ⟨_,I,_,_,I,.inl ⟨_,bF de,I⟩,_,_,I,I,_,I,fm (fun dA=>?_) (fun dA=>?_)⟩
  ·rw[gd (by omega),Bool.false_and]at q
   exact⟨H,.refl (cF _),q⟩
  ·rw[fu (by omega),Bool.true_and]at q
   refine .inl ⟨_,I,a,I,⟨_,bF de⟩,fun dC e9=>?_⟩
   refine uP (K:=K) (a:=a) (xs:=vs) (fun k=>V.aE (b2 bw g (ds.getD k .bc))) (fun ae=>∃z,ae=[z,J (.ref o)]) (fC (by omega)) ⟨_,I⟩ e9 (bF de) ?_ ?_
   ·rintro k x ay bO H1 ⟨z,rfl⟩ d3 R b8
    obtain⟨ju,kV,HP⟩:=dn.get ds et ay
    have e:ds.getD k .bc=ju:=by rw[eL,kV];rfl
    rw[e]at b8
    refine⟨_,I,o,c.o 1,ai,_,_,I,d3 _ _ aL,T.cl,T.nH,h3 ..,i,slot g,f6,f9,I,d3 _ _ eR,li,?_⟩
    exact⟨_,I,i,g,x,ju,I,I,b7.keep (fun b u _ e=>d3 b u e) g fM,g6,iz,d4.same d3 ju HP,Bg ds e8 kV,b8 _ ⟨_,I⟩⟩
   ·have e:(List.range vs.length).map (fun k=>V.aE (b2 bw g (ds.getD k .bc)))=(ds.map (b2 bw g)).map V.aE:=by
     rw[cB]
     apply List.ext_getElem
     .simp
     ·intro k al aw
      have bq:k<ds.length:=by simpa using aw
      rw[jE,jE,jE,List.getElem_range,eL,c4 bq];rfl
    rw[e]
    refine⟨dC,ds.map (b2 bw g),I,bF aG,H,.refl (dc e9),?_⟩
    rw[List.all_map]
    exact q
 |_=>exact eC ⟨H,.refl (cF _),q⟩
theorem Bl(bw:D->Bool):∀(fs:List bN)(ds:List D),ds.length≠fs.length->fy bw fs ds=aA
 |[],ds,h=>by
  cases ds with
  |nil=>exact absurd I h
  |cons d ds=>rw[fy];rfl
 |f::fs,[],h=>by rw[fy]
 |f::fs,d::ds,h=>by
  rw[fy]
  show(b2 bw f d&&fy bw fs ds)=aA
  rw[Bl bw fs ds (fun e=>h (by rw[eA,eA,e])),Bool.and_false]
theorem Bm(bw:D->Bool):∀(fs:List bN)(ds:List D),ds.length=fs.length->fy bw fs ds=(List.range fs.length).all fun i=>b2 bw (fs.getD i (.bare 0)) (ds.getD i .bc)
 |[],ds,h=>by
  obtain rfl:ds=[]:=List.length_eq_zero_iff.mp h
  rw[fy];rfl
 |f::fs,[],h=>by cases h
 |f::fs,d::ds,h=>by
  rw[fy]
  show(b2 bw f d&&fy bw fs ds)=_
  rw[Bm bw fs ds (by simpa using h),eA,List.range_succ_eq_map,List.all_cons,List.all_map]
  rfl
theorem VL(nb:dD mg)(T:n3 K (c.t 0))(F:c1 K "fits" "Record.fits" zZ f fd)(jU:hT P w K mg base (2*n+4) "fits" ["self","value"] (fJ c) (jy has bw c n)):cv P w K mg base c8 (2*n+4+1) f fd ["self","value"] (jy has bw c (n+1) (.t 0)):=by
 refine F.fA VA (fun bl A _ s H vs Q E az h=>?_)
 obtain⟨o,aW,v,d,rfl,hs,cW,aT,cS,hd,e8,q⟩:=h
 obtain⟨ns,fs,rfl⟩:=vo hs
 obtain⟨_,ai,a1,a2,os,aL,_,_,al,aw,fM⟩:=cW
 obtain⟨il,kW,g6⟩:=aT.two
 have iz:g8 fs<=n:=by rw[bo]at cS;omega
 have qt:=eQ.len fs fM
 have Cm:=(p5 il).1
 rw[b2]at q
 have q:Q (.aE (Jf (fy bw fs) d)) H:=q
 refine⟨_,(aP (cz (gi.pt (ks (i6 (hy (cx jF I nb.gS gP (ao (af 1) (ao (jr (v :=.ty "tuple") I nb.rR q2 I) aB))))) (lk (b6 tQ (cx ep I nb.ec ef (ao (af 1) aB)) (cx ep I nb.ec ef (ao (dw (af 0) I) aB)))))) (aQ (bx gg)) cy)
  (aQ (bx (cx (sM rfl) rfl nb.sT sS (ao (hZ ["form","part"] [] rfl (by decide+kernel) trivial (Md rfl nb.Dm (ao (dw (af 0) rfl) (ao (af 1) aB))) (fun _ _ _ _ _=>(qb rfl (j0 (eo (i:=0) (show(["form","part"]:List ah).Nodup by decide+kernel)) (j0 (eo (i:=1) (show(["form","part"]:List ah).Nodup by decide+kernel)) p9)))) (fun _ _ _ _ _=>hN) (fun _ _ _ _ _=>(jq jU az (af 0) (ao (af 1) aB) (hk:=by omega)))) aB))))),_,rfl,.inl ⟨_,_,_,_,rfl,hd.ty,hE K d (by decide),_,rfl,?_⟩⟩
 cases d with
 | tup ds =>
  obtain⟨a,vs,rfl,de,et,kX⟩:=hd
  have cB:=dn.len ds et
  have q:Q (.aE (fy bw fs ds)) H:=q
  have Cs:vs.length=ds.length:=cB
  have cc:∀{H1:aq},d7 H H1->gY K H1 a vs:=fun s1=>dK (s1 _ _ de)
  refine dx ⟨_,I,_,_,I,.inr ⟨_,dK de,I⟩,_,I,o,c.t 0,ai,_,_,I,aL,T.cl,T.lN,ps _ _ _ _ ta,_,_,I,.inl ⟨_,bF aw,I⟩,I,_,I,?_⟩
  by_cases dA:ds.length=fs.length
  ·refine yE (by rw[cq,Cs,qt,dA]) ?_
   rw[Bm bw fs ds dA]at q
   refine⟨_,I,o,c.t 0,ai,_,_,I,aL,T.cl,T.lN,ps _ _ _ _ ta,_,I,a2,a,_,_,I,bF aw,dK de,fun dC e9=>?_⟩
   refine Ly (fun k=>V.aE (b2 bw (fs.getD k (.bare 0)) (ds.getD k .bc))) (fun ae=>∃du dy,ae=[du,dy]) (by rw[cq];omega) ⟨_,_,I⟩ e9 (bF aw) (dK de) ?_ ?_
   ·rintro k x y ay bV bO H1 p3 ⟨du,dy,rfl⟩ d3 om R b8
    rw[e4]at ay
    obtain⟨tR,Ht,rfl⟩:=Uf.mp ay
    obtain⟨aW,vZ,x4⟩:=eQ.get fs fM Ht
    obtain⟨ju,kV,HR⟩:=dn.get ds et bV
    obtain⟨ov,yl⟩:=g6.get vZ
    have aU:fs.getD k (.bare 0)=aW:=by rw[eL,vZ];rfl
    have ba:ds.getD k .bc=ju:=by rw[eL,kV];rfl
    rw[aU,ba]at b8
    have ub:=d3.trans (dc (o:=cZ.tup [V.ref tR,y]) om)
    obtain⟨f6,f9,eR,li⟩:=b7.fits aW (b7.keep (fun b u _ e=>ub b u e) aW x4)
    refine⟨p3,_,I,dK aG,I,_,_,I,_,_,I,I,?_⟩
    refine⟨_,I,tR,slot aW,f6,f9,I,eR,li,?_⟩
    exact⟨_,I,tR,aW,y,ju,I,I,b7.keep (fun b u _ e=>ub b u e) aW x4,ov,by omega,d4.same ub ju HR,Bg ds e8 kV,b8 _ _ ⟨_,_,rfl⟩ (cF _)⟩
   ·intro H' jg ix
    have e:(List.range (min (os.map V.ref).length vs.length)).map (fun k=>V.aE (b2 bw (fs.getD k (.bare 0)) (ds.getD k .bc)))=((List.range fs.length).map fun k=>b2 bw (fs.getD k (.bare 0)) (ds.getD k .bc)).map V.aE:=by
     rw[cq,Cs,qt,dA,Nat.min_self,fV];rfl
    rw[e]at ix
    refine⟨dC,_,I,bF ix,H,.refl jg,?_⟩
    rw[List.all_map]
    exact q
  ·rw[Bl bw fs ds dA]at q
   have kc:¬(V.int ((vs.length:Nat):Int)=V.int (((os.map V.ref).length:Nat):Int)):=fun e=>dA (by have e:=V.int.inj e;rw[cq]at e;omega)
   rw[gd kc]
   exact eC ⟨H,.refl (cF _),q⟩
 |_=>exact eC ⟨H,.refl (cF _),q⟩
noncomputable def MT(fw:D->List Bool):Fin 4->D->List Bool
 |1,.aE b=>[b]
 |2,.int i=>ha i
 |3,d=>fw d
 |_,_=>[]
noncomputable def H8(g:D->List Bool):D->List Bool
 |.tup [x]=>au::g x
 |_=>[aA]
noncomputable def aed(g:D->List Bool):D->List Bool
 |.lst ds=>(ds.map fun d=>au::g d).flatten++[aA]
 |_=>[]
noncomputable def OS(k:Fin 3)(g:D->List Bool)(d:D):List Bool:=if k=0 then H8 g d else if k=1 then aed g d else(g d).map (!·)
noncomputable def ahq(a b:Int):D->List Bool
 |.int i=>dW (i-a).toNat (aF (b-a).toNat)
 |_=>[]
noncomputable def Ov(s:ah):D->List Bool
 |.str t=>(t.cps.toList.map fun c=>au::dW (s.cps.toList.idxOf c) (aF (s.length-1))).flatten++[aA]
 |_=>[]
noncomputable def ait(g:List D->List Bool):D->List Bool
 |.tup ds=>g ds
 |_=>[]
noncomputable def ZR(g:ah->D->List Bool):D->List Bool
 |.tup [.str n,x]=>g n x
 |_=>[]
mutual
noncomputable def bD(fw:D->List Bool):bN->D->List Bool
 |.bare k,d=>MT fw k d
 |.sp a b,d=>ahq a b d
 |.le s,d=>Ov s d
 |.one k f,d=>OS k (bD fw f) d
 |.two k ns fs,d=>if k=0 then ait (hH fw fs) d else ZR (rN fw fs ns 0 (fs.length-1)) d
noncomputable def hH(fw:D->List Bool):List bN->List D->List Bool
 |[],_=>[]
 |f::fs,ds=>match ds with|[]=>[]|d::ds=>bD fw f d++hH fw fs ds
noncomputable def rN(fw:D->List Bool):List bN->List ah->Nat->Nat->ah->D->List Bool
 |[],_,_,_,_,_=>[]
 |f::fs,ns,k,m,n,x=>if ns.head?=J n then dW k (aF m)++bD fw f x else rN fw fs ns.tail (k+1) m n x
end
inductive QP(has:fI->Bool)(bw:D->Bool)(fw:D->List Bool)(c:dF)(n:Nat)(i:fI)(vs:List V)(H:aq)(Q:bG)(E:bT):Prop where
 |mk (o:ag) (f:bN) (v:V) (d:D) (bg:vs=[.ref o,v]) (al:slot f=i) (aw:b7 c [] H f o) (bq:kg has f) (b4:bo f<=n) (eb:d4 H d v) (ij:b2 bw f d=au) (oj:(bD fw f d).length<=15000000) (pe:Q (.str (aR (bD fw f d))) H):QP has bw fw c n i vs H Q E
def jP(has:fI->Bool)(bw:D->Bool)(fw:D->List Bool)(c:dF)(n:Nat)(i:fI):b0:=fun vs H Q E=>QP has bw fw c n i vs H Q E
theorem b7.written{c:dF}(f:bN){o:ag}(h:b7 c X H f o):∃ai fs,H o=J (.ins (fJ c (slot f)) ai fs)/\fs.lookup (ah.ofString "written")=av :=
 b7.ins (m:=ah.ofString "written") (by decide+kernel) (by decide+kernel) (by decide+kernel) (by decide+kernel) (by decide+kernel) (by decide+kernel) f h
theorem vt:ah.ofString "1"=aR [au]:=by decide+kernel
theorem Bs:ah.ofString "0"=aR [aA]:=by decide+kernel
theorem UG(F:c1 K "written" "Nothing.written" Ag f fd):cv P w K mg base c8 1 f fd ["self","value"] (jP has bw fw c n (.b 0)):=by
 refine F.fA UE (fun bl A _ s H vs Q E az h=>?_)
 obtain⟨o,aW,v,d,rfl,hs,cW,aT,cS,hd,aH,aC,q⟩:=h
 have:=ni hs
 subst this
 rw[bD]at q
 refine⟨_,(aQ (bx cT)),H,.refl (cF _),?_⟩
 cases d<;>exact q
theorem U3(F:c1 K "written" "Truth.written" Ap f fd):cv P w K mg base c8 1 f fd ["self","value"] (jP has bw fw c n (.b 1)):=by
 refine F.fA UX (fun bl A _ s H vs Q E az h=>?_)
 obtain⟨o,aW,v,d,rfl,hs,cW,aT,cS,hd,aH,aC,q⟩:=h
 have:=ni hs
 subst this
 rw[bD]at q
 rw[b2]at aH
 cases d with
 |aE b =>
  obtain rfl:v=.aE b:=hd
  refine⟨_,(aQ (bx (n7 (hy (af 1)) cT cT))),_,I,?_⟩
  refine⟨b,I,?_⟩
  cases b with
  |true=>exact eC ⟨H,.refl (cF _),q⟩
  |false=>exact dx ⟨H,.refl (cF _),q⟩
 |_=>cases aH
theorem UO(F:c1 K "written" "Whole.written" Ao f fd)(qO:bp P w K mg base 3 "whole_row" ["n"] AV):cv P w K mg base c8 4 f fd ["self","value"] (jP has bw fw c n (.b 2)):=by
 refine F.fA UW (fun bl A _ s H vs Q E az h=>?_)
 obtain⟨o,aW,v,d,rfl,hs,cW,aT,cS,hd,aH,aC,q⟩:=h
 have:=ni hs
 subst this
 rw[bD]at q
 rw[b2]at aH
 cases d with
 |int i =>
  obtain rfl:v=.int i:=hd
  exact⟨_,(aQ (bx (bX qO az (ao (af 1) aB)))),_,I,i,I,lr aH,H,.refl (cF _),q⟩
 |_=>cases aH
theorem U4(T:vd K c.s)(F:c1 K "written" "Span.written" zH f fd)(nY:bp P w K mg base 2 "fixed_row" ["n","most"] y9):cv P w K mg base c8 3 f fd ["self","value"] (jP has bw fw c n .s):=by
 refine F.fA Va (fun bl A _ s H vs Q E az h=>?_)
 obtain⟨o,aW,v,d,rfl,hs,cW,aT,cS,hd,aH,aC,q⟩:=h
 obtain⟨a,b,rfl⟩:=FT hs
 obtain⟨_,ai,aL⟩:=cW
 rw[bD]at q aC
 rw[b2]at aH
 cases d with
 |int i =>
  obtain rfl:v=.int i:=hd
  have aH:a<=i/\i<=b:=lr aH
  have aC:(dW (i-a).toNat (aF (b-a).toNat)).length<=15000000:=aC
  rw[iM]at aC
  have aU:((i-a).toNat:Int)=i-a:=Int.toNat_of_nonneg (by omega)
  have ba:((b-a).toNat:Int)=b-a:=Int.toNat_of_nonneg (by omega)
  refine⟨_,(aQ (bx (bX nY az (ao (aS gb (af 1) (dw (af 0) I)) (ao (aS gb (dw (af 0) I) (dw (af 0) I)) aB))))),?_⟩
  try dsimp only[cG,cH,cI,cJ]
  refine⟨_,I,_,I,o,c.s,ai,_,_,I,aL,T.cl,T.mS,h3 ..,_,_,I,I,_,I,o,c.s,ai,_,_,I,aL,T.cl,T.CA,ps _ _ _ _ Hf,_,I,o,c.s,ai,_,_,I,aL,T.cl,T.mS,h3 ..,_,_,I,I,(i-a).toNat,(b-a).toNat,by rw[aU,ba];rfl,by omega,by omega,H,.refl (cF _),q⟩
 |_=>cases aH
theorem U5(nb:dD mg)(T:kN K (c.o 0))(F:c1 K "written" "Maybe.written" Aq f fd)(la:hT P w K mg base (2*n+4) "written" ["self","value"] (fJ c) (jP has bw fw c n)):cv P w K mg base c8 (2*n+4+1) f fd ["self","value"] (jP has bw fw c (n+1) (.o 0)):=by
 refine F.fA UY (fun bl A _ s H vs Q E az h=>?_)
 obtain⟨o,aW,v,d,rfl,hs,cW,aT,cS,hd,aH,aC,q⟩:=h
 obtain⟨g,rfl⟩:=pU hs
 obtain⟨_,ai,i,aL,fM⟩:=cW
 have g6:=aT.one
 have iz:bo g<=n:=by rw[bo]at cS;omega
 rw[b2]at aH
 rw[bD]at q aC
 have aH:rA (b2 bw g) d=au:=aH
 have q:Q (.str (aR (H8 (bD fw g) d))) H:=q
 have aC:(H8 (bD fw g) d).length<=15000000:=aC
 obtain⟨f6,f9,eR,li⟩:=b7.written g fM
 cases d with
 | tup ds =>
  obtain⟨a,vs,rfl,de,et,kX⟩:=hd
  have cB:=dn.len ds et
  refine⟨_,(aQ (bx (n7 (b6 dk (cx ep I nb.ec ef (ao (af 1) aB)) aD) cT (aS ed cT (jq la az (dw (af 0) I) (ao (cV cX (af 1) aD) aB) (hk:=by omega)))))),?_⟩
  try dsimp only[cG,cH,cI,cJ]
  refine⟨_,I,_,_,I,.inr ⟨_,dK de,I⟩,I,_,I,?_⟩
  cases ds with
  |nil =>
   obtain rfl:vs=[]:=et
   exact eC ⟨H,.refl (cF _),q⟩
  | cons x r =>
   cases r with
   |cons y r=>cases aH
   |nil =>
    obtain⟨y,r,rfl,ay,dH⟩:=et
    obtain rfl:r=[]:=dH
    have aC:(au::bD fw g x).length<=15000000:=aC
    rw[eA]at aC
    refine dx ⟨_,I,o,c.o 0,ai,_,_,I,aL,T.cl,T.nH,h3 ..,i,slot g,f6,f9,I,eR,li,?_⟩
    refine⟨_,I,.inl (.inr ⟨_,_,_,_,I,I,dK de,dz (j:=0) I,i,g,y,x,I,I,fM,g6,iz,ay,aH,by omega,.inr ⟨_,_,rfl,rfl,iE ?_,H,.refl (cF _),?_⟩⟩)⟩
    .rw[vt,d8,d8];simp only[eA,List.length_nil];omega
    .rw[vt,kz];exact q
 |_=>cases aH
theorem UP(T:kN K (c.o 2))(F:c1 K "written" "Turned.written" Ai f fd)(n0:bp P w K mg base 1 "turned_row" ["row"] xi)(la:hT P w K mg base (2*n+4) "written" ["self","value"] (fJ c) (jP has bw fw c n)):cv P w K mg base c8 (2*n+4+1) f fd ["self","value"] (jP has bw fw c (n+1) (.o 2)):=by
 refine F.fA UI (fun bl A _ s H vs Q E az h=>?_)
 obtain⟨o,aW,v,d,rfl,hs,cW,aT,cS,hd,aH,aC,q⟩:=h
 obtain⟨g,rfl⟩:=pU hs
 obtain⟨_,ai,i,aL,fM⟩:=cW
 have g6:=aT.one
 have iz:bo g<=n:=by rw[bo]at cS;omega
 rw[b2]at aH
 rw[bD]at q aC
 have aH:b2 bw g d=au:=aH
 have q:Q (.str (aR ((bD fw g d).map (!·)))) H:=q
 have aC:((bD fw g d).map (!·)).length<=15000000:=aC
 rw[cq]at aC
 obtain⟨f6,f9,eR,li⟩:=b7.written g fM
 refine⟨_,(aQ (bx (bX n0 az (ao (jq la az (dw (af 0) I) (ao (af 1) aB) (hk:=by omega)) aB) (hk:=by omega)))),?_⟩
 try dsimp only[cG,cH,cI,cJ]
 refine⟨_,I,o,c.o 2,ai,_,_,I,aL,T.cl,T.nH,h3 ..,i,slot g,f6,f9,I,eR,li,?_⟩
 exact⟨_,I,i,g,v,d,I,I,fM,g6,iz,hd,aH,aC,_,I,by omega,H,.refl (cF _),q⟩
theorem FG{ls:List (List Bool)}{l:List Bool}(h:l∈ls):l.length<=ls.flatten.length:=by
 induction ls with
 |nil=>cases h
 |cons a r bQ =>
  rw[lx,ee]
  rcases cR.mp h with rfl|h
  .omega
  .have:=bQ h;omega
theorem FE(ls:List (List Bool)):((ls.map aR).map (·.length)).sum+(ls.map aR).length*(ah.ofString "").length=ls.flatten.length:=by
 have e:(ah.ofString "").length=0:=by decide+kernel
 rw[e,Nat.mul_zero,Nat.add_zero,fV,List.length_flatten]
 congr 1
 exact nd fun l _=>d8 l
theorem Fp(fw:D->List Bool):∀(fs:List bN)(ds:List D),ds.length=fs.length->hH fw fs ds=((List.range fs.length).map fun i=>bD fw (fs.getD i (.bare 0)) (ds.getD i .bc)).flatten
 |[],ds,h=>by rw[hH];rfl
 |f::fs,[],h=>by cases h
 |f::fs,d::ds,h=>by
  rw[hH]
  show bD fw f d++hH fw fs ds=_
  rw[Fp fw fs ds (by simpa using h),eA,List.range_succ_eq_map,gF,lx,fV]
  rfl
theorem Vn(nb:dD mg)(T:kN K (c.o 1))(F:c1 K "written" "Many.written" zK f fd)(la:hT P w K mg base (2*n+4) "written" ["self","value"] (fJ c) (jP has bw fw c n)):cv P w K mg base c8 (2*n+4+1) f fd ["self","value"] (jP has bw fw c (n+1) (.o 1)):=by
 refine F.fA Vd (fun bl A _ s H vs Q E az h=>?_)
 obtain⟨o,aW,v,d,rfl,hs,cW,aT,cS,hd,aH,aC,q⟩:=h
 obtain⟨g,rfl⟩:=pU hs
 obtain⟨_,ai,i,aL,fM⟩:=cW
 have g6:=aT.one
 have iz:bo g<=n:=by rw[bo]at cS;omega
 rw[b2]at aH
 rw[bD]at q aC
 have aH:wq (b2 bw g) d=au:=aH
 obtain⟨f6,f9,eR,li⟩:=b7.written g fM
 cases d with
 | lst ds =>
  obtain⟨a,vs,rfl,de,et,kX⟩:=hd
  have cB:=dn.len ds et
  have aH:(decide (ds.length<=60)&&ds.all (b2 bw g))=au:=aH
  obtain⟨B4,gQ⟩:=nc.mp aH
  have gQ:=i5.mp gQ
  have q:Q (.str (aR ((ds.map fun d=>au::bD fw g d).flatten++[aA]))) H:=q
  have aC:((ds.map fun d=>au::bD fw g d).flatten++[aA]).length<=15000000:=aC
  rw[ee]at aC
  refine⟨_,(aQ (bx (aS ed (jW PySem.F.plainAttrs_str PySem.F.slot_str_join PySem.F.type_str_join sO cT (ao (hZ ["part"] [(0,"self")] I (by decide+kernel) ⟨I,.inl I,trivial⟩ (iT (af 1)) (fun _ _ _ _ _=>(eo (i:=0) (show(["part","self"]:List ah).Nodup by decide+kernel))) (fun _ _ _ _ _=>hN) (fun _ _ _ _ _=>(aS ed cT (jq la az (dw (af 1) rfl) (ao (af 0) aB) (hk:=by omega))))) aB)) cT))),?_⟩
  try dsimp only[cG,cH,cI,cJ]
  refine⟨I,.inl ⟨_,I,a,I,⟨_,bF de⟩,fun dC e9=>?_⟩⟩
  refine uP (K:=K) (a:=a) (xs:=vs) (fun k=>V.str (aR (au::bD fw g (ds.getD k .bc)))) (fun ae=>∃z,ae=[z,J (.ref o)]) (fC (by omega)) ⟨_,I⟩ e9 (bF de) ?_ ?_
  ·rintro k x ay bO H1 ⟨z,rfl⟩ d3 R b8
   obtain⟨ju,kV,HP⟩:=dn.get ds et ay
   have e:ds.getD k .bc=ju:=by rw[eL,kV];rfl
   rw[e]at b8
   have hm:ju∈ds:=hY kV
   have aO:=FG (List.mem_map_of_mem (f:=fun d=>au::bD fw g d) hm)
   rw[eA]at aO
   refine⟨_,I,o,c.o 1,ai,_,_,I,d3 _ _ aL,T.cl,T.nH,h3 ..,i,slot g,f6,f9,I,d3 _ _ eR,li,?_⟩
   refine⟨_,I,i,g,x,ju,I,I,b7.keep (fun b u _ e=>d3 b u e) g fM,g6,iz,d4.same d3 ju HP,gQ _ hm,by omega,.inr ⟨_,_,rfl,rfl,iE ?_,?_⟩⟩
   .rw[vt,d8,d8];simp only[eA,List.length_nil];omega
   .rw[vt,kz];exact b8 _ ⟨_,I⟩
  ·have e:(List.range vs.length).map (fun k=>V.str (aR (au::bD fw g (ds.getD k .bc))))=((ds.map fun d=>au::bD fw g d).map aR).map V.str:=by
    rw[cB]
    apply List.ext_getElem
    .simp
    ·intro k al aw
     have bq:k<ds.length:=by simpa using aw
     rw[jE,jE,jE,jE,List.getElem_range,eL,c4 bq];rfl
   rw[e]
   refine⟨_,dC,_,I,I,bF aG,by rw[FE];omega,.inr ⟨_,_,rfl,rfl,iE ?_,H,.refl (dc e9),?_⟩⟩
   .rw[qV,Bs,d8,d8];omega
   .rw[qV,Bs,kz];exact q
 |_=>cases aH
theorem UQ(nb:dD mg)(T:n3 K (c.t 0))(F:c1 K "written" "Record.written" Ak f fd)(la:hT P w K mg base (2*n+4) "written" ["self","value"] (fJ c) (jP has bw fw c n)):cv P w K mg base c8 (2*n+4+1) f fd ["self","value"] (jP has bw fw c (n+1) (.t 0)):=by
 refine F.fA UK (fun bl A _ s H vs Q E az h=>?_)
 obtain⟨o,aW,v,d,rfl,hs,cW,aT,cS,hd,aH,aC,q⟩:=h
 obtain⟨ns,fs,rfl⟩:=vo hs
 obtain⟨_,ai,a1,a2,os,aL,_,_,al,aw,fM⟩:=cW
 obtain⟨il,kW,g6⟩:=aT.two
 have iz:g8 fs<=n:=by rw[bo]at cS;omega
 have qt:=eQ.len fs fM
 have Cm:=(p5 il).1
 rw[b2]at aH
 rw[bD]at q aC
 have aH:Jf (fy bw fs) d=au:=aH
 cases d with
 | tup ds =>
  obtain⟨a,vs,rfl,de,et,kX⟩:=hd
  have Cs:=dn.len ds et
  have aH:fy bw fs ds=au:=aH
  have dA:ds.length=fs.length:=Classical.byContradiction fun aZ=>by rw[Bl bw fs ds aZ]at aH;cases aH
  rw[Bm bw fs ds dA]at aH
  have gQ:=i5.mp aH
  have q:Q (.str (aR (hH fw fs ds))) H:=q
  have aC:(hH fw fs ds).length<=15000000:=aC
  rw[Fp fw fs ds dA]at q aC
  refine⟨_,(aQ (bx (jW PySem.F.plainAttrs_str PySem.F.slot_str_join PySem.F.type_str_join sO cT (ao (hZ ["form","part"] [] I (by decide+kernel) trivial (Md I nb.Dm (ao (dw (af 0) I) (ao (af 1) aB))) (fun _ _ _ _ _=>(qb I (j0 (eo (i:=0) (show(["form","part"]:List ah).Nodup by decide+kernel)) (j0 (eo (i:=1) (show(["form","part"]:List ah).Nodup by decide+kernel)) p9)))) (fun _ _ _ _ _=>hN) (fun _ _ _ _ _=>(jq la az (af 0) (ao (af 1) aB) (hk:=by omega)))) aB)))),?_⟩
  try dsimp only[cG,cH,cI,cJ]
  refine⟨I,_,I,o,c.t 0,ai,_,_,I,aL,T.cl,T.lN,ps _ _ _ _ ta,_,I,a2,a,_,_,I,bF aw,dK de,fun dC e9=>?_⟩
  refine Ly (fun k=>V.str (aR (bD fw (fs.getD k (.bare 0)) (ds.getD k .bc)))) (fun ae=>∃du dy,ae=[du,dy]) (by rw[cq];omega) ⟨_,_,I⟩ e9 (bF aw) (dK de) ?_ ?_
  ·rintro k x y ay bV bO H1 p3 ⟨du,dy,rfl⟩ d3 om R b8
   rw[e4]at ay
   obtain⟨tR,Ht,rfl⟩:=Uf.mp ay
   obtain⟨aW,vZ,x4⟩:=eQ.get fs fM Ht
   obtain⟨ju,kV,HR⟩:=dn.get ds et bV
   obtain⟨ov,yl⟩:=g6.get vZ
   have aU:fs.getD k (.bare 0)=aW:=by rw[eL,vZ];rfl
   have ba:ds.getD k .bc=ju:=by rw[eL,kV];rfl
   have hk:k∈List.range fs.length:=List.mem_range.mpr (i4.mp vZ).1
   have NR:=gQ k hk
   have aO:=FG (List.mem_map_of_mem (f:=fun i=>bD fw (fs.getD i (.bare 0)) (ds.getD i .bc)) hk)
   rw[aU,ba]at b8 NR aO
   have ub:=d3.trans (dc (o:=cZ.tup [V.ref tR,y]) om)
   obtain⟨f6,f9,eR,li⟩:=b7.written aW (b7.keep (fun b u _ e=>ub b u e) aW x4)
   refine⟨p3,_,I,dK aG,I,_,_,I,_,_,I,I,?_⟩
   refine⟨_,I,tR,slot aW,f6,f9,I,eR,li,?_⟩
   exact⟨_,I,tR,aW,y,ju,I,I,b7.keep (fun b u _ e=>ub b u e) aW x4,ov,by omega,d4.same ub ju HR,NR,by omega,b8 _ _ ⟨_,_,rfl⟩ (cF _)⟩
  ·intro H' jg ix
   have e:(List.range (min (os.map V.ref).length vs.length)).map (fun k=>V.str (aR (bD fw (fs.getD k (.bare 0)) (ds.getD k .bc))))=(((List.range fs.length).map fun k=>bD fw (fs.getD k (.bare 0)) (ds.getD k .bc)).map aR).map V.str:=by
    rw[cq,Cs,qt,dA,Nat.min_self,fV,fV];rfl
   rw[e]at ix
   refine⟨_,dC,_,I,I,bF ix,by rw[FE];omega,H,.refl jg,?_⟩
   rw[qV];exact q
 |_=>cases aH
noncomputable def sees(l:List Bool)(t:Bool)(j:Nat):List Bool:=(l.map (xor t)).drop j
theorem sN{l s:List Bool}(h:(r++s) <+: sees l t j):s <+: sees l t (j+r.length):=by
 obtain⟨z,h⟩:=h
 refine⟨z,?_⟩
 unfold sees at h ⊢
 rw[<-List.drop_drop,<-h,h9,List.drop_left]
theorem pV{l s:List Bool}(h:(r++s) <+: sees l t j):r <+: sees l t j:=(List.prefix_append r s).trans h
theorem sI{l:List Bool}{b:Bool}(h:(b::r) <+: sees l t j):∃i9,l[j]?=J i9/\xor t i9=b:=by
 obtain⟨z,h⟩:=h
 have bg:(sees l t j)[0]?=J b:=by rw[<-h];rfl
 unfold sees at bg
 rw[List.getElem?_drop,Nat.add_zero,e4]at bg
 obtain⟨i9,aU,ba⟩:=Uf.mp bg
 exact⟨i9,aU,ba⟩
theorem qZ{l:List Bool}(h:r <+: sees l t j)(cw:j<=l.length):j+r.length<=l.length:=by
 have:=h.length_le
 unfold sees at this
 rw[kv,cq]at this
 omega
theorem X0{l:List Bool}(h:(r.map (!·)) <+: sees l t j):r <+: sees l (!t) j:=by
 obtain⟨z,h⟩:=h
 refine⟨z.map (!·),?_⟩
 unfold sees at h ⊢
 have:=congrArg (List.map (!·)) h
 rw[gf,fV,List.map_drop,fV]at this
 have e:(fun x:Bool=>!x) ∘ (fun x=>!x)=id:=by funext x;cases x<;>rfl
 have ba:(fun x:Bool=>!x) ∘ (xor t)=xor (!t):=by funext x;cases x<;>cases t<;>rfl
 rw[e,List.map_id,ba]at this
 exact this
theorem Fl{l:List Bool}(h:r <+: sees l t j):((l.drop j).take r.length).map (xor t)=r:=by
 obtain⟨z,h⟩:=h
 unfold sees at h
 rw[List.map_take,List.map_drop,<-h,List.take_left]
theorem b7.draw{c:dF}(f:bN){o:ag}(h:b7 c X H f o):∃ai fs,H o=J (.ins (fJ c (slot f)) ai fs)/\fs.lookup (ah.ofString "draw")=av :=
 b7.ins (m:=ah.ofString "draw") (by decide+kernel) (by decide+kernel) (by decide+kernel) (by decide+kernel) (by decide+kernel) (by decide+kernel) f h
theorem dO.alloc{X:eP}(m:dO p H H')(e:H' p=J o)(h:∀x,x∈X->∃o,H x=J o):∀x,x∈X->∃o,H' x=J o:=fun x ay=>by
 by_cases z:x=p
 .exact⟨o,by rw[z];exact e⟩
 ·obtain⟨u,da⟩:=h x ay
  exact⟨u,m.k x u z da⟩
theorem b7.jN{c:dF}(m:dO p H H')(f:bN){o:ag}(h:b7 c [p] H f o):b7 c [p] H' f o:=b7.keep (fun b u n e=>m.k b u (fun z=>n (ft.mpr z)) e) f h
inductive Po(has:fI->Bool)(bw:D->Bool)(fw:D->List Bool)(c:dF)(C:ag)(n:Nat)(i:fI)(vs:List V)(H:aq)(Q:bG)(E:bT):Prop where
 |mk (o p ai:ag) (f:bN) (d:D) (l:List Bool) (j:Nat) (t e:Bool) (X:eP) (bg:vs=[.ref o,.ref p]) (al:slot f=i) (aw:b7 c [p] H f o) (bq:kg has f) (b4:bo f<=n) (eb:H p=J (fe C ai l j t e)) (ij:l.length<=16000000) (oj:j<=l.length) (pe:p∈X) (rf:(∀x,x∈X->∃o,H x=J o)) (abl:b2 bw f d=au) (B3:bD fw f d <+: sees l t j) (nu:∀v H',dO p H H'->cQ X H' d v->H' p=J (fe C ai l (j+(bD fw f d).length) t e)->Q v H'):Po has bw fw c C n i vs H Q E
def ki(has:fI->Bool)(bw:D->Bool)(fw:D->List Bool)(c:dF)(C:ag)(n:Nat)(i:fI):b0:=fun vs H Q E=>Po has bw fw c C n i vs H Q E
theorem dO.step{C ai:ag}{l:List Bool}{j':Nat}{e t' e':Bool}(h:H p=J (fe C ai l j t e)):dO p H (upd H p (fe C ai l j' t' e')):=dO.move h
theorem XS(F:c1 K "draw" "Nothing.draw" zJ f fd):cv P w K mg base c8 1 f fd ["self","source"] (ki has bw fw c C n (.b 0)):=by
 refine F.fA Vc (fun bl A _ s H vs Q E az h=>?_)
 obtain⟨o,p,ai,aW,d,l,j,t,e,X,rfl,hs,cW,aT,cS,c9,aC,cw,eZ,dY,aH,dH,q⟩:=h
 have:=ni hs
 subst this
 rw[bD]at q
 rw[b2]at aH
 cases d with
 |bc=>exact⟨_,(aQ (bx mv)),H,.refl (cF _),q _ _ (dO.refl _ _) I c9⟩
 |_=>cases aH
theorem Zm(eg:ff K C)(F:c1 K "draw" "Truth.draw" AF f fd)(gN:fZ P w K mg base 1 C "draw" ["self"] (oM C)):cv P w K mg base c8 3 f fd ["self","source"] (ki has bw fw c C n (.b 1)):=by
 refine F.fA VV (fun bl A _ s H vs Q E az h=>?_)
 obtain⟨o,p,ai,aW,d,l,j,t,e,X,rfl,hs,cW,aT,cS,c9,aC,cw,eZ,dY,aH,dH,q⟩:=h
 have:=ni hs
 subst this
 rw[bD]at q dH
 rw[b2]at aH
 cases d with
 |aE b =>
  have dH:[b] <+: sees l t j:=dH
  obtain⟨i9,gn,fQ⟩:=sI dH
  refine⟨_,(aQ (bx (gZ dk (ig gN eg az (af 1)) aD))),?_⟩
  try dsimp only[cG,cH,cI,cJ]
  refine⟨_,I,p,ai,_,I,c9,lA _ _ _ _ (by decide+kernel) (by decide+kernel) (by decide+kernel),?_⟩
  refine⟨p,ai,l,j,t,e,i9,I,⟨_,c9⟩,aC,gn,?_⟩
  have M:=dO.step (j':=j+1) (t':=t) (e':=e) c9
  rw[fQ]
  refine⟨I,_,M.sub aG,?_⟩
  have eM:decide (V.int ((b.toNat:Nat):Int)=V.int 1)=b:=by cases b<;>rfl
  rw[eM]
  exact q _ _ M I aG
 |_=>cases aH
theorem TC(T:vd K c.s)(F:c1 K "draw" "Span.draw" AP f fd)(nX:bp P w K mg base 2 "draw_fixed" ["source","most"] (y8 C)):cv P w K mg base c8 4 f fd ["self","source"] (ki has bw fw c C n .s):=by
 refine F.fA Wo (fun bl A _ s H vs Q E az h=>?_)
 obtain⟨o,p,ai,aW,d,l,j,t,e,X,rfl,hs,cW,aT,cS,c9,aC,cw,eZ,dY,aH,dH,q⟩:=h
 obtain⟨a,b,rfl⟩:=FT hs
 obtain⟨_,j1,aL⟩:=cW
 rw[bD]at q dH
 rw[b2]at aH
 cases d with
 |int v =>
  have aH:a<=v/\v<=b:=lr aH
  have dH:dW (v-a).toNat (aF (b-a).toNat) <+: sees l t j:=dH
  have q:∀(w:V)(H':aq),dO p H H'->cQ X H' (.int v) w->H' p=J (fe C ai l (j+(dW (v-a).toNat (aF (b-a).toNat)).length) t e)->Q w H':=q
  rw[iM]at q
  have aU:((v-a).toNat:Int)=v-a:=Int.toNat_of_nonneg (by omega)
  have ba:((b-a).toNat:Int)=b-a:=Int.toNat_of_nonneg (by omega)
  have qp:=qZ dH cw
  have oA:=Fl dH
  rw[iM]at qp oA
  have M:=dO.step (j':=j+aF (b-a).toNat) (t':=t) (e':=e) c9
  refine⟨_,(aQ (bx (aS ed (dw (af 0) I) (bX nX az (ao (af 1) (ao (aS gb (dw (af 0) I) (dw (af 0) I)) aB)))))),?_⟩
  try dsimp only[cG,cH,cI,cJ]
  refine⟨_,I,o,c.s,j1,_,_,I,aL,T.cl,T.mS,h3 ..,_,I,_,I,o,c.s,j1,_,_,I,aL,T.cl,T.CA,ps _ _ _ _ Hf,_,I,o,c.s,j1,_,_,I,aL,T.cl,T.mS,h3 ..,_,_,I,I,p,ai,l,j,(v-a).toNat,(b-a).toNat,t,e,by rw[ba];rfl,c9,aC,by omega,qp,oA,.inl ⟨_,_,rfl,rfl,_,M.sub aG,?_⟩⟩
  exact q _ _ M (by show V.int _=V.int _;congr 1;omega) aG
 |_=>cases aH
theorem YB(eg:ff K C)(T:kN K (c.o 2))(F:c1 K "draw" "Turned.draw" zU f fd)(lY:fZ P w K mg base 1 C "turn" ["self"] (zg C))(lU:hT P w K mg base (2*n+4) "draw" ["self","source"] (fJ c) (ki has bw fw c C n)):cv P w K mg base c8 (2*n+4+1) f fd ["self","source"] (ki has bw fw c C (n+1) (.o 2)):=by
 refine F.fA Kn (fun bl A _ s H vs Q E az h=>?_)
 obtain⟨o,p,ai,aW,d,l,j,t,e,X,rfl,hs,cW,aT,cS,c9,aC,cw,eZ,dY,aH,dH,q⟩:=h
 obtain⟨g,rfl⟩:=pU hs
 obtain⟨nI,j1,i,aL,fM⟩:=cW
 have g6:=aT.one
 have iz:bo g<=n:=by rw[bo]at cS;omega
 rw[b2]at aH
 rw[bD]at q dH
 have aH:b2 bw g d=au:=aH
 have dH:(bD fw g d).map (!·) <+: sees l t j:=dH
 have q:∀(w:V)(H':aq),dO p H H'->cQ X H' d w->H' p=J (fe C ai l (j+((bD fw g d).map (!·)).length) t e)->Q w H':=q
 rw[cq]at q
 have op:o≠p:=fun z=>nI (ft.mpr z)
 have gw:=dO.step (j':=j) (t':=!t) (e':=e) c9
 have rh:=b7.jN gw g fM
 obtain⟨f6,f9,eR,li⟩:=b7.draw g rh
 refine⟨_,(aP (ih (ig lY eg az (af 1) (hk:=by omega)))
  (aP (bZ 2 Kn.bB (jq lU az (dw (af 0) rfl) (ao (af 1) aB) (hk:=by omega)))
  (aP (ih (ig lY eg az (af 1) (hk:=by omega)))
  (aQ (bx (af 2)))))),?_⟩
 try dsimp only[cG,cH,cI,cJ]
 refine⟨_,I,p,ai,_,I,c9,lA _ _ _ _ (by decide+kernel) (by decide+kernel) (by decide+kernel),p,ai,l,j,t,e,0,I,c9,?_⟩
 refine⟨_,I,o,c.o 2,j1,_,_,I,gw.k _ _ op aL,T.cl,T.nH,h3 ..,i,slot g,f6,f9,I,eR,li,?_⟩
 refine⟨_,I,i,p,ai,g,d,l,j,!t,e,X,I,I,rh,g6,iz,aG,aC,cw,eZ,dO.alloc gw aG dY,aH,X0 dH,fun v ax M2 dQ gJ=>?_⟩
 have jk:=dO.step (j':=j+(bD fw g d).length) (t':=t) (e':=e) gJ
 refine⟨_,I,p,ai,_,I,gJ,lA _ _ _ _ (by decide+kernel) (by decide+kernel) (by decide+kernel),p,ai,l,_,!t,e,0,I,gJ,?_⟩
 rw[Bool.not_not]
 have M:=(gw.trans M2).trans jk
 exact⟨_,I,_,M.sub aG,q _ _ M (cQ.keep (fun b u n e=>jk.k b u (fun z=>n (by rw[z];exact eZ)) e) d dQ) aG⟩
theorem dO.O5{lv:ag}(bg:H lv=av)(m:dO p H H1)(al:H1 lv=J (.lst vs)):dO p H (upd H1 lv (.lst ws)) :=
 ⟨fun b u n e=>by rw[bt (fun z=>by rw[z,bg]at e;cases e)];exact m.k b u n e,fun cl=>xp al (m.c cl)⟩
theorem A3(ds:List α)(k:Nat)(f:α->List Bool):(ds.map f).flatten=((ds.take k).map f).flatten++((ds.drop k).map f).flatten:=by
 rw[<-List.flatten_append,<-gf,List.take_append_drop]
theorem TF(nb:dD mg)(pd:ek mg "MOST_VALUES" (.int 60))(eg:ff K C)(T:kN K (c.o 1))(F:c1 K "draw" "Many.draw" AU f fd)(gN:fZ P w K mg base 1 C "draw" ["self"] (oM C))(lX:fZ P w K mg base 1 C "refuse" ["self"] ue)(lU:hT P w K mg base (2*n+4) "draw" ["self","source"] (fJ c) (ki has bw fw c C n)):cv P w K mg base c8 (2*n+4+1) f fd ["self","source"] (ki has bw fw c C (n+1) (.o 1)):=by
 refine F.fA Kz (fun bl A _ s H vs Q E az h=>?_)
 obtain⟨o,p,ai,aW,d,l,j,t,e,X,rfl,hs,cW,aT,cS,c9,aC,cw,eZ,dY,aH,dH,q⟩:=h
 obtain⟨g,rfl⟩:=pU hs
 obtain⟨nI,j1,i,aL,fM⟩:=cW
 have g6:=aT.one
 have iz:bo g<=n:=by rw[bo]at cS;omega
 rw[b2]at aH
 rw[bD]at q dH
 have aH:wq (b2 bw g) d=au:=aH
 cases d with
 | lst ds =>
  have aH:(decide (ds.length<=60)&&ds.all (b2 bw g))=au:=aH
  obtain⟨B4,gQ⟩:=nc.mp aH
  have B4:=lr B4
  have gQ:=i5.mp gQ
  have dH:((ds.map fun d=>au::bD fw g d).flatten++[aA]) <+: sees l t j:=dH
  have q:∀(w:V)(H':aq),dO p H H'->cQ X H' (.lst ds) w->H' p=J (fe C ai l (j+((ds.map fun d=>au::bD fw g d).flatten++[aA]).length) t e)->Q w H':=q
  have op:o≠p:=fun z=>nI (ft.mpr z)
  refine⟨_,(aP (bZ 2 Kz.bB (eJ aB))
  (aP (q0 h5.never (b6 dk (ig gN eg az (af 1) (hk:=by omega)) aD)
   (aP (cz (b6 dk (cx ep rfl nb.ec ef (ao (af 2) aB)) (hM pd)) (aQ (ih (ig lX eg az (af 1) (hk:=by omega)))) cy)
   (aQ (ih (jW PySem.F.plainAttrs_list PySem.F.slot_list_append PySem.F.type_list_append sq (af 2) (ao (jq lU az (dw (af 0) rfl) (ao (af 1) aB) (hk:=by omega)) aB))))))
  (aQ (bx (af 2))))),?_⟩
  try dsimp only[cG,cH,cI,cJ]
  refine⟨UF _,fun lv tv=>?_⟩
  have wh:p≠lv:=fun z=>by rw[<-z,c9]at tv;cases tv
  have adV:lv∉X:=fun z=>by obtain⟨u,da⟩:=dY lv z;rw[tv]at da;cases da
  have xa:dO p H (upd H lv (.lst [])):=⟨fun b u _ e=>dc tv b u e,fun cl=>uR cl tv trivial⟩
  refine⟨fun m ae ax=>∃(k:Nat)(vs:List V),k<=ds.length/\m=ds.length-k/\ae=[J (.ref o),J (.ref p),J (.ref lv)]/\dO p H ax/\ax lv=J (.lst vs)/\cm (eP.o5 lv X) ax (ds.take k) vs/\ax p=J (fe C ai l (j+(((ds.take k).map fun d=>au::bD fw g d).flatten).length) t e),⟨ds.length,0,[],UF _,I,I,xa,aG,I,dc tv _ _ c9⟩,?_⟩
  rintro m ae ax ⟨k,vs,hk,rfl,rfl,M2,gR,dQ,gJ⟩
  have iR:=dH
  rw[A3 ds k,h9]at iR
  have iR:=sN iR
  have qo:=qZ (pV (by have:=dH;rw[A3 ds k,h9]at this;exact this)) cw
  generalize yn:j+(((ds.take k).map fun d=>au::bD fw g d).flatten).length=kd at gJ iR qo
  refine⟨_,I,p,ai,_,I,gJ,lA _ _ _ _ (by decide+kernel) (by decide+kernel) (by decide+kernel),?_⟩
  have jk:=dO.step (j':=kd+1) (t':=t) (e':=e) gJ
  have kX:=dn.len _ (cm.at _ dQ)
  rcases hv k ds.length with z|z
  ·have j2:ds.drop k=ds[k]::ds.drop (k+1):=q4 z
   rw[j2,gF,lx,List.cons_append,List.cons_append]at iR
   obtain⟨i9,gn,fQ⟩:=sI iR
   refine⟨p,ai,l,kd,t,e,i9,I,⟨_,gJ⟩,aC,gn,?_⟩
   rw[fQ]
   refine⟨I,_,I,eC ⟨_,fun _ _ h=>h,?_⟩⟩
   have rl:=jk.k _ _ (d1 wh) gR
   have tn:cm (eP.o5 lv X) _ (ds.take k) vs:=cm.keep (fun b u nb e=>jk.k b u (fun z=>nb (eP.eV (by rw[z];exact eZ))) e) _ dQ
   have pZ:=M2.trans jk
   have th:upd ax p (fe C ai l (kd+1) t e) p=_:=aG
   generalize upd ax p (fe C ai l (kd+1) t e)=bJ at jk rl tn pZ th ⊢
   have oA:(ds.take k).length=k:=by rw[jn];omega
   refine⟨_,I,_,_,I,.inl ⟨_,bF rl,I⟩,I,_,I,fv (by intro z;have:=V.int.inj z;omega) ?_⟩
   have Nx:=b7.jN pZ g fM
   obtain⟨f6,f9,eR,li⟩:=b7.draw g Nx
   have HC:(bD fw g ds[k]++(((ds.drop (k+1)).map fun d=>au::bD fw g d).flatten++[aA])) <+: sees l t (kd+1):=by
    rw[<-h9]
    exact sN (r:=[au]) iR
   have yo:=qZ (pV (r:=[au]) iR) qo
   rw[kQ]at yo
   refine⟨_,I,.inl ⟨I,_,bF rl⟩,?_⟩
   refine⟨_,I,o,c.o 1,j1,_,_,I,pZ.k _ _ op aL,T.cl,T.nH,h3 ..,i,slot g,f6,f9,I,eR,li,?_⟩
   refine⟨_,I,i,p,ai,g,ds[k],l,kd+1,t,e,eP.o5 lv X,I,I,Nx,g6,iz,th,aC,yo,eP.eV eZ,?_,gQ _ (List.getElem_mem z),pV HC,fun v gv p0 nB x9=>?_⟩
   ·intro x ay
    rcases ay with rfl|ay
    .exact⟨_,rl⟩
    .exact dO.alloc pZ th dY x ay
   have NY:=p0.k _ _ (d1 wh) rl
   have Sl:=pZ.trans p0
   refine⟨lv,_,_,I,I,NY,e3 (show vs.length<100000 by omega) (by decide),?_⟩
   refine⟨ds.length-(k+1),by omega,k+1,vs++[v],by omega,rfl,rfl,dO.O5 tv Sl NY,aG,?_,?_⟩
   ·rw[<-List.take_append_getElem z]
    refine cm.keep (fun b u nb e=>by rw[bt (fun z=>nb (by rw[z];exact eP.hd))];exact e) _ (cm.snoc nB _ ?_)
    exact cm.keep (fun b u nb e=>p0.k b u (fun z=>nb (eP.eV (by rw[z];exact eZ))) e) _ tn
   ·rw[bt wh,x9]
    have rb:kd+1+(bD fw g ds[k]).length=j+(((ds.take (k+1)).map fun d=>au::bD fw g d).flatten).length:=by
     rw[<-List.take_append_getElem z,gf,List.flatten_append,ee]
     simp only[gF,List.map_nil,lx,List.flatten_nil,List.append_nil,eA]
     omega
    rw[rb]
  ·have v5:k=ds.length:=by omega
   subst v5
   rw[List.drop_length,List.map_nil,List.flatten_nil,List.nil_append]at iR
   rw[List.take_length]at yn dQ kX
   obtain⟨i9,gn,fQ⟩:=sI iR
   refine⟨p,ai,l,kd,t,e,i9,I,⟨_,gJ⟩,aC,gn,?_⟩
   rw[fQ]
   refine⟨I,_,I,dx ?_⟩
   have M:=M2.trans jk
   refine⟨_,I,_,M.sub aG,q _ _ M ⟨lv,vs,I,adV,?_,?_,by omega⟩ ?_⟩
   .rw[bt (d1 wh)];exact gR
   .exact cm.keep (fun b u nb e=>jk.k b u (fun z=>nb (by rw[z];exact eZ)) e) _ (cm.weak (fun x ay=>eP.eV ay) _ dQ)
   ·rw[aG,ee,kQ,<-yn]
    congr 2
 |_=>cases aH
theorem A4{K:bK}{a:ag}{g:gE}{D:ag}(Inv:Nat->List V->aq->Prop)(S:St->Prop)(bL:xs.length<=100000)(bg:S fo)
  (aC:∀i aN ax,Inv i aN ax->c3 K ax a xs) (al:Inv 0 [] (upd H D (.lst [])))
  (bo:∀i x,xs[i]?=J x->∀aN bO H1,S bO->Inv i aN H1->H1 D=J (.lst aN)->aN.length=i->∀R:St->V->aq->Prop,(∀bC y bJ,S bC->bJ D=J (.lst aN)->Inv (i+1) (aN++[y]) (upd bJ D (.lst (aN++[y])))->R bC y bJ)->g x bO H1 fun bC ax=>cL bC ax fun y bJ=>R bC y bJ)
  (aY:∀(aN:List V)(H':aq),aN.length=xs.length->H' D=J (.lst aN)->Inv xs.length aN H'->Q (.ref D) H') :
  mu (pT K a) g pF cL Q fo H D:=by
 refine⟨fun i m bO ax=>i<=xs.length/\m=xs.length-i/\S bO/\∃aN:List V,aN.length=i/\ax D=J (.lst aN)/\Inv i aN ax,⟨xs.length,UF _,I,bg,[],I,aG,al⟩,?_⟩
 rintro i m bO ax ⟨aJ,rfl,aw,aN,bV,je,cP⟩
 have gR:=aC i aN ax cP
 rcases hv i xs.length with z|z
 ·refine .inr ⟨⟨xs,xs[i],gR,c4 z⟩,?_⟩
  rintro x bJ ⟨rfl,ay⟩
  have ay:=ay xs gR
  refine bo i x ay aN bO _ aw cP je bV (fun bC y d5=>∃zs bY,d5 D=J (.lst zs)/\zs.length<bU/\bY<xs.length-i/\(i+1<=xs.length/\bY=xs.length-(i+1)/\S bC/\∃ws:List V,ws.length=i+1/\upd d5 D (.lst (zs++[y])) D=J (.lst ws)/\Inv (i+1) ws (upd d5 D (.lst (zs++[y]))))) fun bC y d5 eN GU GW=>?_
  exact⟨aN,xs.length-(i+1),GU,e3 (show aN.length<100000 by omega) (by decide),by omega,by omega,rfl,eN,aN++[y],by rw[ee,bV];rfl,aG,GW⟩
 ·have e:i=xs.length:=by omega
  subst e
  exact .inl ⟨⟨xs,gR,cE _⟩,aY aN ax bV je cP⟩
theorem YC(nb:dD mg)(T:n3 K (c.t 0))(F:c1 K "draw" "Record.draw" z0 f fd)(lU:hT P w K mg base (2*n+4) "draw" ["self","source"] (fJ c) (ki has bw fw c C n)):cv P w K mg base c8 (2*n+4+1) f fd ["self","source"] (ki has bw fw c C (n+1) (.t 0)):=by
 refine F.fA VB (fun bl A _ s H vs Q E az h=>?_)
 obtain⟨o,p,ai,aW,d,l,j,t,e,X,rfl,hs,cW,aT,cS,c9,aC,cw,eZ,dY,aH,dH,q⟩:=h
 obtain⟨ns,fs,rfl⟩:=vo hs
 obtain⟨nI,j1,a1,a2,os,aL,ew,dZ,al,aw,te⟩:=cW
 obtain⟨il,kW,g6⟩:=aT.two
 have iz:g8 fs<=n:=by rw[bo]at cS;omega
 have qt:=eQ.len fs te
 have Cm:=(p5 il).1
 rw[b2]at aH
 rw[bD]at q dH
 cases d with
 | tup ds =>
  have aH:fy bw fs ds=au:=aH
  have mM:ds.length=fs.length:=by
   rcases Nat.decEq ds.length fs.length with z|z
   .rw[Bl bw fs ds z]at aH;cases aH
   .exact z
  rw[Bm bw fs ds mM]at aH
  have gQ:=i5.mp aH
  have dH:hH fw fs ds <+: sees l t j:=dH
  have q:∀(w:V)(H':aq),dO p H H'->cQ X H' (.tup ds) w->H' p=J (fe C ai l (j+(hH fw fs ds).length) t e)->Q w H':=q
  rw[Fp fw fs ds mM]at dH q
  have op:o≠p:=fun z=>nI (ft.mpr z)
  have Zw:a2≠p:=fun z=>dZ (ft.mpr z)
  have Z0:∀{i:Nat}{x:D},ds[i]?=J x->ds.getD i .bc=x:=fun h=>by rw[eL,h];rfl
  have Gl:∀{i:Nat}{x:bN},fs[i]?=J x->fs.getD i (.bare 0)=x:=fun h=>by rw[eL,h];rfl
  obtain⟨pl,fR⟩:∃pl:Nat->Nat,pl=fun i=>j+(((List.range i).map fun i=>bD fw (fs.getD i (.bare 0)) (ds.getD i .bc)).flatten).length:=⟨_,rfl⟩
  have ae3:∀i,pl (i+1)=pl i+(bD fw (fs.getD i (.bare 0)) (ds.getD i .bc)).length:=fun i=>by
   rw[fR]
   show j+_=j+_+_
   rw[List.range_succ,gf,List.flatten_append,ee]
   simp only[gF,List.map_nil,lx,List.flatten_nil,List.append_nil]
   omega
  have ahd:∀i,i<fs.length->bD fw (fs.getD i (.bare 0)) (ds.getD i .bc) <+: sees l t (pl i)/\pl i<=l.length:=fun i aJ=>by
   have h:=dH
   rw[A3 (List.range fs.length) i]at h
   have kB:(List.range fs.length).take i=List.range i:=by rw[List.take_range,Nat.min_eq_left (by omega)]
   have j2:(List.range fs.length).drop i=i::(List.range fs.length).drop (i+1):=by
    rw[q4 (by rw[kx];exact aJ),List.getElem_range]
   rw[kB,j2,gF,lx]at h
   have aw:=qZ (pV h) cw
   have bq:=pV (sN h)
   rw[fR]
   exact⟨bq,aw⟩
  refine⟨_,(aQ (bx (vn Kw I nb.rR q2 (ao (hZ ["form"] [(1,"source")] I (by decide+kernel) ⟨I,.inl I,trivial⟩ (iT (dw (af 0) I)) (fun _ _ _ _ _=>(eo (i:=0) (show(["form","source"]:List ah).Nodup by decide+kernel))) (fun _ _ _ _ _=>hN) (fun _ _ _ _ _=>(jq lU az (af 0) (ao (af 1) aB) (hk:=by omega)))) aB)))),?_⟩
  try dsimp only[cG,cH,cI,cJ]
  refine .inl ⟨_,I,o,c.t 0,j1,_,_,I,aL,T.cl,T.lN,ps _ _ _ _ ta,a2,I,⟨_,bF aw⟩,fun dC e9=>?_⟩
  have Iu:p≠dC:=fun z=>by rw[<-z,c9]at e9;cases e9
  have ajg:dC∉X:=fun z=>by obtain⟨u,da⟩:=dY dC z;rw[e9]at da;cases da
  refine A4 (K:=K) (a:=a2) (xs:=os.map V.ref) (fun i aN ax=>dO p H ax/\cm (eP.o5 dC X) ax (ds.take i) aN/\ax p=J (fe C ai l (pl i) t e)) (fun ae=>∃z,ae=[z,J (.ref p)]) (by rw[cq];omega) ⟨_,I⟩ ?_ ?_ ?_ ?_
  ·rintro i aN ax ⟨m,_⟩
   exact bF (m.k _ _ Zw aw)
  .exact⟨⟨fun b u _ e=>dc e9 b u e,fun cl=>uR cl e9 trivial⟩,I,by rw[bt Iu,c9,fR];rfl⟩
  ·rintro i x ay aN bO H1 ⟨z,rfl⟩ ⟨gr,jw,Cb⟩ mH mh R b8
   rw[e4]at ay
   obtain⟨OO,acz,rfl⟩:=Uf.mp ay
   obtain⟨B1,Hb,abv⟩:=eQ.get fs te acz
   obtain⟨ov,yl⟩:=g6.get Hb
   have aJ:i<fs.length:=(i4.mp Hb).1
   have abP:ds[i]?=J ds[i]:=c4 (by omega)
   obtain⟨Of,acH⟩:=ahd i aJ
   have NQ:=gQ i (List.mem_range.mpr aJ)
   have v9:=ae3 i
   rw[Gl Hb,Z0 abP]at Of NQ v9
   have Nw:=b7.jN gr B1 abv
   obtain⟨f6,f9,eR,li⟩:=b7.draw B1 Nw
   refine⟨_,I,OO,slot B1,f6,f9,I,eR,li,?_⟩
   refine⟨_,I,OO,p,ai,B1,ds[i],l,pl i,t,e,eP.o5 dC X,I,I,Nw,ov,by omega,Cb,aC,acH,eP.eV eZ,?_,NQ,Of,fun v gv p0 nB x9=>?_⟩
   ·intro x ay
    rcases ay with rfl|ay
    .exact⟨_,mH⟩
    .exact dO.alloc gr Cb dY x ay
   have x2:=p0.k _ _ (d1 Iu) mH
   refine b8 _ _ _ ⟨_,I⟩ x2 ⟨dO.O5 e9 (gr.trans p0) x2,?_,?_⟩
   ·rw[<-List.take_append_getElem (by omega)]
    refine cm.keep (fun b u nb e=>by rw[bt (fun z=>nb (by rw[z];exact eP.hd))];exact e) _ (cm.snoc nB _ ?_)
    exact cm.keep (fun b u nb e=>p0.k b u (fun z=>nb (eP.eV (by rw[z];exact eZ))) e) _ jw
   .rw[bt Iu,x9,v9]
  ·rintro aN ax mh mH ⟨pv,dQ,gJ⟩
   rw[cq]at mh dQ gJ
   rw[UV (by omega)]at dQ
   refine⟨dC,aN,I,.inl ⟨bF mH,fun p3 om=>?_⟩⟩
   have Sw:p3∉X:=fun z=>by obtain⟨u,da⟩:=dO.alloc pv gJ dY p3 z;rw[om]at da;cases da
   have OU:p≠p3:=fun z=>by rw[<-z,gJ]at om;cases om
   have OA:dO p H (upd ax p3 (.tup aN)):=pv.ext (Ext.tup om)
   refine⟨_,OA.sub (by rw[bt OU];exact gJ),q _ _ OA ⟨p3,aN,I,Sw,aG,cm.same (dc om) (cm.weak (fun x ay=>eP.eV ay) _ dQ),by omega⟩ ?_⟩
   rw[bt OU,gJ,qt,fR]
 |_=>cases aH
theorem XT(nb:dD mg)(pb:ek mg "LONGEST_TEXT" (.int 200))(eg:ff K C)(T:su K c.l)(F:c1 K "draw" "Letters.draw" zM f fd)(gN:fZ P w K mg base 1 C "draw" ["self"] (oM C))(lX:fZ P w K mg base 1 C "refuse" ["self"] ue)(nX:bp P w K mg base 2 "draw_fixed" ["source","most"] (y8 C)):cv P w K mg base c8 4 f fd ["self","source"] (ki has bw fw c C n .l):=by
 refine F.fA Ef (fun bl A _ s H vs Q E az h=>?_)
 obtain⟨o,p,ai,aW,d,l,j,t,e,X,rfl,hs,cW,aT,cS,c9,aC,cw,eZ,dY,aH,dH,q⟩:=h
 obtain⟨cA,rfl⟩:=FU hs
 obtain⟨nI,j1,aL⟩:=cW
 rw[b2]at aH
 rw[bD]at q dH
 cases d with
 | str w =>
  have aH:(decide (w.length<=200)&&mR w cA)=au:=aH
  obtain⟨vO,hm⟩:=nc.mp aH
  have vO:=lr vO
  have tx:oi cA=au/\cA.length<=60:=by have:=aT.1;rw[mU]at this;exact this
  obtain⟨cs,vX⟩:∃cs,cs=w.cps.toList:=⟨_,rfl⟩
  have mc:cs.length=w.length:=by rw[vX];exact i3
  have dH:((w.cps.toList.map fun c=>au::dW (cA.cps.toList.idxOf c) (aF (cA.length-1))).flatten++[aA]) <+: sees l t j:=dH
  have q:∀(v:V)(H':aq),dO p H H'->cQ X H' (.str w) v->H' p=J (fe C ai l (j+((w.cps.toList.map fun c=>au::dW (cA.cps.toList.idxOf c) (aF (cA.length-1))).flatten++[aA]).length) t e)->Q v H':=q
  rw[<-vX]at dH q
  have Hm:∀ch,ch∈cs->ch∈cA.cps.toList:=fun ch h=>lr (i5.mp hm ch (by rw[<-vX];exact h))
  have op:o≠p:=fun z=>nI (ft.mpr z)
  refine⟨_,(aP (bZ 2 Ef.bB cT)
  (aP (q0 h5.never (b6 dk (ig gN eg az (af 1)) aD)
   (aP (cz (b6 dk (cx ep rfl nb.ec ef (ao (af 2) aB)) (hM pb)) (aQ (ih (ig lX eg az (af 1)))) cy)
   (aQ (bZ 2 Ef.bB (aS ed (af 2) (cV cX (dw (af 0) rfl) (bX nX az (ao (af 1) (ao (aS gb (cx ep rfl nb.ec ef (ao (dw (af 0) rfl) aB)) aD) aB)))))))))
  (aQ (bx (af 2))))),?_⟩
  try dsimp only[cG,cH,cI,cJ]
  refine⟨fun m ae ax=>∃k:Nat,k<=cs.length/\m=cs.length-k/\ae=[J (.ref o),J (.ref p),J (.str ⟨(cs.take k).toArray⟩)]/\dO p H ax/\ax p=J (fe C ai l (j+(((cs.take k).map fun c=>au::dW (cA.cps.toList.idxOf c) (aF (cA.length-1))).flatten).length) t e),⟨cs.length,0,UF _,I,by rw[List.take_zero];rfl,dO.refl _ _,c9⟩,?_⟩
  rintro m ae ax ⟨k,hk,rfl,rfl,M2,gJ⟩
  have iR:=dH
  rw[A3 cs k,h9]at iR
  have qo:=qZ (pV iR) cw
  have iR:=sN iR
  generalize yn:j+(((cs.take k).map fun c=>au::dW (cA.cps.toList.idxOf c) (aF (cA.length-1))).flatten).length=kd at gJ iR qo
  refine⟨_,I,p,ai,_,I,gJ,lA _ _ _ _ (by decide+kernel) (by decide+kernel) (by decide+kernel),?_⟩
  have jk:=dO.step (j':=kd+1) (t':=t) (e':=e) gJ
  rcases hv k cs.length with z|z
  ·have j2:cs.drop k=cs[k]::cs.drop (k+1):=q4 z
   rw[j2,gF,lx,List.cons_append,List.cons_append]at iR
   obtain⟨i9,gn,fQ⟩:=sI iR
   refine⟨p,ai,l,kd,t,e,i9,I,⟨_,gJ⟩,aC,gn,?_⟩
   rw[fQ]
   refine⟨I,_,I,eC ⟨_,fun _ _ h=>h,?_⟩⟩
   have pZ:=M2.trans jk
   have th:upd ax p (fe C ai l (kd+1) t e) p=_:=aG
   generalize upd ax p (fe C ai l (kd+1) t e)=bJ at jk pZ th ⊢
   have oA:(⟨(cs.take k).toArray⟩:ah).length=k:=by show(cs.take k).toArray.size=k;rw[eH,jn];omega
   have HC:(dW (cA.cps.toList.idxOf cs[k]) (aF (cA.length-1))++(((cs.drop (k+1)).map fun c=>au::dW (cA.cps.toList.idxOf c) (aF (cA.length-1))).flatten++[aA])) <+: sees l t (kd+1):=by
    rw[<-h9]
    exact sN (r:=[au]) iR
   have yo:=qZ (pV (r:=[au]) iR) qo
   rw[kQ]at yo
   have vW:=pV HC
   have qp:=qZ vW yo
   have g8:=Fl vW
   rw[iM]at qp g8
   have iA:cA.cps.toList.idxOf cs[k]<cA.length:=by
    have:=List.idxOf_lt_length_iff.mpr (Hm _ (List.getElem_mem z))
    rwa [i3]at this
   have p0:=dO.step (j':=kd+1+aF (cA.length-1)) (t':=t) (e':=e) th
   have ba:(cA.length:Int)-1=((cA.length-1:Nat):Int):=by omega
   have N6:=pZ.k _ _ op aL
   have iy:e5 cA.cps.toList ((cA.cps.toList.idxOf cs[k]:Nat):Int)=J cs[k]:=by
    refine dz ?_
    rw[c4 (by rw[i3];exact iA),List.getElem_idxOf]
   refine⟨_,I,_,_,I,⟨fC (by omega),I⟩,I,_,I,fv (by intro z;have:=V.int.inj z;omega) ?_⟩
   refine⟨_,I,_,I,o,c.l,j1,_,_,I,N6,T.cl,T.oC,h3 ..,?_⟩
   refine⟨_,I,_,I,o,c.l,j1,_,_,I,N6,T.cl,T.oC,h3 ..,_,_,I,⟨fC (by omega),I⟩,_,_,I,I,p,ai,l,kd+1,cA.cps.toList.idxOf cs[k],cA.length-1,t,e,by rw[<-ba];rfl,th,aC,by omega,qp,g8,?_⟩
   refine .inr ⟨_,_,cs[k],I,I,fC (by omega),iy,.inr ⟨_,_,I,I,fC (by rw[oA];exact dj (Nat.add_le_add (show k<=300 by omega) (cE 1)) (by decide)),?_⟩⟩
   refine⟨cs.length-(k+1),by omega,k+1,by omega,rfl,?_,pZ.trans p0,?_⟩
   ·have aK:(⟨(cs.take k).toArray⟩:ah)++(⟨#[cs[k]]⟩:ah)=⟨(cs.take (k+1)).toArray⟩:=by
     rw[<-List.take_append_getElem z]
     apply xy
     rw[vw]
    rw[aK];rfl
   ·rw[aG]
    have rb:kd+1+aF (cA.length-1)=j+(((cs.take (k+1)).map fun c=>au::dW (cA.cps.toList.idxOf c) (aF (cA.length-1))).flatten).length:=by
     rw[<-List.take_append_getElem z,gf,List.flatten_append,ee]
     simp only[gF,List.map_nil,lx,List.flatten_nil,List.append_nil,eA,iM]
     omega
    rw[rb]
  ·have v5:k=cs.length:=by omega
   subst v5
   rw[List.drop_length,List.map_nil,List.flatten_nil,List.nil_append]at iR
   rw[List.take_length]at yn
   obtain⟨i9,gn,fQ⟩:=sI iR
   refine⟨p,ai,l,kd,t,e,i9,I,⟨_,gJ⟩,aC,gn,?_⟩
   rw[fQ]
   refine⟨I,_,I,dx ?_⟩
   have M:=M2.trans jk
   refine⟨_,I,_,M.sub aG,q _ _ M ⟨?_,by omega⟩ ?_⟩
   .rw[List.take_length,vX]
   ·rw[aG,ee,kQ,<-yn]
    congr 2
 |_=>cases aH
noncomputable def idxs(s t:ah):List Nat:=t.cps.toList.map fun c=>s.cps.toList.idxOf c
inductive Qe(C:ag)(vs:List V)(H:aq)(Q:bG)(E:bT):Prop where
 |mk (o ai:ag) (s t:ah) (bg:vs=[.ref o,.str t]) (al:H o=J (.ins C ai [("signs",.str s)])) (aw:mR t s=au) (bq:t.length<=200) (b4:∀r,H r=av->Q (.ref r) (upd H r (.lst ((idxs s t).map fun k=>V.int ((k:Nat):Int))))):Qe C vs H Q E
def IV(C:ag):b0:=fun vs H Q E=>Qe C vs H Q E
theorem UR(T:su K C)(F:c1 K "places" "Letters.places" Al f fd):cv P w K mg base c8 1 f fd ["self","text"] (IV C):=by
 refine F.fA UL (fun bl A _ s H vs Q E az h=>?_)
 obtain⟨o,ai,cA,t,rfl,aL,hm,aC,q⟩:=h
 refine⟨_,(aQ (bx (hZ ["sign"] [(0,"self")] I (by decide+kernel) ⟨I,.inl I,trivial⟩ (iT (af 1)) (fun _ _ _ _ _=>(eo (i:=0) (show(["sign","self"]:List ah).Nodup by decide+kernel))) (fun _ _ _ _ _=>hN) (fun _ _ _ _ _=>(jW PySem.F.plainAttrs_str PySem.F.slot_str_index PySem.F.type_str_index XG (dw (af 1) rfl) (ao (af 0) aB)))))),?_⟩
 try dsimp only[cG,cH,cI,cJ]
 refine .inr ⟨_,I,_,I,fun D c0=>?_⟩
 refine L5 (fun c=>V.int ((cA.cps.toList.idxOf c:Nat):Int)) (fun ae=>∃z,ae=[z,J (.ref o)]) (fC (by show t.length<=_;omega)) ⟨_,I⟩ c0 ?_ ?_
 ·rintro ch hc bO H1 ⟨z,rfl⟩ d3 R b8
  refine⟨_,I,o,C,ai,_,_,I,d3 _ _ aL,T.cl,T.oC,h3 ..,?_⟩
  exact⟨I,_,I,cA,ch,I,I,lr (i5.mp hm ch hc),b8 _ ⟨_,I⟩⟩
 ·refine⟨_,.new c0 (dc c0) aG trivial,?_⟩
  have q:=q D c0
  unfold idxs at q
  rw[fV]at q
  exact q
theorem UH(nb:dD mg)(T:su K c.l)(F:c1 K "written" "Letters.written" Ah f fd)(eg:ff K c.l)(xb:fZ P w K mg base 1 c.l "places" ["self","text"] (IV c.l))(nY:bp P w K mg base 2 "fixed_row" ["n","most"] y9):cv P w K mg base c8 3 f fd ["self","value"] (jP has bw fw c n .l):=by
 refine F.fA Kf (fun bl A _ s H vs Q E az h=>?_)
 obtain⟨o,aW,v,d,rfl,hs,cW,aT,cS,hd,aH,aC,q⟩:=h
 obtain⟨cA,rfl⟩:=FU hs
 obtain⟨_,ai,aL⟩:=cW
 rw[b2]at aH
 rw[bD]at q aC
 cases d with
 | str t =>
  obtain⟨rfl,_⟩:=hd
  have aH:(decide (t.length<=200)&&mR t cA)=au:=aH
  obtain⟨vO,hm⟩:=nc.mp aH
  have vO:=lr vO
  have tx:oi cA=au/\cA.length<=60:=by have:=aT.1;rw[mU]at this;exact this
  refine⟨_,(aP (bZ 2 Kf.bB (aS gb (cx ep I nb.ec ef (ao (dw (af 0) I) aB)) aD))
  (aQ (bx (aS ed (jW PySem.F.plainAttrs_str PySem.F.slot_str_join PySem.F.type_str_join sO cT (ao (hZ ["place"] [(2,"most")] rfl (by decide+kernel) ⟨rfl,.inl rfl,trivial⟩ (iT (sJ xb eg az (af 0) (ao (af 1) aB))) (fun _ _ _ _ _=>(eo (i:=0) (show(["place","most"]:List ah).Nodup by decide+kernel))) (fun _ _ _ _ _=>hN) (fun _ _ _ _ _=>(aS ed cT (bX nY az (ao (af 0) (ao (af 1) aB)))))) aB)) cT)))),?_⟩
  try dsimp only[cG,cH,cI,cJ]
  have q:Q (.str (aR ((t.cps.toList.map fun c=>au::dW (cA.cps.toList.idxOf c) (aF (cA.length-1))).flatten++[aA]))) H:=q
  have aC:((t.cps.toList.map fun c=>au::dW (cA.cps.toList.idxOf c) (aF (cA.length-1))).flatten++[aA]).length<=15000000:=aC
  rw[ee]at aC
  refine⟨_,I,o,c.l,ai,_,_,I,aL,T.cl,T.oC,h3 ..,_,_,I,⟨fC (by omega),I⟩,_,_,I,I,?_⟩
  have aeE:List.lookup (ah.ofString "places") [(ah.ofString "signs",V.str cA)]=av:=by
   unfold List.lookup
   rw[show(ah.ofString "places" == ah.ofString "signs")=aA by decide+kernel]
   rfl
  refine⟨I,.inl ⟨_,I,o,ai,_,I,aL,aeE,_,I,o,ai,cA,t,I,aL,hm,vO,fun r eT=>?_⟩⟩
  have akf:(idxs cA t).length=t.length:=by unfold idxs;rw[cq];exact i3
  refine⟨r,I,⟨_,bF aG⟩,fun dC e9=>?_⟩
  refine uP (K:=K) (a:=r) (xs:=(idxs cA t).map fun k=>V.int ((k:Nat):Int)) (fun k=>V.str (aR (au::dW ((idxs cA t).getD k 0) (aF (cA.length-1))))) (fun ae=>∃z,ae=[z,J (V.int ((cA.length:Int)-1))]) (fC (by rw[cq];omega)) ⟨_,I⟩ e9 (bF aG) ?_ ?_
  ·rintro k x ay bO H1 ⟨z,rfl⟩ d3 R b8
   rw[e4]at ay
   obtain⟨rv,tu,rfl⟩:=Uf.mp ay
   have e:(idxs cA t).getD k 0=rv:=by rw[eL,tu];rfl
   rw[e]at b8
   have Hh:=tu
   unfold idxs at Hh
   rw[e4]at Hh
   obtain⟨ch,nz,rfl⟩:=Uf.mp Hh
   have eS:ch∈t.cps.toList:=hY nz
   have vX:ch∈cA.cps.toList:=lr (i5.mp hm ch eS)
   have iA:cA.cps.toList.idxOf ch<cA.length:=by
    have:=List.idxOf_lt_length_iff.mpr vX
    rwa [i3]at this
   have aO:=FG (List.mem_map_of_mem (f:=fun c=>au::dW (cA.cps.toList.idxOf c) (aF (cA.length-1))) eS)
   rw[eA,iM]at aO
   have ba:(cA.length:Int)-1=((cA.length-1:Nat):Int):=by omega
   refine⟨_,I,_,I,cA.cps.toList.idxOf ch,cA.length-1,by rw[<-ba];rfl,by omega,by omega,.inr ⟨_,_,rfl,rfl,iE ?_,?_⟩⟩
   .rw[vt,d8,d8,iM];simp only[eA,List.length_nil];omega
   .rw[vt,kz];exact b8 _ ⟨_,I⟩
  ·have e:(List.range ((idxs cA t).map fun k=>V.int ((k:Nat):Int)).length).map (fun k=>V.str (aR (au::dW ((idxs cA t).getD k 0) (aF (cA.length-1)))))=((t.cps.toList.map fun c=>au::dW (cA.cps.toList.idxOf c) (aF (cA.length-1))).map aR).map V.str:=by
    rw[cq]
    apply List.ext_getElem
    .unfold idxs;simp
    ·intro k al aw
     have bq:k<t.cps.toList.length:=by simpa using aw
     have eM:(idxs cA t)[k]?=J (cA.cps.toList.idxOf t.cps.toList[k]):=by unfold idxs;rw[e4,c4 bq];rfl
     rw[jE,jE,jE,jE,List.getElem_range,eL,eM];rfl
   rw[e]
   have ahl:=(dc (o:=cZ.lst ((idxs cA t).map fun k=>V.int ((k:Nat):Int))) eT).trans (dc (o:=cZ.lst (((t.cps.toList.map fun c=>au::dW (cA.cps.toList.idxOf c) (aF (cA.length-1))).map aR).map V.str)) e9)
   refine⟨_,dC,_,I,I,bF aG,by rw[FE];omega,.inr ⟨_,_,rfl,rfl,iE ?_,H,.refl ahl,?_⟩⟩
   .rw[qV,Bs,d8,d8];omega
   .rw[qV,Bs,kz];exact q
 |_=>cases aH
noncomputable def fh:D->Bool
 |.tup [.int p,.int q]=>decide (0<q/\Int.gcd p q=1/\p.natAbs<=10^38/\q<=10^38)
 |_=>aA
theorem Bn{bw:D->Bool}:∀(fs:List bN)(ns:List ah)(n:ah)(x:D),ns.length=fs.length->jv bw fs ns n x=au->n∈ns
 |[],ns,n,x,_,h=>by rw[jv]at h;cases h
 |f::fs,[],n,x,aC,h=>by cases aC
 | f::fs,m::ns,n,x,aC,h=>by
  rw[jv]at h
  by_cases z:m=n
  .subst z;exact eI ..
  ·have h:(if J m=J n then _ else jv bw fs ns n x)=au:=h
   rw[if_neg (fun e=>z (gy e))]at h
   exact dP _ (Bn fs ns n x (by simpa using aC) h)
theorem xw{bw:D->Bool}{x:D}:∀(fs:List bN)(ns:List ah)(n:ah),n∈ns->ns.length=fs.length->jv bw fs ns n x=b2 bw (fs.getD (ns.idxOf n) (.bare 0)) x
 |[],[],n,h,_=>by cases h
 |f::fs,[],n,h,_=>by cases h
 |[],m::ns,n,_,h=>by cases h
 | f::fs,m::ns,n,h,aC=>by
  rw[jv]
  show(if J m=J n then _ else jv bw fs ns n x)=_
  by_cases z:m=n
  ·subst z
   rw[if_pos rfl,List.idxOf_cons_self];rfl
  .rw[if_neg (fun e=>z (gy e)),xw fs ns n ((cR.mp h).resolve_left (d1 z)) (by simpa using aC),List.idxOf_cons,beq_false_of_ne z];rfl
theorem eQ.ge{c:dF}{X:List ag}{H:aq}:∀(fs:List bN){os:List ag}{i:Nat}{f:bN},eQ c X H fs os->fs[i]?=J f->∃o,os[i]?=J o/\b7 c X H f o
 |[],os,i,f,h,e=>by cases e
 |g::fs,os,0,f,h,e=>by
  obtain⟨o',r,rfl,q,cj⟩:=h
  cases e
  exact⟨_,I,q⟩
 |g::fs,os,i+1,f,h,e=>by
  obtain⟨o',r,rfl,q,cj⟩:=h
  obtain⟨v,al,aw⟩:=eQ.ge (os:=r) fs cj (show fs[i]?=J f from e)
  exact⟨v,al,aw⟩
theorem Cz(val:Nat->ah):∀n i,i<n->val i∈gs val n
 |0,i,h=>by omega
 | n+1,i,h=>by
  unfold gs
  by_cases z:i=n
  ·subst z
   split
   .assumption
   .exact na _ (ft.mpr I)
  ·have:=Cz val n i (by omega)
   split
   .exact this
   .exact List.mem_append_left _ this
theorem Fu(val:Nat->ah):∀n,(gs val n).length=n->∀i j,i<j->j<n->val i≠val j
 |0,_,i,j,_,h=>by omega
 | n+1,h,i,j,Hg,cw=>by
  unfold gs at h
  have hle:=xB val n
  by_cases z:val n∈gs val n
  .rw[if_pos z]at h;omega
  ·rw[if_neg z,ee,kQ]at h
   by_cases aje:j=n
   ·subst aje
    exact fun e=>z (by rw[<-e];exact Cz val j i Hg)
   .exact Fu val n (by omega) i j Hg (by omega)
theorem lz:2<=bU:=by decide
theorem z3{n:ah}(h:l7 ns=au)(e:ns[i]?=J n):ns.idxOf n=i:=by
 unfold l7 at h
 simp only[jD,n5]at h
 have hd:=h.1.2.2
 have aJ:i<ns.length:=by
  rcases hv i ns.length with z|z
  .exact z
  .rw[Ad z]at e;cases e
 have aZ:ns[i]=n:=by rw[c4 aJ]at e;exact gy e
 have hm:n∈ns:=by rw[<-aZ];exact List.getElem_mem aJ
 have hk:=Ab hm
 have v5:ns[ns.idxOf n]=n:=List.getElem_idxOf hk
 have g:∀k(hk:k<ns.length),ns.getD k ah.empty=ns[k]:=fun k hk=>by rw[eL,c4 hk];rfl
 rcases Nat.lt_trichotomy (ns.idxOf n) i with z|z|z
 .exact absurd (by rw[g _ hk,g _ aJ,v5,aZ]) (Fu _ _ hd _ _ z aJ)
 .exact z
 .exact absurd (by rw[g _ hk,g _ aJ,v5,aZ]) (Fu _ _ hd _ _ z hk)
theorem Cu{K:bK}{l:List V}{x:V}(h:H p=J (.lst l)\/H p=J (.tup l))(e:l[j]?=J x)(q:Q x H):(IC K (.ref p) (.int ((j:Nat):Int)) H Q\/IE K (.ref p) (.int ((j:Nat):Int)) H Q)\/ID (.ref p) (.int ((j:Nat):Int)) H Q :=
 h.elim (fun s6 =>.inl (.inl ⟨_,_,_,_,rfl,rfl,bF s6,dz e,q⟩)) (fun fj =>.inl (.inr ⟨_,_,_,_,rfl,rfl,dK fj,dz e,q⟩))
theorem Be{fw:D->List Bool}{x:D}{M:Nat}:∀(fs:List bN)(ns:List ah)(k:Nat)(n:ah),n∈ns->ns.length=fs.length->rN fw fs ns k M n x=dW (k+ns.idxOf n) (aF M)++bD fw (fs.getD (ns.idxOf n) (.bare 0)) x
 |[],[],k,n,h,_=>by cases h
 |f::fs,[],k,n,h,_=>by cases h
 |[],m::ns,k,n,_,h=>by cases h
 | f::fs,m::ns,k,n,h,aC=>by
  rw[rN]
  show(if J m=J n then _ else rN fw fs ns (k+1) M n x)=_
  by_cases z:m=n
  ·subst z
   rw[if_pos rfl,List.idxOf_cons_self];rfl
  .rw[if_neg (fun e=>z (gy e)),Be fs ns (k+1) n ((cR.mp h).resolve_left (d1 z)) (by simpa using aC),List.idxOf_cons,beq_false_of_ne z,show k+1+ns.idxOf n=k+(ns.idxOf n+1) by omega];rfl
theorem UT(nb:dD mg)(T:n3 K (c.t 1))(F:c1 K "written" "Choice.written" Am f fd)(nY:bp P w K mg base 2 "fixed_row" ["n","most"] y9)(la:hT P w K mg base (2*n+4) "written" ["self","value"] (fJ c) (jP has bw fw c n)):cv P w K mg base c8 (2*n+4+1) f fd ["self","value"] (jP has bw fw c (n+1) (.t 1)):=by
 refine F.fA Kg (fun bl A _ s H vs Q E az h=>?_)
 obtain⟨o,aW,v,d,rfl,hs,cW,aT,cS,hd,hB,cB,q⟩:=h
 obtain⟨ns,fs,rfl⟩:=vo hs
 obtain⟨_,ai,dm,cD,os,aL,_,_,g1,g2,fM⟩:=cW
 obtain⟨il,kW,g6⟩:=aT.two
 have iz:g8 fs<=n:=by rw[bo]at cS;omega
 rw[b2,if_neg (by decide)]at hB
 unfold vG at hB
 split at hB
 ·rename_i m x
  have hm:=Bn fs ns _ _ kW hB
  rw[xw fs ns _ hm kW]at hB
  obtain⟨t,_,rfl,e,⟨_,_,rfl,⟨rfl,_⟩,Jk,_,rfl,ay,rfl⟩,_⟩:=hd
  have l5:bD fw (.two 1 ns fs) (.tup [.str m,x])=dW (ns.idxOf m) (aF (fs.length-1))++bD fw (fs.getD (ns.idxOf m) (.bare 0)) x:=by
   rw[bD,if_neg (by decide)]
   show rN fw fs ns 0 _ m x=_
   rw[Be fs ns 0 m hm kW,Nat.zero_add]
  rw[l5]at cB q
  have hk:=Ab hm
  have yq:ns[ns.idxOf m]?=J m:=by rw[c4 hk,List.getElem_idxOf hk]
  have yp:ns.idxOf m<fs.length:=by omega
  have aH:=c4 yp
  rw[eL,aH]at hB cB q
  obtain⟨oD,mO,tf⟩:=eQ.ge fs fM aH
  obtain⟨ov,yl⟩:=g6.get aH
  obtain⟨f6,f9,eR,li⟩:=b7.written _ tf
  have a0:∀(x:V)(r:List V),e5 (x::r) 0=J x:=fun x r=>dz (j:=0) rfl
  have a1:∀(x y:V)(r:List V),e5 (x::y::r) 1=J y:=fun x y r=>dz (j:=1) rfl
  have Cm:=(p5 il).1
  refine⟨_,(aP (bZ 2 Kg.bB (jW PySem.F.plainAttrs_list PySem.F.slot_list_index PySem.F.type_list_index Lk (dw (af 0) I) (ao (cV cX (af 1) aD) aB)))
  (aQ (bx (aS ed (bX nY az (ao (af 2) (ao (aS gb (cx ep rfl nb.ec ef (ao (dw (af 0) rfl) aB)) aD) aB)) (hk:=by omega)) (jq la az (cV cX (dw (af 0) rfl) (af 2)) (ao (cV cX (af 1) aD) aB) (hk:=by omega)))))),?_⟩
  try dsimp only[cG,cH,cI,cJ]
  refine⟨_,I,o,c.t 1,ai,_,_,I,aL,T.cl,T.rB,h3 ..,.inl ⟨I,_,bF g1⟩,_,I,.inl (.inr ⟨_,_,_,_,I,I,dK e,a0 _ _,dm,ns,m,ns.idxOf m,I,I,g1,yq,(fun j cw hw=>by have:=z3 il hw;omega),by omega,?_⟩)⟩
  have jx:(((ns.map V.str).length:Nat):Int)-1=((fs.length-1:Nat):Int):=by rw[cq];omega
  have aj:aF (fs.length-1)<=16000000:=by
   have:=dj (ee ▸ Nat.le_add_right _ _) cB
   rw[iM]at this
   omega
  refine⟨_,I,_,I,o,c.t 1,ai,_,_,I,aL,T.cl,T.rB,h3 ..,_,_,I,.inl ⟨_,bF g1,I⟩,_,_,I,I,ns.idxOf m,fs.length-1,by rw[<-jx];rfl,by omega,aj,?_⟩
  refine⟨_,I,o,c.t 1,ai,_,_,I,aL,T.cl,T.lN,ps _ _ _ _ ta,_,I,Cu (.inl g2) (show(os.map V.ref)[ns.idxOf m]?=J (V.ref oD) by rw[e4,mO];rfl) ⟨oD,slot _,f6,f9,rfl,eR,li,_,rfl,.inl (.inr ⟨_,_,_,_,rfl,rfl,dK e,a1 _ _ _,oD,_,Jk,x,rfl,rfl,tf,ov,by omega,ay,hB,?_,?_⟩)⟩⟩
  ·rw[ee]at cB
   exact dj (Nat.le_add_left _ _) cB
  ·refine .inr ⟨_,_,I,I,?_,H,.refl (cF _),?_⟩
   ·rw[d8,d8,<-ee]
    exact iE (dj cB (by decide))
   ·rw[<-kz]at q
    exact q
 .cases hB
theorem Um:∀(n:Nat){p q:Int},q.toNat<=n->0<=q->(0<q\/0<=p)->eF p q∣p/\eF p q∣q/\0<=eF p q:=by
 intro n
 induction n with
 |zero =>
  intro p q bg al aw
  obtain rfl:q=0:=by omega
  rw[xE]
  exact⟨Int.dvd_refl _,Int.dvd_zero _,aw.elim (fun z=>by omega) id⟩
 | succ n bQ =>
  intro p q bg al aw
  by_cases aY:q=0
  ·subst aY
   rw[xE]
   exact⟨Int.dvd_refl _,Int.dvd_zero _,aw.elim (fun z=>by omega) id⟩
  ·have aY:0<q:=by omega
   rw[BC aY]
   have k4:=hu p (Int.ne_of_gt aY)
   have cd:=hL p aY
   obtain⟨hl,jb,Gi⟩:=bQ (p:=q) (q:=p%q) (by omega) k4 (.inr al)
   refine⟨?_,hl,Gi⟩
   have e:=Int.mul_ediv_add_emod p q
   have:eF q (p%q)∣q*(p/q)+p%q:=Int.dvd_add (Int.dvd_mul_of_dvd_left hl) jb
   rwa [e]at this
theorem MQ{p q:Int}(aY:0<q)(h:Int.gcd p q=1):eF p q=1:=by
 obtain⟨hl,jb,Gi⟩:=Um q.toNat (cE _) (Int.le_of_lt aY) (.inl aY) (p:=p)
 have:=Int.dvd_coe_gcd hl jb
 rw[h]at this
 exact Int.eq_one_of_dvd_one Gi this
theorem Zj:∀(n:Nat){p q:Int},q.toNat<=n->0<=q->q<p->eF p q=1->Tail (e7 p q)/\fL (e7 p q)=(p,q):=by
 have base:∀{p:Int},eF p 0=1->Tail (e7 p 0)/\fL (e7 p 0)=(p,0):=fun{p}h=>by
  rw[xE]at h
  subst h
  rw[q1]
  exact⟨⟨(fun x ay=>nomatch ay),(fun z=>absurd I z)⟩,I⟩
 intro n
 induction n with
 |zero =>
  intro p q bg al _ hc
  obtain rfl:q=0:=by omega
  exact base hc
 | succ n bQ =>
  intro p q bg al aj9 hc
  by_cases aY:q=0
  .subst aY;exact base hc
  have aY:0<q:=by omega
  rw[BC aY]at hc
  have k4:=hu p (Int.ne_of_gt aY)
  have cd:=hL p aY
  have e:=Int.mul_ediv_add_emod p q
  have t3:1<=p/q:=Int.le_ediv_of_mul_le aY (by omega)
  obtain⟨t,f⟩:=bQ (p:=q) (q:=p%q) (by omega) k4 cd hc
  rw[ng aY]
  refine⟨⟨fun x ay=>?_,fun z=>?_⟩,?_⟩
  ·rcases cR.mp ay with y|y
   .rw[y];exact t3
   .exact t.1 x y
  ·by_cases az:e7 q (p%q)=[]
   ·have acK:p%q=0:=by
     by_cases y:p%q=0
     .exact y
     .rw[ng (by omega)]at az;cases az
    rw[acK,xE]at hc
    subst hc
    have:(p/1::e7 1 (p%1)).getLast z=p/1:=by simp only[az,List.getLast_singleton]
    rw[this,Int.ediv_one];omega
   .rw[List.getLast_cons az];exact t.2 az
  ·rw[fL,f]
   show(p/q*q+p%q,q)=(p,q)
   rw[Int.mul_comm,e]
theorem LZ{p q:Int}(aY:0<q)(hc:eF p q=1):Good (e7 p q)/\fL (e7 p q)=(p,q):=by
 rw[BC aY]at hc
 have k4:=hu p (Int.ne_of_gt aY)
 have cd:=hL p aY
 obtain⟨t,f⟩:=Zj _ (cE _) k4 cd hc
 rw[ng aY]
 refine⟨t,?_⟩
 rw[fL,f]
 show(p/q*q+p%q,q)=(p,q)
 rw[Int.mul_comm,Int.mul_ediv_add_emod]
theorem Mj:∀(k:Nat){p q:Int},0<=q->q<2^k->(e7 p q).length<=2*k+1:=by
 intro k
 induction k with
 |zero =>
  intro p q bg al
  have:q=0:=by omega
  subst this
  rw[q1];exact UF _
 | succ k bQ =>
  intro p q bg al
  by_cases aY:q=0
  .subst aY;rw[q1];exact UF _
  ·have aY:0<q:=by omega
   rw[ng aY,eA]
   have k4:=hu p (Int.ne_of_gt aY)
   have cd:=hL p aY
   generalize p%q=r at k4 cd
   by_cases az:r=0
   .subst az;rw[q1];simp
   ·have az:0<r:=by omega
    rw[ng az,eA]
    have t0:=hu q (Int.ne_of_gt az)
    have t1:=hL q az
    have gV:=Int.mul_ediv_add_emod q r
    have t3:1<=q/r:=Int.le_ediv_of_mul_le az (by omega)
    have aks:r*1<=r*(q/r):=Int.mul_le_mul_of_nonneg_left t3 (by omega)
    have e:(2:Int)^(k+1)=2^k*2:=Int.pow_succ ..
    have:=bQ (p:=r) (q:=q%r) t0 (by omega)
    omega
theorem LY{B:Int}:∀(n:Nat){p q:Int},q.toNat<=n->0<=q->-B<=p->p<=B->q<=B->∀x∈e7 p q,-B<=x/\x<=B:=by
 intro n
 induction n with
 |zero =>
  intro p q bg al _ _ _ x ay
  have:q=0:=by omega
  subst this
  rw[q1]at ay;cases ay
 | succ n bQ =>
  intro p q bg al aw bq b4 x ay
  by_cases aY:q=0
  .subst aY;rw[q1]at ay;cases ay
  ·have aY:0<q:=by omega
   rw[ng aY]at ay
   rcases cR.mp ay with z|z
   ·subst z
    constructor
    ·refine Int.le_ediv_of_mul_le aY ?_
     have : -B*q<=-B*1:=Int.mul_le_mul_of_nonpos_left (by omega) (by omega)
     omega
    ·refine Int.ediv_le_of_le_mul aY ?_
     have:B*1<=B*q:=Int.mul_le_mul_of_nonneg_left (by omega) (by omega)
     omega
   ·have k4:=hu p (Int.ne_of_gt aY)
    have cd:=hL p aY
    exact bQ (by omega) k4 (by omega) b4 (by omega) x z
def zv(x y:Int):Prop:=x.natAbs<2^390/\y.natAbs<2^390
theorem zv.ok{p q:Int}(h:zv p q)(aY:0<q):(e7 p q).length<=10000/\∀x∈e7 p q,x.natAbs<2^1000:=by
 obtain⟨al,aw⟩:=h
 have e:((2^390:Nat):Int)=(2:Int)^390:=by rw[Int.natCast_pow];rfl
 have mQ:q<2^390:=by omega
 refine⟨dj (Mj 390 (Int.le_of_lt aY) mQ) (by decide),fun x ay=>?_⟩
 have:=LY (B:=2^390) q.toNat (cE _) (Int.le_of_lt aY) (by omega) (by omega) (by omega) x ay
 exact Nat.lt_of_le_of_lt (m:=2^390) (by omega) (Nat.pow_lt_pow_right (by decide) (by decide))
theorem xn{d:D}(h:fh d=au):∃p q:Int,d=.tup [.int p,.int q]/\0<q/\eF p q=1/\zv p q/\(e7 p q).length<=300/\m9 (e7 p q):=by
 unfold fh at h
 split at h
 ·rename_i p q
  obtain⟨al,aw,bq,b4⟩:=lr h
  have hz:(10:Nat)^38<2^127:=by decide
  have e6:(10:Int)^38<2^127:=by decide
  have q8:(2:Int)^127<2^254:=by decide
  refine⟨p,q,I,al,MQ al aw,⟨?_,?_⟩,?_,?_⟩
  .exact Nat.lt_of_le_of_lt bq (by decide)
  .exact Nat.lt_of_le_of_lt (m:=10^38) (by omega) (by decide)
  .exact dj (Mj 127 (Int.le_of_lt al) (by omega)) (by decide)
  ·have hs:=LY (B:=10^38) q.toNat (cE _) (Int.le_of_lt al) (p:=p) (by omega) (by omega) b4
   obtain⟨t,_⟩:=LZ al (MQ al aw)
   refine⟨fun x ay=>?_,fun x ay=>?_⟩
   ·have:=hs x (List.mem_of_mem_take ay)
    unfold ib;omega
   ·have:=hs x (List.mem_of_mem_drop ay)
    rw[ng al]at t ay
    have:=t.1 x ay
    unfold hU;omega
 .cases h
noncomputable def dv:D->List Bool
 |.tup [.int p,.int q]=>j8 (e7 p q)
 |_=>[]
theorem Xh{d:D}(h:fh d=au):∃s,Good s/\s.length<=1000/\m9 s/\d=.tup [.int (fL s).1,.int (fL s).2]/\dv d=j8 s:=by
 obtain⟨p,q,rfl,al,aw,bq,b4,eb⟩:=xn h
 obtain⟨g,e⟩:=LZ al aw
 exact⟨e7 p q,g,dj b4 (by decide),eb,by rw[e],rfl⟩
theorem UD(F:c1 K "written" "Fraction.written" Ax f fd)(qN:bp P w K mg base 1 "steps_of" ["fraction"] C3)(w4:bp P w K mg base 4 "row_of_steps" ["steps"] IX):cv P w K mg base c8 5 f fd ["self","value"] (jP has fh dv c n (.b 3)):=by
 refine F.fA UB (fun bl A _ s H vs Q E az h=>?_)
 obtain⟨o,aW,v,d,rfl,hs,cW,aT,cS,hd,aH,aC,q⟩:=h
 have:=ni hs
 subst this
 rw[sL]at aH
 have aH:fh d=au:=by cases d<;>exact aH
 obtain⟨p,hF,rfl,al,aw,bq,b4,eb⟩:=xn aH
 rw[bD]at q
 obtain⟨a,vs,rfl,de,⟨_,_,rfl,rfl,_,_,rfl,rfl,rfl⟩,kX⟩:=hd
 refine⟨_,(aQ (bx (bX w4 az (ao (bX qN az (ao (af 1) aB)) aB)))),?_⟩
 try dsimp only[cG,cH,cI,cJ]
 refine⟨_,I,a,p,hF,I,de,Int.le_of_lt al,dj (bq.ok al).1 (by decide),(bq.ok al).2,fun r eT=>?_⟩
 exact⟨r,_,I,aG,by rw[ng al];exact p4 _ _,by omega,eb,H,.refl (dc eT),q⟩
noncomputable def j7:D->Bool
 |.tup [.int p,.int q]=>decide (0<q/\eF p q=1/\m9 (e7 p q))
 |_=>aA
theorem Ue{d:D}(h:fh d=au):j7 d=au:=by
 obtain⟨p,q,rfl,al,aw,bq,b4,eb⟩:=xn h
 exact fu ⟨al,aw,eb⟩
theorem US(nb:dD mg)(F:c1 K "fits" "Fraction.fits" Ar f fd)(m6:bp P w K mg base 1 "is_number" ["value"] zb)(w2:bp P w K mg base 3 "has_fraction_row" ["fraction"] IL):cv P w K mg base c8 4 f fd ["self","value"] (jy has j7 c n (.b 3)):=by
 refine F.fA UZ (fun bl A _ s H vs Q E az h=>?_)
 obtain⟨o,aW,v,d,rfl,hs,cW,aT,cS,hd,e8,q⟩:=h
 have:=ni hs
 subst this
 rw[sL]at q
 have q:Q (.aE (j7 d)) H:=by cases d<;>exact q
 refine⟨_,(aP (cz (gi.pt (ks (i6 (hy (cx jF I nb.gS gP (ao (af 1) (ao (jr (v :=.ty "tuple") I nb.rR q2 I) aB))))) (lk (b6 tQ (cx ep I nb.ec ef (ao (af 1) aB)) aD)))) (aQ (bx gg)) cy)
  (aQ (bx (i7 (bX m6 az (ao (cV cX (af 1) aD) aB)) (i7 (bX m6 az (ao (cV cX (af 1) aD) aB)) (ky (bX w2 az (ao (af 1) aB)))))))),_,rfl,.inl ⟨_,_,_,_,rfl,hd.ty,hE K _ (by decide),_,rfl,?_⟩⟩
 have no:j7 d=aA->hX H H (Q (.aE aA)):=fun e=>⟨H,.refl (cF _),e ▸ q⟩
 have a0:∀(x:V)(r:List V),e5 (x::r) 0=J x:=fun x r=>dz (j:=0) rfl
 have a1:∀(x y:V)(r:List V),e5 (x::y::r) 1=J y:=fun x y r=>dz (j:=1) rfl
 cases d with
 | tup ds =>
  obtain⟨a,vs,rfl,de,et,kX⟩:=hd
  have cB:=dn.len ds et
  refine dx ⟨_,I,_,_,I,.inr ⟨_,dK de,I⟩,I,_,I,?_⟩
  rcases ds with _|⟨ja,_|⟨hl,_|⟨jb,ds⟩⟩⟩
  ·obtain rfl:vs=[]:=et
   exact eC (no I)
  ·obtain⟨v0,_,rfl,_,rfl⟩:=et
   exact eC (no (by cases ja<;>rfl))
  ·obtain⟨v0,_,rfl,bg,v1,_,rfl,al,rfl⟩:=et
   refine yE I ?_
   refine⟨_,I,.inl (.inr ⟨_,_,_,_,I,I,dK de,a0 _ _,v0,ja,I,bg,isNum ja,I,?_⟩)⟩
   cases eY:isNum ja with
   |false=>exact dx (no (by cases ja<;>first|rfl|cases eY))
   | true =>
    refine eC ⟨_,I,.inl (.inr ⟨_,_,_,_,I,I,dK de,a1 _ _ _,v1,hl,I,al,isNum hl,I,?_⟩)⟩
    cases aU:isNum hl with
    |false=>exact dx (no (by cases ja<;>first|(cases eY;done)|(cases hl<;>first|rfl|cases aU)))
    | true =>
     cases ja with
     | int p =>
      cases hl with
      |int hF =>
       obtain rfl:v0=.int p:=bg
       obtain rfl:v1=.int hF:=al
       have aj:zv p hF:=⟨e8.1,e8.2.1⟩
       exact eC ⟨_,I,a,p,hF,I,de,fun aY=>⟨dj (aj.ok aY).1 (by decide),(aj.ok aY).2⟩,H,.refl (cF _),q⟩
      |_=>cases aU
     |_=>cases eY
  ·obtain⟨v0,_,rfl,_,v1,_,rfl,_,v2,r,rfl,_,_⟩:=et
   exact eC (no (by cases ja<;>first|rfl|(cases hl<;>rfl)))
 |_=>exact eC (no I)
theorem Vp(nb:dD mg)(T:n3 K (c.t 1))(F:c1 K "fits" "Choice.fits" z1 f fd)(jU:hT P w K mg base (2*n+4) "fits" ["self","value"] (fJ c) (jy has bw c n)):cv P w K mg base c8 (2*n+4+1) f fd ["self","value"] (jy has bw c (n+1) (.t 1)):=by
 refine F.fA VD (fun bl A _ s H vs Q E az h=>?_)
 obtain⟨o,aW,v,d,rfl,hs,cW,aT,cS,hd,e8,q⟩:=h
 obtain⟨ns,fs,rfl⟩:=vo hs
 obtain⟨_,ai,dm,cD,os,aL,_,_,g1,g2,fM⟩:=cW
 obtain⟨il,kW,g6⟩:=aT.two
 have iz:g8 fs<=n:=by rw[bo]at cS;omega
 have Cm:=(p5 il).1
 rw[b2,if_neg (by decide)]at q
 refine⟨_,(aP (cz (gi.pt (ks (i6 (hy (cx jF I nb.gS gP (ao (af 1) (ao (jr (v :=.ty "tuple") I nb.rR q2 I) aB))))) (ks (b6 tQ (cx ep I nb.ec ef (ao (af 1) aB)) aD) (lk (xA (Yc (qD az)) (cV cX (af 1) aD) (dw (af 0) I) (by with_unfolding_all rfl)))))) (aQ (bx gg)) cy)
  (aQ (bx (jq jU az (cV cX (dw (af 0) rfl) (jW PySem.F.plainAttrs_list PySem.F.slot_list_index PySem.F.type_list_index Lk (dw (af 0) rfl) (ao (cV cX (af 1) aD) aB))) (ao (cV cX (af 1) aD) aB) (hk:=by omega))))),_,rfl,.inl ⟨_,_,_,_,rfl,hd.ty,hE K d (by decide),_,rfl,?_⟩⟩
 have no:vG (jv bw fs ns) d=aA->hX H H (Q (.aE aA)):=fun e=>⟨H,.refl (cF _),e ▸ q⟩
 have a0:∀(x:V)(r:List V),e5 (x::r) 0=J x:=fun x r=>dz (j:=0) rfl
 have a1:∀(x y:V)(r:List V),e5 (x::y::r) 1=J y:=fun x y r=>dz (j:=1) rfl
 cases d with
 | tup ds =>
  obtain⟨a,vs,rfl,de,et,kX⟩:=hd
  refine dx ⟨_,I,_,_,I,.inr ⟨_,dK de,I⟩,I,_,I,?_⟩
  rcases ds with _|⟨ja,_|⟨x,_|⟨jb,ds⟩⟩⟩
  ·obtain rfl:vs=[]:=et
   exact eC (no I)
  ·obtain⟨v0,_,rfl,_,rfl⟩:=et
   exact eC (no (by cases ja<;>rfl))
  ·obtain⟨v0,_,rfl,bg,Jk,_,rfl,ay,rfl⟩:=et
   refine yE I ?_
   refine⟨_,I,.inl (.inr ⟨_,_,_,_,I,I,dK de,a0 _ _,_,I,o,c.t 1,ai,_,_,I,aL,T.cl,T.rB,h3 ..,dm,ns,ja,I,bF g1,bg,_,I,?_⟩)⟩
   cases eR:inD ns ja with
   | false =>
    refine eC (no ?_)
    cases ja with
    |str m =>
     show jv bw fs ns m x=aA
     rw[<-Bool.not_eq_true]
     intro aH
     have hm:=Bn fs ns m x kW aH
     have:inD ns (.str m)=au:=List.any_eq_true.mpr ⟨m,hm,by simp⟩
     rw[eR]at this;cases this
    |_=>rfl
   | true =>
    cases ja with
    | str m =>
     obtain⟨rfl,_⟩:=bg
     have hm:m∈ns:=by
      obtain⟨bY,hm,em⟩:=List.any_eq_true.mp (show(ns.any fun y=>y == m)=au by simpa [inD] using eR)
      have em:bY=m:=by simpa using em
      rw[<-em];exact hm
     have hk:=Ab hm
     have yq:ns[ns.idxOf m]?=J m:=by rw[c4 hk,List.getElem_idxOf hk]
     have yp:ns.idxOf m<fs.length:=by omega
     have bb:=c4 yp
     have q:Q (.aE (jv bw fs ns m x)) H:=q
     rw[xw fs ns m hm kW,eL,bb]at q
     obtain⟨oD,mO,tf⟩:=eQ.ge fs fM bb
     obtain⟨ov,yl⟩:=g6.get bb
     obtain⟨f6,f9,aag,li⟩:=b7.fits _ tf
     refine dx ⟨_,I,o,c.t 1,ai,_,_,I,aL,T.cl,T.lN,ps _ _ _ _ ta,_,I,o,c.t 1,ai,_,_,I,aL,T.cl,T.rB,h3 ..,.inl ⟨I,_,bF g1⟩,_,I,.inl (.inr ⟨_,_,_,_,I,I,dK de,a0 _ _,dm,ns,m,ns.idxOf m,I,I,g1,yq,(fun j cw hw=>by have:=z3 il hw;omega),by omega,?_⟩)⟩
     exact Cu (.inl g2) (show(os.map V.ref)[ns.idxOf m]?=J (V.ref oD) by rw[e4,mO];rfl) ⟨oD,slot _,f6,f9,rfl,aag,li,_,rfl,.inl (.inr ⟨_,_,_,_,rfl,rfl,dK de,a1 _ _ _,oD,_,Jk,x,rfl,rfl,tf,ov,by omega,ay,e8.2.1,H,.refl (cF _),q⟩)⟩
    |_=>cases eR
  ·obtain⟨v0,_,rfl,_,v1,_,rfl,_,v2,r,rfl,_,_⟩:=et
   exact eC (no (by cases ja<;>rfl))
 |_=>exact eC (no I)
theorem Zn(eg:ff K C)(T:kN K (c.o 0))(F:c1 K "draw" "Maybe.draw" AL f fd)(gN:fZ P w K mg base 1 C "draw" ["self"] (oM C))(lU:hT P w K mg base (2*n+4) "draw" ["self","source"] (fJ c) (ki has bw fw c C n)):cv P w K mg base c8 (2*n+4+1) f fd ["self","source"] (ki has bw fw c C (n+1) (.o 0)):=by
 refine F.fA VZ (fun bl A _ s H vs Q E az h=>?_)
 obtain⟨o,p,ai,aW,d,l,j,t,e,X,rfl,hs,cW,aT,cS,c9,aC,cw,eZ,dY,aH,dH,q⟩:=h
 obtain⟨g,rfl⟩:=pU hs
 obtain⟨nI,j1,i,aL,fM⟩:=cW
 have g6:=aT.one
 have iz:bo g<=n:=by rw[bo]at cS;omega
 have op:o≠p:=fun z=>nI (ft.mpr z)
 rw[b2]at aH
 rw[bD]at q dH
 replace aH:rA (b2 bw g) d=au:=aH
 have gw:=dO.step (j':=j+1) (t':=t) (e':=e) c9
 have rh:=b7.jN gw g fM
 have fresh:∀{ax:aq}{yQ:cZ}{tt:ag},dO p H ax->ax p=J yQ->ax tt=av->tt∉X:=fun M ba eM z=>by
  obtain⟨OM,f7⟩:=dO.alloc M ba dY _ z
  rw[eM]at f7;cases f7
 unfold rA at aH
 split at aH
 ·have dH:[aA] <+: sees l t j:=dH
  obtain⟨i9,gn,fQ⟩:=sI dH
  refine⟨_,(aP (cz (b6 dk (ig gN eg az (af 1) (hk:=by omega)) aD) (aQ (bx (js aB))) cy)
  (aQ (bx (js (ao (jq lU az (dw (af 0) rfl) (ao (af 1) aB) (hk:=by omega)) aB))))),?_⟩
  try dsimp only[cG,cH,cI,cJ]
  refine⟨_,I,p,ai,_,I,c9,lA _ _ _ _ (by decide+kernel) (by decide+kernel) (by decide+kernel),p,ai,l,j,t,e,i9,I,⟨_,c9⟩,aC,gn,?_⟩
  rw[fQ]
  refine⟨I,_,I,hC I ⟨UF _,fun tt rq=>?_⟩⟩
  have E:=Ext.tup (xs:=[]) rq
  have M:=gw.ext E
  exact⟨_,M.sub (E.s _ _ aG),q _ _ M ⟨tt,[],I,fresh gw aG rq,aG,I,by simp⟩ (E.s _ _ aG)⟩
 ·rename_i x
  have dH:(au::bD fw g x) <+: sees l t j:=dH
  obtain⟨i9,gn,fQ⟩:=sI dH
  have eT:=sN (r:=[au]) dH
  obtain⟨f6,f9,eR,li⟩:=b7.draw g rh
  have NW:j+1<=l.length:=by have:=(i4.mp gn).1;omega
  refine⟨_,(aP (cz (b6 dk (ig gN eg az (af 1) (hk:=by omega)) aD) (aQ (bx (js aB))) cy)
  (aQ (bx (js (ao (jq lU az (dw (af 0) rfl) (ao (af 1) aB) (hk:=by omega)) aB))))),?_⟩
  try dsimp only[cG,cH,cI,cJ]
  refine⟨_,I,p,ai,_,I,c9,lA _ _ _ _ (by decide+kernel) (by decide+kernel) (by decide+kernel),p,ai,l,j,t,e,i9,I,⟨_,c9⟩,aC,gn,?_⟩
  rw[fQ]
  refine⟨I,_,I,fv (by decide) ⟨_,I,o,c.o 0,j1,_,_,I,gw.k _ _ op aL,T.cl,T.nH,h3 ..,i,slot g,f6,f9,I,eR,li,_,I,i,p,ai,g,x,l,j+1,t,e,X,I,I,rh,g6,iz,aG,aC,NW,eZ,dO.alloc gw aG dY,aH,eT,fun v ax M2 dQ gJ=>⟨mw,fun tt rq=>?_⟩⟩⟩
  have E:=Ext.tup (xs:=[v]) rq
  have M:=(gw.trans M2).ext E
  refine⟨_,M.sub (E.s _ _ gJ),q _ _ M ⟨tt,[v],I,fresh (gw.trans M2) gJ rq,aG,⟨v,[],I,dQ.same E.s,I⟩,by simp⟩ ?_⟩
  rw[E.s _ _ gJ]
  show J (fe C ai l (j+1+(bD fw g x).length) t e)=J (fe C ai l (j+((bD fw g x).length+1)) t e)
  rw[show j+1+(bD fw g x).length=j+((bD fw g x).length+1) by omega]
 .cases aH
theorem YD(nb:dD mg)(T:n3 K (c.t 1))(F:c1 K "draw" "Choice.draw" z2 f fd)(nX:bp P w K mg base 2 "draw_fixed" ["source","most"] (y8 C))(lU:hT P w K mg base (2*n+4) "draw" ["self","source"] (fJ c) (ki has bw fw c C n)):cv P w K mg base c8 (2*n+4+1) f fd ["self","source"] (ki has bw fw c C (n+1) (.t 1)):=by
 refine F.fA Ko (fun bl A _ s H vs Q E az h=>?_)
 obtain⟨o,p,ai,aW,d,l,j,t,e,X,rfl,hs,cW,aT,cS,c9,aC,cw,eZ,dY,aH,dH,q⟩:=h
 obtain⟨ns,fs,rfl⟩:=vo hs
 obtain⟨nI,j1,dm,cD,os,aL,aeK,aeL,g1,g2,fM⟩:=cW
 obtain⟨il,kW,g6⟩:=aT.two
 have iz:g8 fs<=n:=by rw[bo]at cS;omega
 have ne:∀{b:ag},b∉[p]->b≠p:=fun h z=>h (ft.mpr z)
 rw[b2,if_neg (by decide)]at aH
 unfold vG at aH
 split at aH
 ·rename_i m x
  have hm:=Bn fs ns _ _ kW aH
  rw[xw fs ns _ hm kW]at aH
  have hk:=Ab hm
  have yq:ns[ns.idxOf m]?=J m:=by rw[c4 hk,List.getElem_idxOf hk]
  have yp:ns.idxOf m<fs.length:=by omega
  have qm:=c4 yp
  have l5:bD fw (.two 1 ns fs) (.tup [.str m,x])=dW (ns.idxOf m) (aF (fs.length-1))++bD fw fs[ns.idxOf m] x:=by
   rw[bD,if_neg (by decide)]
   show rN fw fs ns 0 _ m x=_
   rw[Be fs ns 0 m hm kW,Nat.zero_add,eL,qm];rfl
  rw[eL,qm]at aH
  rw[l5]at dH q
  have rn:=pV dH
  have eT:=sN dH
  have qp:=qZ rn cw
  have oA:=Fl rn
  rw[iM]at qp oA eT
  rw[ee,iM]at q
  have gw:=dO.step (j':=j+aF (fs.length-1)) (t':=t) (e':=e) c9
  obtain⟨oD,mO,tf⟩:=eQ.ge fs fM qm
  have rh:=b7.jN gw _ tf
  obtain⟨ov,yl⟩:=g6.get qm
  obtain⟨f6,f9,eR,li⟩:=b7.draw _ rh
  have qs:m.length<=16000000:=dj ((p5 il).2 m hm) (by decide)
  have jx:(((ns.map V.str).length:Nat):Int)-1=((fs.length-1:Nat):Int):=by rw[cq];omega
  refine⟨_,(aP (bZ 2 Ko.bB (bX nX az (ao (af 1) (ao (aS gb (cx ep I nb.ec ef (ao (dw (af 0) I) aB)) aD) aB)) (hk:=by omega)))
  (aQ (bx (js (ao (cV cX (dw (af 0) rfl) (af 2)) (ao (jq lU az (cV cX (dw (af 0) rfl) (af 2)) (ao (af 1) aB) (hk:=by omega)) aB)))))),?_⟩
  try dsimp only[cG,cH,cI,cJ]
  refine⟨_,I,_,I,o,c.t 1,j1,_,_,I,aL,T.cl,T.rB,h3 ..,_,_,I,.inl ⟨_,bF g1,I⟩,_,_,I,I,p,ai,l,j,ns.idxOf m,fs.length-1,t,e,by rw[<-jx];rfl,c9,aC,by omega,qp,oA,?_⟩
  refine⟨_,I,o,c.t 1,j1,_,_,I,gw.k _ _ (ne nI) aL,T.cl,T.rB,h3 ..,_,I,Cu (.inl (gw.k _ _ (ne aeK) g1)) (show(ns.map V.str)[ns.idxOf m]?=J (V.str m) by rw[e4,yq];rfl) ⟨_,rfl,o,c.t 1,j1,_,_,rfl,gw.k _ _ (ne nI) aL,T.cl,T.lN,ps _ _ _ _ ta,_,rfl,Cu (.inl (gw.k _ _ (ne aeL) g2)) (show(os.map V.ref)[ns.idxOf m]?=J (V.ref oD) by rw[e4,mO];rfl) ⟨oD,slot _,f6,f9,rfl,eR,li,_,rfl,oD,p,ai,_,x,l,j+aF (fs.length-1),t,e,X,rfl,rfl,rh,ov,by omega,aG,aC,qp,eZ,dO.alloc gw aG dY,aH,eT,fun v ax M2 dQ gJ=>⟨lz,fun tt rq=>?_⟩⟩⟩⟩
  have M:=gw.trans M2
  have E:=Ext.tup (xs:=[V.str m,v]) rq
  have Ha:tt∉X:=fun z=>by
   obtain⟨OM,f7⟩:=dO.alloc M gJ dY _ z
   rw[rq]at f7;cases f7
  refine⟨_,(M.ext E).sub (E.s _ _ gJ),q _ _ (M.ext E) ⟨tt,_,I,Ha,aG,⟨_,_,I,⟨I,qs⟩,v,[],I,dQ.same E.s,I⟩,by simp⟩ ?_⟩
  rw[E.s _ _ gJ,Nat.add_assoc]
 .cases aH
inductive Pr(C:ag)(vs:List V)(H:aq)(Q:bG)(E:bT):Prop where
 |mk (p ai:ag) (l:List Bool) (i:Nat) (s:List Int) (t b1:Bool) (bg:vs=[.ref p]) (al:H p=J (fe C ai l i t b1)) (aw:l.length<=16000000) (bq:i<=l.length) (b4:Good s) (eb:s.length<=1000) (ij:m9 s) (oj:j8 s <+: (l.map (xor t)).drop i) (pe:∀r,H r=av->Q (.ref r) (upd (upd H p (fe C ai l (i+(j8 s).length) t b1)) r (.tup [.int (fL s).1,.int (fL s).2]))):Pr C vs H Q E
def IJ(C:ag):b0:=fun vs H Q E=>Pr C vs H Q E
theorem LK(h:m9 s):∀x∈s,x.natAbs<2^1000:=by
 intro x ay
 obtain⟨i,aJ,rfl⟩:=List.mem_iff_getElem.mp ay
 have z:=h.at (c4 aJ)
 refine e3 (m:=2^256) ?_ (Nat.pow_le_pow_right (by decide) (by decide))
 split at z
 .unfold ib at z;omega
 .unfold hU at z;omega
theorem KU{b L:List Bool}(h:a++b <+: L.drop i):b <+: L.drop (i+a.length):=by
 obtain⟨u,e⟩:=h
 refine⟨u,?_⟩
 rw[<-List.drop_drop,<-e,h9,List.drop_left]
theorem MA{L:List Bool}(h:a <+: L.drop i)(aJ:i<=L.length):i+a.length<=L.length:=by
 have:=h.length_le
 rw[kv]at this
 omega
theorem K7{x:Int}(h:s[j]?=J x):s.take (j+1)=s.take j++[x]:=by rw[lu,h];rfl
structure l1(H ax:aq)(p r:ag)(o u:cZ):Prop where
 aO:ax p=J o
 az:ax r=J u
 hs:∀b v,b≠p->H b=J v->ax b=J v
theorem l1.uc{r:ag}{u o':cZ}(h:l1 H ax p r o u)(n:r≠p):l1 H (upd ax p o') p r o' u:=⟨aG,by rw[bt n];exact h.az,fun b v aj e=>by rw[bt aj];exact h.hs b v aj e⟩
theorem l1.ahf{r:ag}{u u':cZ}(h:l1 H ax p r o u)(n:r≠p)(az:H r=av):l1 H (upd ax r u') p r o u':=⟨by rw[bt (d1 n)];exact h.aO,aG,fun b v aj e=>by rw[bt (eB e az)];exact h.hs b v aj e⟩
theorem l1.free{r b:ag}{u:cZ}(h:l1 H ax p r o u)(e:ax b=av):H b=av:=by
 cases q:H b with
 |none=>rfl
 |some v =>
  by_cases aj:b=p
  .subst aj;rw[h.aO]at e;cases e
  .rw[h.hs b v aj q]at e;cases e
inductive QO(C:ag)(vs:List V)(H:aq)(Q:bG)(E:bT):Prop where
 |mk (p ai:ag) (z:ah) (i:Int) (t e:Bool) (u v:Int) (bg:vs=[.ref p,.int v]) (al:H p=J (.ins C ai (f3 z i t e u))) (aw:Q .bc (upd H p (.ins C ai (f3 z i t e v)))):QO C vs H Q E
def QN(C:ag):b0:=fun vs H Q E=>QO C vs H Q E
theorem Tg(T:ve K C)(F:c1 K "wish" "Source.wish" zV f fd):cv P w K mg base c8 1 f fd ["self","sign"] (QN C):=by
 refine F.ok Vv (fun vs H Q E h=>?_) (fun bl A _ s H vs Q E az h=>?_)
 .obtain⟨p,ai,z,i,t,e,u,v,rfl,_⟩:=h;rfl
 obtain⟨p,ai,z,i,t,e,u,v,rfl,aO,q⟩:=h
 refine⟨_,(aQ (hO (af 0) (af 1) I)),?_⟩
 try dsimp only[cG,cH,cI,cJ]
 refine⟨_,I,_,I,p,C,ai,_,I,aO,T.cl,T.CC,(by show 5<1000;decide),?_⟩
 rw[K2]
 exact q
theorem U2(nb:dD mg)(eg:ff K C)(F:dS K mg "draw_fraction" Eg ["source"] f fd)(gN:fZ P w K mg base 1 C "draw" ["self"] (oM C))(lY:fZ P w K mg base 1 C "turn" ["self"] (zg C))(zQ:fZ P w K mg base 1 C "wish" ["self","sign"] (QN C))(lX:fZ P w K mg base 1 C "refuse" ["self"] ue)(qL:bp P w K mg base 4 "draw_whole" ["source"] (CW C))(sa:bp P w K mg base 3 "draw_count" ["source"] (II C))
  (uC:bp P w K mg base 1 "are_steps" ["steps"] IG) (DE:bp P w K mg base 2 "fraction_of" ["steps"] PC):bp P w K mg base 5 "draw_fraction" ["source"] (IJ C):=by
 refine F.ez Ki (fun bl A _ s H vs Q E az h=>?_)
 obtain⟨p,ai,l,i,s,t,b1,rfl,aO,aC,aJ,bb,rp,b8,hc,q⟩:=h
 refine⟨_,(aP (bZ 1 Ki.bB (eJ (ao (bX qL az (ao (af 0) aB)) aB)))
  (aP (q0 h5.never (b6 dk (ig gN eg az (af 0)) aD)
   (aP (ih (ig lY eg az (af 0)))
   (aP (ih (sJ zQ eg az (af 0) (ao aD aB)))
   (aP (ih (jW PySem.F.plainAttrs_list PySem.F.slot_list_append PySem.F.type_list_append sq (af 1) (ao (aS ed (bX sa az (ao (af 0) aB)) aD) aB)))
   (aQ (cz (b6 dk (cV cX (af 1) (lD ly aD)) aD) (aQ (ih (sJ zQ eg az (af 0) (ao aD aB)))) cy))))))
  (aP (cz (i6 (hy (bX uC az (ao (af 1) aB)))) (aQ (ih (ig lX eg az (af 0)))) cy)
  (aP (cz (b6 dk (aS d2 (cx ep rfl nb.ec ef (ao (af 1) aB)) aD) aD) (aQ (ih (ig lY eg az (af 0)))) cy)
  (aQ (bx (bX DE az (ao (af 1) aB)))))))),?_⟩
 try dsimp only[cG,cH,cI,cJ]
 have OL:∀(z:ah)(i:Int)(t e:Bool){u:Int},(f3 z i t e u).lookup ("wish":ah)=av:=fun _ _ _ _=>lA _ _ _ _ (by decide+kernel) (by decide+kernel) (by decide+kernel)
 have nm:∀(z:ah)(i:Int)(t e:Bool){u:Int},(f3 z i t e u).lookup ("draw":ah)=av:=fun _ _ _ _=>lA _ _ _ _ (by decide+kernel) (by decide+kernel) (by decide+kernel)
 have tO:∀(z:ah)(i:Int)(t e:Bool){u:Int},(f3 z i t e u).lookup ("turn":ah)=av:=fun _ _ _ _=>lA _ _ _ _ (by decide+kernel) (by decide+kernel) (by decide+kernel)
 obtain⟨a,aK,rfl⟩:=List.exists_cons_of_ne_nil bb.ne
 have bh:=b8.1 a (ft.mpr rfl)
 have mb:ha a++more aK <+: (l.map (xor t)).drop i:=hc
 have N2:(l.map (xor t)).length=l.length:=cq ..
 refine⟨_,I,p,ai,l,i,a,t,b1,I,aO,aC,aJ,bh,⟨_,(h9 ..).symm.trans mb.choose_spec⟩,(by show 1<=bU;decide),fun r eT=>?_⟩
 have nD:r≠p:=fun z=>by rw[z,aG]at eT;cases eT
 have Oc:H r=av:=by rw[bt nD]at eT;exact eT
 have z6:l1 H (upd (upd H p (fe C ai l (i+(ha a).length) t b1)) r (.lst [V.int a])) p r (fe C ai l (i+(ha a).length) t b1) (.lst [V.int a]):=⟨by rw[bt (d1 nD)];exact aG,aG,fun b v aj e=>by rw[bt (eB e Oc),bt aj];exact e⟩
 obtain⟨s,hs⟩:∃s,s=a::aK:=⟨_,rfl⟩
 have qq:0<s.length:=by rw[hs];exact Nat.succ_pos _
 have tq:(j8 s).length=(ha a).length+(more aK).length:=by rw[hs];exact ee
 rw[<-hs]at bb rp b8 q
 refine⟨fun m ae ax=>∃(j aa:Nat)(T:Bool)(u:Int),1<=j/\j<=s.length/\m=s.length-j/\ae=[J (.ref p),J (.ref r)]/\l1 H ax p r (zh C ai l aa T b1 u) (.lst ((s.take j).map V.int))/\more (s.drop j) <+: (l.map (xor T)).drop aa/\aa<=l.length/\aa+(more (s.drop j)).length=i+(j8 s).length/\T=(t ^^ odd (j+1)),
  ⟨s.length-1,1,i+(ha a).length,t,0,cE _,qq,rfl,rfl,?_,?_,?_,?_,?_⟩,?_⟩
 .rw[hs];exact z6
 .rw[hs];exact KU mb
 .have:=MA (a:=ha a) ⟨_,(h9 ..).symm.trans mb.choose_spec⟩ (by rw[N2];exact aJ);rw[N2]at this;exact this
 .rw[tq];subst hs;show i+(ha a).length+(more aK).length=_;omega
 .cases t<;>rfl
 rintro m ae ax ⟨j,aa,T,u,NW,qo,rfl,rfl,S,qu,fM,cB,cc⟩
 have N1:(l.map (xor T)).length=l.length:=cq ..
 rcases hv j s.length with cw|cw
 ·
  have Cq:s[j]?=J (s[j]'cw):=c4 cw
  have gp:=b8.at Cq
  rw[if_neg (by omega)]at gp
  have j2:s.drop j=s[j]'cw::s.drop (j+1):=q4 cw
  generalize s[j]'cw=b at Cq gp j2
  rw[j2]at qu cB
  obtain⟨gn,fQ,NG⟩:=Bj qu
  rw[N1]at gn
  obtain⟨bit,vW,yc⟩:=get_map (l:=l) (t:=T) (i:=aa) gn
  rw[fQ]at yc
  have yb:=Kp NG
  rw[List.map_drop,KG]at yb
  have ajP:=gp.1
  have ajQ:=gp.2
  obtain⟨n,aZ⟩:∃n:Nat,n=(b-1).toNat:=⟨_,rfl⟩
  rw[<-aZ]at yb
  refine⟨_,I,p,ai,_,I,S.aO,nm ..,p,ai,l,aa,T,b1,bit,I,⟨_,S.aO⟩,aC,vW,I,_,I,?_⟩
  rw[<-yc]
  refine hC I ⟨fun bR H'=>∃bY,bY<s.length-j/\∃(j aa:Nat)(T:Bool)(u:Int),1<=j/\j<=s.length/\bY=s.length-j/\bR=[J (.ref p),J (.ref r)]/\l1 H H' p r (zh C ai l aa T b1 u) (.lst ((s.take j).map V.int))/\more (s.drop j) <+: (l.map (xor T)).drop aa/\aa<=l.length/\aa+(more (s.drop j)).length=i+(j8 s).length/\T=(t ^^ odd (j+1)),fun _ _ h=>h,?_⟩
  have gD:=S.uc (o':=fe C ai l (aa+1) T b1) nD
  refine⟨_,I,p,ai,_,I,gD.aO,tO ..,p,ai,l,_,_,_,_,I,gD.aO,?_⟩
  have hW:=gD.uc (o':=fe C ai l (aa+1) (!T) b1) nD
  refine⟨_,I,p,ai,_,I,hW.aO,OL ..,p,ai,aR l,_,!T,b1,0,1,I,hW.aO,?_⟩
  have Ej:=hW.uc (o':=zh C ai l (aa+1) (!T) b1 1) nD
  refine⟨_,I,.inl ⟨I,_,bF Ej.az⟩,_,I,p,ai,l,aa+1,n,!T,b1,I,⟨_,Ej.aO⟩,aC,gn,(by omega),⟨_,(h9 ..).symm.trans yb.choose_spec⟩,.inl ⟨_,_,I,I,?_⟩⟩
  have h8:=Ej.uc (o':=fe C ai l (aa+1+(cnt n).length) (!T) b1) nD
  refine⟨_,_,_,I,I,h8.az,(by rw[nE,jn];exact e3 (show min j s.length<100001 by omega) (wF (by decide))),?_⟩
  have jY:=h8.ahf (u' :=.lst ((s.take j).map V.int++[V.int ((n:Int)+1)])) nD Oc
  have fk:(n:Int)+1=b:=by omega
  have BP:(s.take j).map V.int++[V.int ((n:Int)+1)]=(s.take (j+1)).map V.int:=by rw[K7 Cq,gf,fk];rfl
  rw[BP]at jY
  have fR:=MA (a:=cnt n) ⟨_,(h9 ..).symm.trans yb.choose_spec⟩ (by rw[cq];exact gn)
  rw[cq]at fR
  have Nm:∀(u:Int)(gv:aq),l1 H gv p r (zh C ai l (aa+1+(cnt n).length) (!T) b1 u) (.lst ((s.take (j+1)).map V.int))->∃bY,bY<s.length-j/\∃(j aa:Nat)(T:Bool)(u:Int),1<=j/\j<=s.length/\bY=s.length-j/\[J (V.ref p),J (.ref r)]=[J (.ref p),J (.ref r)]/\l1 H gv p r (zh C ai l aa T b1 u) (.lst ((s.take j).map V.int))/\more (s.drop j) <+: (l.map (xor T)).drop aa/\aa<=l.length/\aa+(more (s.drop j)).length=i+(j8 s).length/\T=(t ^^ odd (j+1)):=fun u gv x9=>by
   refine⟨s.length-(j+1),by omega,j+1,aa+1+(cnt n).length,!T,u,by omega,by omega,rfl,rfl,x9,KU yb,fR,?_,?_⟩
   ·have M4:(more (b::s.drop (j+1))).length=1+((cnt n).length+(more (s.drop (j+1))).length):=by
     rw[more,eA,cq,ee,<-aZ];omega
    rw[M4]at cB
    omega
   .rw[cc,Bh (j+1)];cases t<;>cases odd (j+1)<;>rfl
  dsimp only
  rw[BP]
  have kc:s.take (j+1)≠[]:=by rw[K7 Cq];exact List.append_ne_nil_of_right_ne_nil _ (p4 _ _)
  refine⟨_,I,_,I,.inl (.inl ⟨_,_,_,_,I,I,bF jY.az,Fz kc,I,_,I,?_⟩)⟩
  refine fm (fun c=>?_) (fun c=>?_)
  ·refine⟨_,I,p,ai,_,I,jY.aO,OL ..,p,ai,aR l,_,!T,b1,0,1,I,jY.aO,?_⟩
   exact Nm 1 _ (jY.uc nD)
  .exact Nm 0 _ jY
 ·
  have g5:j=s.length:=by omega
  have j2:s.drop j=[]:=by rw[g5];exact List.drop_length ..
  have kB:s.take j=s:=by rw[g5];exact List.take_length ..
  rw[j2]at qu cB
  rw[kB]at S
  obtain⟨gn,fQ,NG⟩:=Bj qu
  rw[N1]at gn
  obtain⟨bit,vW,yc⟩:=get_map (l:=l) (t:=T) (i:=aa) gn
  rw[fQ]at yc
  refine⟨_,I,p,ai,_,I,S.aO,nm ..,p,ai,l,aa,T,b1,bit,I,⟨_,S.aO⟩,aC,vW,I,_,I,?_⟩
  rw[<-yc]
  refine fv (by decide) ?_
  have gD:=S.uc (o':=fe C ai l (aa+1) T b1) nD
  have Z1:aa+1=i+(j8 s).length:=cB
  refine⟨_,I,r,s,I,gD.az,by omega,_,rfl,?_⟩
  rw[(Lq s).mpr bb]
  refine dx ⟨_,I,_,_,I,.inl ⟨_,bF gD.az,I⟩,_,_,I,I,(by show(0:Int)<2;decide),I,_,I,?_⟩
  rw[nE]
  have cY:∀{bJ:aq},l1 H bJ p r (fe C ai l (aa+1) t b1) (.lst (s.map V.int))->∀dB,bJ dB=av->hX H (upd bJ dB (.tup [.int (fL s).1,.int (fL s).2])) (Q (.ref dB)):=fun{bJ}h8 dB Hx=>by
   have aH:=h8.free Hx
   have ew:p≠dB:=fun z=>by rw[<-z,h8.aO]at Hx;cases Hx
   refine⟨_,Sub.HS aO aH (fun b u aj e=>by rw[bt (eB e aH)];exact h8.hs b u aj e) (by rw[bt ew];exact h8.aO) aG trivial,?_⟩
   rw[Z1]
   exact q dB aH
  refine fm (fun c=>?_) (fun c=>?_)
  ·have ajU:s.length%2=0:=by have:=V.int.inj c;omega
   have fj:(!T)=t:=by
    rw[cc,g5,Bh]
    have:odd s.length=aA:=gd (by omega)
    rw[this];cases t<;>rfl
   refine⟨_,I,p,ai,_,I,gD.aO,tO ..,p,ai,l,_,_,_,_,I,gD.aO,?_⟩
   have hW:=gD.uc (o':=fe C ai l (aa+1) (!T) b1) nD
   refine⟨_,I,r,s,I,hW.az,rp,LK b8,bb,?_⟩
   rw[fj]at hW
   rw[fj]
   exact cY hW
  ·have acy:s.length%2=1:=by
    have:¬s.length%2=0:=fun z=>c (congrArg V.int (by omega))
    omega
   have fj:T=t:=by
    rw[cc,g5,Bh]
    have:odd s.length=au:=fu acy
    rw[this];cases t<;>rfl
   subst fj
   exact⟨_,I,r,s,I,gD.az,rp,LK b8,bb,cY gD⟩
theorem Zl(F:c1 K "draw" "Whole.draw" AD f fd)(qL:bp P w K mg base 4 "draw_whole" ["source"] (CW C)):cv P w K mg base c8 5 f fd ["self","source"] (ki has bw fw c C n (.b 2)):=by
 refine F.fA VT (fun bl A _ s H vs Q E az h=>?_)
 obtain⟨o,p,ai,aW,d,l,j,t,e,X,rfl,hs,cW,aT,cS,c9,aC,cw,eZ,dY,aH,dH,q⟩:=h
 have:=ni hs
 subst this
 rw[bD]at q dH
 rw[b2]at aH
 cases d with
 |int v =>
  have aH:ib v:=lr aH
  have dH:ha v <+: sees l t j:=dH
  have M:=dO.step (j':=j+(ha v).length) (t':=t) (e':=e) c9
  refine⟨_,(aQ (bx (bX qL az (ao (af 1) aB)))),?_⟩
  try dsimp only[cG,cH,cI,cJ]
  refine⟨_,I,p,ai,l,j,v,t,e,I,c9,aC,cw,aH,dH,_,M.sub aG,?_⟩
  exact q _ _ M I aG
 |_=>cases aH
theorem Xj(ab1:∀d,bw d=au->∃s,Good s/\s.length<=1000/\m9 s/\d=.tup [.int (fL s).1,.int (fL s).2]/\fw d=j8 s)(F:c1 K "draw" "Fraction.draw" As f fd)(w1:bp P w K mg base 5 "draw_fraction" ["source"] (IJ C)):cv P w K mg base c8 6 f fd ["self","source"] (ki has bw fw c C n (.b 3)):=by
 refine F.fA U0 (fun bl A _ s H vs Q E az h=>?_)
 obtain⟨o,p,ai,aW,d,l,j,t,e,X,rfl,hs,cW,aT,cS,c9,aC,cw,eZ,dY,aH,dH,q⟩:=h
 have:=ni hs
 subst this
 rw[bD]at q dH
 rw[b2]at aH
 have aH:bw d=au:=by cases d<;>exact aH
 have l5:MT fw 3 d=fw d:=by cases d<;>rfl
 rw[l5]at q dH
 obtain⟨s,bb,rp,b8,rfl,j5⟩:=ab1 d aH
 rw[j5]at q dH
 have gw:=dO.step (j':=j+(j8 s).length) (t':=t) (e':=e) c9
 refine⟨_,(aQ (bx (bX w1 az (ao (af 1) aB)))),?_⟩
 try dsimp only[cG,cH,cI,cJ]
 refine⟨_,I,p,ai,l,j,s,t,e,I,c9,aC,cw,bb,rp,b8,dH,fun r eT=>?_⟩
 have nD:r≠p:=fun z=>by rw[z,c9]at eT;cases eT
 have E:=Ext.tup (xs:=[.int (fL s).1,.int (fL s).2]) (show upd H p (fe C ai l (j+(j8 s).length) t e) r=av by rw[bt nD];exact eT)
 have M:=gw.ext E
 have fresh:r∉X:=fun z=>by
  obtain⟨OM,f7⟩:=dY _ z
  rw[eT]at f7;cases f7
 exact⟨_,M.sub (E.s _ _ aG),q _ _ M ⟨r,[.int (fL s).1,.int (fL s).2],I,fresh,aG,⟨.int (fL s).1,[.int (fL s).2],I,I,⟨.int (fL s).2,[],I,I,I⟩⟩,by simp⟩ (E.s _ _ aG)⟩
noncomputable def wD{α:Type}(a0 a1 a2 a3 a4 a5 a6 a7 a8 a9 a10:α):fI->α
 |.b 0=>a0
 |.b 1=>a1
 |.b 2=>a2
 |.b _=>a3
 |.s=>a4
 |.l=>a5
 |.o 0=>a6
 |.o 1=>a7
 |.o _=>a8
 |.t 0=>a9
 |.t _=>a10
theorem sQ{p:fI->Prop}(bg:p (.b 0))(al:p (.b 1))(aw:p (.b 2))(bq:p (.b 3))(b4:p .s)(eb:p .l)(ij:p (.o 0))(oj:p (.o 1))(pe:p (.o 2))(rf:p (.t 0))(abl:p (.t 1)):∀i,p i
 |.b k=>by rcases xX k with rfl|rfl|rfl|rfl<;>assumption
 |.s=>b4
 |.l=>eb
 |.o k=>by rcases vI k with rfl|rfl|rfl<;>assumption
 |.t k=>by rcases BZ k with rfl|rfl<;>assumption
def qY(K:bK)(c:dF)(m:ah)(q:fI->ah)(st:fI->bz)(aI:List ah):Prop:=∀i,MethAt K (fJ c i) m (q i) (st i) aI
theorem fg{K:bK}{C:ag}{m:ah}{st:bz}{sp:b0}(M:MethAt K C m q st aI)(h:∀f fd,c1 K m q st f fd->cv P w K mg base c8 k f fd aI sp):fZ P w K mg base k C m aI sp/\ff K C:=by
 obtain⟨f,fd,G,aj,hm⟩:=M.ex
 exact⟨⟨f,fd,h f fd G,aj,hm⟩,M.cl⟩
structure z9(K:bK)(c:dF):Prop where
 Jd:vd K c.s
 Jb:su K c.l
 qH:∀k,kN K (c.o k)
 wJ:∀k,n3 K (c.t k)
noncomputable def hasAll:fI->Bool:=fun _=>au
noncomputable def FZ:fI->ah:=wD "Nothing.fits" "Truth.fits" "Whole.fits" "Fraction.fits" "Span.fits" "Letters.fits" "Maybe.fits" "Many.fits" "Turned.fits" "Record.fits" "Choice.fits"
noncomputable def F5:fI->bz:=wD zI AE AB Ar AO zL AK AS zT zZ z1
noncomputable def Fq:fI->ah:=wD "Nothing.written" "Truth.written" "Whole.written" "Fraction.written" "Span.written" "Letters.written" "Maybe.written" "Many.written" "Turned.written" "Record.written" "Choice.written"
noncomputable def Fy:fI->bz:=wD Ag Ap Ao Ax zH Ah Aq zK Ai Ak Am
noncomputable def F0:fI->ah:=wD "Nothing.draw" "Truth.draw" "Whole.draw" "Fraction.draw" "Span.draw" "Letters.draw" "Maybe.draw" "Many.draw" "Turned.draw" "Record.draw" "Choice.draw"
noncomputable def F6:fI->bz:=wD zJ AF AD As AP zM AL AU zU z0 z2
theorem YL(nb:dD mg)(L:z9 K c)(S:qY K c "fits" FZ F5 ["self","value"])(pd:ek mg "MOST_VALUES" (.int 60))(pb:ek mg "LONGEST_TEXT" (.int 200))(m6:bp P w K mg base 1 "is_number" ["value"] zb)(sb:bp P w K mg base 2 "has_whole_row" ["n"] IM)(nZ:bp P w K mg base 1 "made_of" ["text","signs"] zc)(w2:bp P w K mg base 3 "has_fraction_row" ["fraction"] IL):∀n,hT P w K mg base (2*n+4) "fits" ["self","value"] (fJ c) (jy hasAll j7 c n):=by
 intro n
 induction n with
 |zero=>exact fun i=>⟨Ft (S i) (fun vs H Q E z=>by obtain⟨o,f,_,_,_,_,_,_,h,_⟩:=z;have:=xJ f;omega),(S i).cl⟩
 |succ n bQ=>exact sQ (fg (S _) fun _ _ G=>(Vm G).mono (by omega)) (fg (S _) fun _ _ G=>(Wa G).mono (by omega)) (fg (S _) fun _ _ G=>(VK G m6 sb).mono (by omega)) (fg (S _) fun _ _ G=>(US nb G m6 w2).mono (by omega)) (fg (S _) fun _ _ G=>(WG L.Jd G m6).mono (by omega)) (fg (S _) fun _ _ G=>(Vo nb pb L.Jb G nZ).mono (by omega)) (fg (S _) fun _ _ G=>(Wb nb (L.qH 0) G bQ).mono (by omega)) (fg (S _) fun _ _ G=>(WH nb pd (L.qH 1) G bQ).mono (by omega)) (fg (S _) fun _ _ G=>(Vl (L.qH 2) G bQ).mono (by omega)) (fg (S _) fun _ _ G=>(VL nb (L.wJ 0) G bQ).mono (by omega)) (fg (S _) fun _ _ G=>(Vp nb (L.wJ 1) G bQ).mono (by omega))
theorem Xp(nb:dD mg)(L:z9 K c)(S:qY K c "written" Fq Fy ["self","value"])(xb:fZ P w K mg base 1 c.l "places" ["self","text"] (IV c.l))(qO:bp P w K mg base 3 "whole_row" ["n"] AV)(nY:bp P w K mg base 2 "fixed_row" ["n","most"] y9)(n0:bp P w K mg base 1 "turned_row" ["row"] xi)(qN:bp P w K mg base 1 "steps_of" ["fraction"] C3)(w4:bp P w K mg base 4 "row_of_steps" ["steps"] IX):∀n,hT P w K mg base (2*n+4) "written" ["self","value"] (fJ c) (jP hasAll fh dv c n):=by
 intro n
 induction n with
 |zero=>exact fun i=>⟨Ft (S i) (fun vs H Q E z=>by obtain⟨o,f,_,_,_,_,_,_,h,_⟩:=z;have:=xJ f;omega),(S i).cl⟩
 |succ n bQ=>exact sQ (fg (S _) fun _ _ G=>(UG G).mono (by omega)) (fg (S _) fun _ _ G=>(U3 G).mono (by omega)) (fg (S _) fun _ _ G=>(UO G qO).mono (by omega)) (fg (S _) fun _ _ G=>(UD G qN w4).mono (by omega)) (fg (S _) fun _ _ G=>(U4 L.Jd G nY).mono (by omega)) (fg (S _) fun _ _ G=>(UH nb L.Jb G (S .l).cl xb nY).mono (by omega)) (fg (S _) fun _ _ G=>(U5 nb (L.qH 0) G bQ).mono (by omega)) (fg (S _) fun _ _ G=>(Vn nb (L.qH 1) G bQ).mono (by omega)) (fg (S _) fun _ _ G=>(UP (L.qH 2) G n0 bQ).mono (by omega)) (fg (S _) fun _ _ G=>(UQ nb (L.wJ 0) G bQ).mono (by omega)) (fg (S _) fun _ _ G=>(UT nb (L.wJ 1) G nY bQ).mono (by omega))
theorem SP{C:ag}(nb:dD mg)(L:z9 K c)(S:qY K c "draw" F0 F6 ["self","source"])(eg:ff K C)(pd:ek mg "MOST_VALUES" (.int 60))(pb:ek mg "LONGEST_TEXT" (.int 200))(gN:fZ P w K mg base 1 C "draw" ["self"] (oM C))(lY:fZ P w K mg base 1 C "turn" ["self"] (zg C))(lX:fZ P w K mg base 1 C "refuse" ["self"] ue)(nX:bp P w K mg base 2 "draw_fixed" ["source","most"] (y8 C))(qL:bp P w K mg base 4 "draw_whole" ["source"] (CW C))(w1:bp P w K mg base 5 "draw_fraction" ["source"] (IJ C)):∀n,hT P w K mg base (2*n+4) "draw" ["self","source"] (fJ c) (ki hasAll fh dv c C n):=by
 intro n
 induction n with
 |zero=>exact fun i=>⟨Ft (S i) (fun vs H Q E z=>by obtain⟨o,_,_,f,_,_,_,_,_,_,_,_,_,_,h,_⟩:=z;have:=xJ f;omega),(S i).cl⟩
 |succ n bQ=>exact sQ (fg (S _) fun _ _ G=>(XS G).mono (by omega)) (fg (S _) fun _ _ G=>(Zm eg G gN).mono (by omega)) (fg (S _) fun _ _ G=>(Zl G qL).mono (by omega)) (fg (S _) fun _ _ G=>(Xj (fun _ h=>Xh h) G w1).mono (by omega)) (fg (S _) fun _ _ G=>(TC L.Jd G nX).mono (by omega)) (fg (S _) fun _ _ G=>(XT nb pb eg L.Jb G gN lX nX).mono (by omega)) (fg (S _) fun _ _ G=>(Zn eg (L.qH 0) G gN bQ).mono (by omega)) (fg (S _) fun _ _ G=>(TF nb pd eg (L.qH 1) G gN lX bQ).mono (by omega)) (fg (S _) fun _ _ G=>(YB eg (L.qH 2) G lY bQ).mono (by omega)) (fg (S _) fun _ _ G=>(YC nb (L.wJ 0) G bQ).mono (by omega)) (fg (S _) fun _ _ G=>(YD nb (L.wJ 1) G nX bQ).mono (by omega))
theorem b7.row{c:dF}(f:bN){o:ag}(h:b7 c X H f o):∃ai fs,H o=J (.ins (fJ c (slot f)) ai fs)/\fs.lookup (ah.ofString "row")=av :=
 b7.ins (m:=ah.ofString "row") (by decide+kernel) (by decide+kernel) (by decide+kernel) (by decide+kernel) (by decide+kernel) (by decide+kernel) f h
theorem dO.new(x:Ext H H1)(bg:H p=av)(m:dO p H1 ax):Ext H ax:=⟨fun b u e=>m.k b u (fun z=>by rw[z,bg]at e;cases e) (x.s b u e),fun cl=>m.c (x.c cl)⟩
theorem Bw{K:bK}{C:ag}{m:ah}{st:bz}{sp:b0}(M:MethAt K C m q st aI)(h:∀f fd,c1 K m q st f fd->cv P w K mg base (hJ P w) k f fd aI sp):p1 P w K mg base k C m aI sp/\ff K C:=by
 obtain⟨f,fd,G,aj,hm⟩:=M.ex
 exact⟨⟨f,fd,h f fd G,aj,hm⟩,M.cl⟩
mutual
theorem vz:∀(f:bN)(d:D),b2 fh f d=au->b2 j7 f d=au
 | .bare k,d,h=>by
  rw[sL]at h ⊢
  rcases xX k with rfl|rfl|rfl|rfl
  .cases d<;>exact h
  .cases d<;>exact h
  .cases d<;>exact h
  ·have h:fh d=au:=by cases d<;>exact h
   have:=Ue h
   cases d<;>exact this
 |.sp a b,d,h=>by rw[b2]at h ⊢;exact h
 |.le s,d,h=>by rw[b2]at h ⊢;exact h
 | .one k f,d,h=>by
  rw[b2]at h ⊢
  unfold Iq at h ⊢
  rcases vI k with rfl|rfl|rfl
  ·rw[if_pos rfl]at h ⊢
   unfold rA at h ⊢
   split at h
   .rfl
   .exact vz f _ h
   .cases h
  ·rw[if_neg (by decide),if_pos rfl]at h ⊢
   unfold wq at h ⊢
   split at h
   ·rename_i ds
    have h:=nc.mp h
    exact nc.mpr ⟨h.1,i5.mpr fun x ay=>vz f x (i5.mp h.2 x ay)⟩
   .cases h
  ·rw[if_neg (by decide),if_neg (by decide)]at h ⊢
   exact vz f d h
 | .two k ns fs,d,h=>by
  rw[b2]at h ⊢
  by_cases z:k=0
  ·rw[if_pos z]at h ⊢
   cases d with
   |tup ds=>exact ML fs ds h
   |_=>cases h
  ·rw[if_neg z]at h ⊢
   unfold vG at h ⊢
   split at h
   .exact MM fs ns _ _ h
   .cases h
theorem ML:∀(fs:List bN)(ds:List D),fy fh fs ds=au->fy j7 fs ds=au
 |[],ds,h=>by rw[fy]at h ⊢;exact h
 |f::fs,[],h=>by rw[fy]at h;cases h
 |f::fs,d::ds,h=>by
  rw[fy]at h ⊢
  have h:(b2 fh f d&&fy fh fs ds)=au:=h
  obtain⟨al,aw⟩:=nc.mp h
  exact nc.mpr ⟨vz f d al,ML fs ds aw⟩
theorem MM:∀(fs:List bN)(ns:List ah)(n:ah)(x:D),jv fh fs ns n x=au->jv j7 fs ns n x=au
 |[],ns,n,x,h=>by rw[jv]at h;cases h
 | f::fs,ns,n,x,h=>by
  rw[jv]at h ⊢
  by_cases z:ns.head?=J n
  ·rw[if_pos z]at h ⊢
   exact vz f x h
  ·rw[if_neg z]at h ⊢
   exact MM fs ns.tail n x h
end
inductive Qs(eE:ag)(c:dF)(n:Nat)(vs:List V)(H:aq)(Q:bG)(E:bT):Prop where
 |mk (o:ag) (f:bN) (v:V) (d:D) (bg:vs=[.ref o,v]) (al:b7 c [] H f o) (aw:kg hasAll f) (bq:bo f<=n) (b4:d4 H d v) (eb:oE d) (ij:((b2 fh f d=au/\(bD dv f d).length<=15000000/\Q (.str (aR (bD dv f d))) H)\/(b2 j7 f d=aA/\E (.ref eE) av H))):Qs eE c n vs H Q E
def zf(eE:ag)(c:dF)(n:Nat):b0:=fun vs H Q E=>Qs eE c n vs H Q E
theorem WI{f:ag}(zo:Dt K eE qd "ValueError.__new__"=au)(vN:mg "NoFit"=J (.ref eE))(F:c1 K "row" "Form.row" kR f fd)(jU:hT P w K mg base (2*n+4) "fits" ["self","value"] (fJ c) (jy hasAll j7 c n))(la:hT P w K mg base (2*n+4) "written" ["self","value"] (fJ c) (jP hasAll fh dv c n)):cv P w K mg base (hJ P w) (2*n+4+1) f fd ["self","value"] (zf eE c n):=by
 refine F.yS WX (fun bl A _ s H vs Q E az h=>?_)
 obtain⟨o,aW,v,d,rfl,cW,aT,cS,hd,e8,q⟩:=h
 obtain⟨f6,f9,eR,li⟩:=b7.fits aW cW
 obtain⟨ZX,aaO,g5,ad1⟩:=b7.written aW cW
 refine⟨_,(aP (cz (i6 (hy (jq jU az (af 0) (ao (af 1) aB) (hk:=by omega)))) (aQ (LM K6 zo vN az.hd (ao cT aB))) cy)
  (aQ (bx (jq la az (af 0) (ao (af 1) aB) (hk:=by omega))))),?_⟩
 try dsimp only[cG,cH,cI,cJ]
 refine⟨_,I,o,slot aW,f6,f9,I,eR,li,_,I,o,aW,v,d,I,I,cW,aT,cS,hd,e8,b2 j7 aW d,I,?_⟩
 rcases q with⟨al,aw,q⟩|⟨al,q⟩
 ·rw[vz aW d al]
  exact dx ⟨_,I,o,slot aW,ZX,aaO,I,g5,ad1,_,I,o,aW,v,d,I,I,cW,aT,cS,hd,al,aw,H,.refl (cF _),q⟩
 ·rw[al]
  exact eC ⟨mw,H,.refl (cF _),q⟩
theorem SO(zo:Dt K eE qd "ValueError.__new__"=au)(vN:mg "NoFit"=J (.ref eE))(S:qY K c "row" (fun _=>"Form.row") (fun _=>kR) ["self","value"])(jU:hT P w K mg base (2*n+4) "fits" ["self","value"] (fJ c) (jy hasAll j7 c n))(la:hT P w K mg base (2*n+4) "written" ["self","value"] (fJ c) (jP hasAll fh dv c n)):wZ P w K mg base (2*n+5) "row" ["self","value"] (fJ c) (fun _=>zf eE c n):=fun i=>Bw (S i) fun _ _ G=>WI zo vN G jU la
theorem Jj{p:eW->Prop}{D:Ends}(T:eW)(h:p T)(g:∀(G:Prop)(bR:St),bR=ae->(T D bR H->G)->G):∃T,p T/\T D ae H:=g _ ae rfl fun k=>⟨T,h,k⟩
theorem k6{JM:bK}{R:eW}{D:Ends}{w:V}{r:List V}(ay:ae[i]?=J (J (.ref T)))(e:H T=J (.tup (w::r)))(h:R D (ae.set j (J w)) H):mj (wI (pE (fun x y H Q=>(IC JM x y H Q\/IE JM x y H Q)\/ID x y H Q) (wK i) (pD (.int 0))) (vJ j)) R D ae H:=⟨_,ay,.inl (.inr ⟨_,_,_,_,rfl,rfl,dK e,dz (j:=0) rfl,h⟩)⟩
theorem ia{w x:ah}{R:eW}{D:Ends}(ay:ae[i]?=J (J (.str x)))(aZ:¬V.str x=V.str w)(h:R D ae H):mj (Ja (C9 (pE CR (wK i) (pD (.str w)))) S Jc) R D ae H:=⟨_,ay,rfl,_,rfl,fv aZ h⟩
theorem lC{w:ah}{R:eW}{D:Ends}(ay:ae[i]?=J (J (.str w)))(h:∀N:St->aq->Prop,S {D with nx:=N} ae H):mj (Ja (C9 (pE CR (wK i) (pD (.str w)))) S Jc) R D ae H:=⟨_,ay,rfl,_,rfl,hC rfl (h _)⟩
theorem gU{R:eW}{D:Ends}(h:∀N:St->aq->Prop,(∀ae H,R D ae H->N ae H)->S {D with nx:=N} ae H):mj S R D ae H:=h _ fun _ _ z=>z
inductive P1(vs:List V)(H:aq)(Q:bG)(E:bT):Prop where
 |mk (c:Int) (bg:vs=[.int c]) (al:∀n:Nat,n+1<2^255->Q (.int n) H):P1  vs H Q E
def P0:b0:=fun vs H Q E=>P1  vs H Q E
theorem YR(c:Int)(bg:c%5≠0)(al:c%5≠1):∃M:Int,e5 [V.int 5,V.int 40,V.int 1000] (c%5-2)=J (.int M)/\0<M/\M<=1000:=by
 have h:c%5-2=((0:Nat):Int)\/c%5-2=((1:Nat):Int)\/c%5-2=((2:Nat):Int):=by omega
 rcases h with h|h|h<;>rw[h]
 .exact⟨_,dz I,by decide,by decide⟩
 .exact⟨_,dz I,by decide,by decide⟩
 .exact⟨_,dz I,by decide,by decide⟩
theorem T5{x:Int}(h:0<=x):∃n:Nat,x=n:=⟨x.toNat,by omega⟩
theorem TT(r:Int)(h:0<=r):(2:Int)<=1*2^(1+r).toNat:=by
 have e:(1+r).toNat=r.toNat+1:=by omega
 rw[e,Int.one_mul,Int.pow_succ]
 have:(0:Int)<2^r.toNat:=Int.pow_pos (by decide)
 omega
theorem Gj:(1:Int)*2^(255:Int).toNat=2^255:=by decide
theorem Xa(nb:dD mg)(F:dS K mg "_law_near" Fe ["_law_cell"] f fd):bp P w K mg base 1 "_law_near" ["_law_cell"] P0:=by
 refine F.ez KL (fun bl A _ s H vs Q E az h=>?_)
 obtain⟨c,rfl,q⟩:=h
 refine⟨_,(aP (bZ 1 KL.bB (aS hx (af 0) aD))
  (aP (cz (b6 dk (aS d2 (af 0) aD) aD) (aQ (bx (aS d2 (af 1) (aS gb (aS F1 aD aD) aD)))) cy)
  (aP (cz (b6 dk (aS d2 (af 0) aD) aD) (aQ (bx (cx (Zip rfl) rfl nb.H9 F8 (ao (aS ed (aS gb (aS F1 aD (aS ed aD (aS d2 (af 1) aD))) aD) (aS d2 (aS hx (af 1) aD) aD)) (ao (aS gb (aS F1 aD aD) aD) aB))))) cy)
  (aQ (bx (aS d2 (af 1) (cV cX (eJ (ao aD (ao aD (ao aD aB)))) (aS gb (aS d2 (af 0) aD) aD)))))))),?_⟩
 try dsimp only[cG,cH,cI,cJ]
 have cY:∀(x:Int)(H':aq),0<=x->x+1<2^255->d7 H H'->hX H H' (Q (.int x)):=fun x H' bg al hs=>by
  obtain⟨n,rfl⟩:=T5 bg
  exact⟨H,.refl hs,q n (by omega)⟩
 refine⟨_,I,_,_,I,I,⟨by decide,by decide⟩,?_⟩
 refine⟨_,I,_,_,I,I,(by show(0:Int)<5;decide),I,_,I,?_⟩
 refine fm (fun a=>?_) (fun a=>?_)
 ·have p:(0:Int)<2^255-1:=by decide
  refine⟨_,I,_,_,I,I,⟨by decide,by decide,by decide⟩,_,_,rfl,rfl,_,_,rfl,rfl,by(try dsimp only);rw[Gj];exact p,?_⟩
  try dsimp only
  rw[Gj]
  refine cY _ _ (hu _ (by decide)) ?_ (cF _)
  have:=hL (c/5) p
  omega
 ·refine⟨_,I,_,_,I,I,(by show(0:Int)<5;decide),I,_,I,?_⟩
  refine fm (fun b=>?_) (fun b=>?_)
  ·refine⟨_,I,_,_,I,I,(by show(0:Int)<255;decide),.inl ⟨_,_,I,I,?_⟩⟩
   have k4:=hu (c/5) (show(255:Int)≠0 by decide)
   have cd:=hL (c/5) (show(0:Int)<255 by decide)
   refine⟨_,_,I,I,⟨by omega,by omega,by decide⟩,_,_,rfl,rfl,?_⟩
   refine⟨_,I,_,_,I,I,⟨by decide,by decide⟩,_,_,rfl,rfl,(by show(0:Int)<3;decide),.inl ⟨_,_,rfl,rfl,?_⟩⟩
   refine⟨_,_,I,I,⟨by decide,by decide,by decide⟩,_,_,rfl,rfl,_,_,rfl,?_⟩
   have g:=TT (c/5%255) k4
   have s0:=hu (c/5/255) (show(3:Int)≠0 by decide)
   dsimp only
   rw[Gj]
   have big:(2:Int)<=2^255:=by decide
   refine cY _ _ ?_ ?_ (cF _)
   .split<;>omega
   .split<;>omega
  ·obtain⟨M,x6,xa,gw⟩:=YR c (fun z=>a (congrArg V.int z)) (fun z=>b (congrArg V.int z))
   refine⟨_,I,(by show 3<=bU;decide),fun r dH=>⟨_,I,_,_,I,I,(by show(0:Int)<5;decide),_,_,I,I,.inl (.inl ⟨_,_,_,_,I,I,bF aG,x6,_,_,I,I,xa,?_⟩)⟩⟩
   have m0:=hu (c/5) (Int.ne_of_gt xa)
   have gr:=hL (c/5) xa
   have big:(2:Int)+1000<=2^255:=by decide
   exact cY _ _ m0 (by omega) (dc dH)
inductive Qw(vs:List V)(H:aq)(Q:bG)(E:bT):Prop where
 |mk (c:Int) (bg:vs=[.int c]) (al:∀n:Int,ib n->Q (.int n) H):Qw  vs H Q E
def I1:b0:=fun vs H Q E=>Qw  vs H Q E
theorem V4(F:dS K mg "_law_signed" EL ["_law_cell"] f fd)(zy:bp P w K mg base 1 "_law_near" ["_law_cell"] P0):bp P w K mg base 2 "_law_signed" ["_law_cell"] I1:=by
 refine F.ez VR (fun bl A _ s H vs Q E az h=>?_)
 obtain⟨c,rfl,q⟩:=h
 refine⟨_,(aP (cz (b6 dk (aS d2 (af 0) aD) aD) (aQ (bx (aS gb (lD ly aD) (bX zy az (ao (aS hx (af 0) aD) aB))))) cy)
  (aQ (bx (bX zy az (ao (aS hx (af 0) aD) aB))))),?_⟩
 try dsimp only[cG,cH,cI,cJ]
 refine⟨_,I,_,_,I,I,(by show(0:Int)<2;decide),I,_,I,?_⟩
 refine fm (fun a=>?_) (fun a=>?_)
 .refine⟨_,I,_,I,_,_,I,I,⟨by decide,by decide⟩,_,rfl,fun n aZ=>⟨_,_,rfl,rfl,H,.refl (cF _),q _ ⟨?_,?_⟩⟩⟩<;>omega
 .refine⟨_,I,_,_,I,I,⟨by decide,by decide⟩,_,rfl,fun n aZ=>⟨H,.refl (cF _),q _ ⟨?_,?_⟩⟩⟩<;>omega
theorem vr(f:α->V)(xs:List α)(c m:Int)(hm:m=xs.length)(h:0<xs.length):∃n,n∈xs/\e5 (xs.map f) (c%m)=J (f n):=by
 subst hm
 have al:=hu c (b:=(xs.length:Int)) (by omega)
 have aw:=hL c (b:=(xs.length:Int)) (by omega)
 obtain⟨k,hk⟩:=Int.eq_ofNat_of_zero_le al
 rw[hk]
 have ou:k<xs.length:=by omega
 exact⟨xs[k],List.getElem_mem ou,dz (by rw[e4,c4 ou];rfl)⟩
theorem jH(c:Int)(n:Nat)(h:0<n):∃k:Nat,k<n/\c%((n:Nat):Int)=((k:Nat):Int):=by
 have al:=hu c (b:=(n:Int)) (by omega)
 have aw:=hL c (b:=(n:Int)) (by omega)
 obtain⟨k,hk⟩:=Int.eq_ofNat_of_zero_le al
 exact⟨k,by omega,hk⟩
inductive Qh(K:bK)(vs:List V)(H:aq)(Q:bG)(E:bT):Prop where
 |mk (a:ag) (ns:List Int) (bg:vs=[.ref a]) (al:c3 K H a (ns.map V.int)) (aw:ns.length<=63) (bq:∀(p:ag)(ms:List Int),H p=av->ms.length<=90->Q (.ref p) (upd H p (.lst (ms.map V.int)))):Qh K vs H Q E
def Qg(K:bK):b0:=fun vs H Q E=>Qh K vs H Q E
theorem W9(nb:dD mg)(F:dS K mg "_law_pool" Fc ["_law_script"] f fd):bp P w K mg base 1 "_law_pool" ["_law_script"] (Qg K):=by
 refine F.ez sE (fun bl A _ s H vs Q E az h=>?_)
 obtain⟨a,ns,rfl,c9,aC,q⟩:=h
 refine⟨_,(aP (bZ 1 sE.bB (eJ aB))
  (aP (ll h5.never rfl (ob rfl nb.lP (ao (aS kZ aD (cx (Zip rfl) rfl nb.H9 F8 (ao aD (ao (cx ep rfl nb.ec ef (ao (af 0) aB)) aB)))) aB)) (eo (i:=2) sE.bB rfl (by exact Or.inl I))
   (aP (bZ 3 sE.bB (aS ed (cV cX (af 0) (aS d2 (af 2) (cx (Zip rfl) rfl nb.H9 F8 (ao aD (ao (cx ep rfl nb.ec ef (ao (af 0) aB)) aB))))) (aS kZ (aS hx (af 2) (cx ep rfl nb.ec ef (ao (af 0) aB))) (aS ed (aS kZ (aS kZ (af 2) (af 2)) aD) aD))))
   (aP (cz (b6 dk (aS d2 (aS hx (cV cX (af 0) aD) aD) aD) aD) (aP (bZ 3 sE.bB (aS d2 (aS ed (aS ed (aS kZ (af 3) aD) (aS kZ (af 2) aD)) aD) aD))
    (aP (bZ 3 sE.bB (aS d2 (aS kZ (af 3) (af 3)) aD))
    (aQ (bZ 3 sE.bB (aS ed (aS kZ (af 3) aD) (aS d2 (aS kZ (af 3) (af 3)) aD)))))) cy)
   (aQ (ih (jW PySem.F.plainAttrs_list PySem.F.slot_list_append PySem.F.type_list_append sq (af 1) (ao (af 3) aB)))))))
  (aQ (bx (af 1))))),?_⟩
 try dsimp only[cG,cH,cI,cJ]
 refine⟨UF _,fun p aO=>?_⟩
 have s0:=dc (o:=cZ.lst []) aO
 refine⟨_,I,_,_,I,.inl ⟨_,s0.seq c9,I⟩,_,_,I,.inl ⟨_,_,I,I,.inl ⟨by decide,by decide⟩,?_⟩⟩
 rw[cq]
 refine⟨_,I,?_,?_,?_⟩
 .split<;>omega
 .split<;>omega
 have b1:(90*(if((ns.length:Nat):Int)<1 then((ns.length:Nat):Int)else 1)).toNat=if ns.length=0 then 0 else 90:=by split<;>split<;>omega
 rw[b1]
 refine qW (fun i ae ax=>∃(ms:List Int)(du dy:Option V),ae=[J (.ref a),J (.ref p),du,dy]/\ms.length=i/\ax=upd H p (.lst (ms.map V.int))) ?_ ?_ ?_
 .exact⟨[],av,av,I,I,I⟩
 ·rintro i ae ax aJ ⟨ms,du,dy,rfl,hm,rfl⟩
  have qq:ns.length≠0:=fun z=>by rw[if_pos z]at aJ;omega
  rw[if_neg qq]at aJ
  have hs:=(dc (o:=cZ.lst (ms.map V.int)) aO).seq c9
  obtain⟨k,hk,j3⟩:=jH (0+((i:Nat):Int)) (min 63 ns.length) (by omega)
  have ou:k<ns.length:=by omega
  have iy:e5 (ns.map V.int) ((k:Nat):Int)=J (.int ns[k]):=dz (by rw[e4,c4 ou];rfl)
  have abF:e5 (ns.map V.int) 0=J (.int ns[0]):=dz (j:=0) (by rw[e4,c4 (by omega)];rfl)
  have em:(if(((ns.map V.int).length:Nat):Int)<63 then(((ns.map V.int).length:Nat):Int)else 63)=((min 63 ns.length:Nat):Int):=by rw[cq];split<;>omega
  have hl:=Int.ediv_nonneg (a:=0+((i:Nat):Int)) (b:=(((ns.map V.int).length:Nat):Int)) (by omega) (by omega)
  have jb:=Int.ediv_le_self (a:=0+((i:Nat):Int)) (((ns.map V.int).length:Nat):Int) (by omega)
  have lm:(((ns.map V.int).length:Nat):Int)=((ns.length:Nat):Int):=by rw[cq]
  refine⟨_,I,_,I,_,I,_,_,I,.inl ⟨_,hs,I⟩,_,_,I,_,_,I,I,(by rw[em];omega),.inl (.inl ⟨_,_,_,_,I,I,hs,(by rw[em,j3];exact iy),?_⟩)⟩
  refine⟨_,I,_,I,_,_,I,.inl ⟨_,hs,I⟩,_,_,I,I,⟨by omega,by omega⟩,?_⟩
  refine⟨_,I,_,I,.inl ⟨_,_,I,I,.inl ⟨by omega,by omega⟩,.inl ⟨_,_,rfl,rfl,.inr ⟨by decide,by decide⟩,.inl ⟨_,_,rfl,rfl,.inl ⟨_,_,rfl,rfl,.inl ⟨by omega,by omega⟩,.inl ⟨_,_,rfl,rfl,?_⟩⟩⟩⟩⟩⟩
  have cY:∀(n:Int)(du:Option V),∃(OD:List Int)(du dy:Option V),[J (V.ref a),J (V.ref p),J (V.int (0+((i:Nat):Int))),J (V.int n)]=[J (.ref a),J (.ref p),du,dy]/\OD.length=i+1/\upd (upd H p (.lst (ms.map V.int))) p (.lst (ms.map V.int++[V.int n]))=upd H p (.lst (OD.map V.int)):=fun n du =>
   ⟨ms++[n],_,_,rfl,by rw[ee,hm];rfl,by rw[fX,gf];rfl⟩
  have cB:(ms.map V.int).length<bU:=by rw[cq];exact e3 (show ms.length<100000 by omega) (by decide)
  refine⟨_,I,.inl (.inl ⟨_,_,_,_,I,I,hs,abF,_,_,I,I,⟨by decide,by decide⟩,_,_,rfl,rfl,(by show(0:Int)<2;decide),rfl,_,rfl,fm (fun dA=>?_) (fun dA=>?_)⟩)⟩
  ·refine⟨_,I,.inl ⟨_,_,I,I,.inr ⟨by decide,by decide⟩,_,rfl,.inl ⟨_,_,rfl,rfl,.inr ⟨by decide,by decide⟩,.inl ⟨_,_,rfl,rfl,.inl ⟨_,_,rfl,rfl,_,_,rfl,rfl,(by show(0:Int)<2147483629;decide),?_⟩⟩⟩⟩⟩
   dsimp only
   generalize dY:((ns[k]+(0+((i:Nat):Int))/_*_)*48271+(0+((i:Nat):Int))*69621+11)=X
   have gr:=hu X (show(2147483629:Int)≠0 by decide)
   have pv:=hL X (show(0:Int)<2147483629 by decide)
   generalize X%2147483629=m at gr pv ⊢
   refine⟨_,I,_,I,.inl ⟨_,_,I,I,.inl ⟨by omega,by omega⟩,_,_,rfl,rfl,(by show(0:Int)<2147483587;decide),?_⟩⟩
   dsimp only
   have Oz:=hu (m*m) (show(2147483587:Int)≠0 by decide)
   have tG:=hL (m*m) (show(0:Int)<2147483587 by decide)
   generalize m*m%2147483587=v at Oz tG ⊢
   refine⟨_,I,.inl ⟨_,_,I,I,.inl ⟨by omega,by omega⟩,_,rfl,_,rfl,.inl ⟨_,_,rfl,rfl,.inl ⟨by omega,by omega⟩,_,_,rfl,rfl,(by show(0:Int)<2147483563;decide),.inl ⟨_,_,rfl,rfl,?_⟩⟩⟩⟩
   refine⟨_,I,.inl ⟨I,_,bF aG⟩,_,I,p,_,_,I,I,aG,cB,?_⟩
   exact cY _ av
  ·refine⟨_,I,.inl ⟨I,_,bF aG⟩,_,I,p,_,_,I,I,aG,cB,?_⟩
   exact cY _ av
 ·rintro ae ax ⟨ms,du,dy,rfl,hm,rfl⟩
  refine⟨_,I,_,.new aO (dc aO) aG trivial,q p ms aO ?_⟩
  split at hm<;>omega
theorem ahe{n:Nat}(h:0<n):seqIndex? 0 n=J 0:=by
 obtain⟨j,al,aw,_⟩:=BA (xs:=List.range n) (i:=0) (v:=0) (dz (j:=0) (by rw[List.getElem?_range h]))
 rw[kx]at al
 rw[i4]at aw
 obtain⟨_,z⟩:=aw
 rw[List.getElem_range]at z
 rw[al,z]
inductive P4(vs:List V)(H:aq)(Q:bG)(E:bT):Prop where
 |mk (p:_) (bg:vs=[.ref p]) (al:kr p H) (aw:∀(c:Int)(ns:List Int),ns.length<=90->Q (.int c) (upd H p (.lst (ns.map V.int)))):P4  vs H Q E
def zd:b0:=fun vs H Q E=>P4  vs H Q E
noncomputable def pl(H:aq)(p:ag):Nat:=match H p with|some (.lst vs)=>vs.length|_=>0
theorem vy(h:H p=J (.lst vs)):pl H p=vs.length:=by unfold pl;rw[h]
inductive P2(vs:List V)(H:aq)(Q:bG)(E:bT):Prop where
 |mk (p:_) (bg:vs=[.ref p]) (al:kr p H) (aw:∀(c:Int)(ns:List Int),ns.length<=90->(pl H p=ns.length+1\/pl H p=0/\ns=[]/\c=0)->Q (.int c) (upd H p (.lst (ns.map V.int)))):P2  vs H Q E
def ze:b0:=fun vs H Q E=>P2  vs H Q E
theorem WA(nb:dD mg)(F:dS K mg "_law_next" Fd ["_law_pool_here"] f fd):bp P w K mg base 1 "_law_next" ["_law_pool_here"] ze:=by
 refine F.ez WV (fun bl A _ s H vs Q E az h=>?_)
 obtain⟨p,rfl,⟨ns,aO,aC⟩,q⟩:=h
 have hm:=vy aO
 rw[cq]at hm
 refine⟨_,(aP (cz (b6 dk (cx ep I nb.ec ef (ao (af 0) aB)) aD) (aQ (bx aD)) cy)
  (aQ (bx (jW PySem.F.plainAttrs_list PySem.F.slot_list_pop PySem.F.type_list_pop Zb (af 0) (ao aD aB))))),?_⟩
 try dsimp only[cG,cH,cI,cJ]
 refine⟨_,I,_,_,I,.inl ⟨_,bF aO,I⟩,I,_,I,?_⟩
 rw[cq]
 cases ns with
 |nil =>
  refine hC I ?_
  have bg:=q 0 [] aC (.inr ⟨hm,rfl,rfl⟩)
  rw[A5 aO]at bg
  exact⟨H,.refl (cF _),bg⟩
 |cons c r =>
  refine fv (fun z=>nomatch z) ?_
  refine⟨_,I,.inl ⟨I,_,bF aO⟩,p,_,0,0,.int c,I,I,aO,by decide,by decide,ahe (by rw[cq];exact Nat.succ_pos _),rfl,?_⟩
  have yr:r.length<=90:=dj (Nat.le_succ _) aC
  exact⟨_,(es.pop ⟨_,aO,aC⟩ yr).sub,q c r yr (.inl hm)⟩
theorem bp.less{x:ah}{sp:b0}(h:bp P w K mg base k x aI sp)(i:∀vs H Q E,rO vs H Q E->sp vs H Q E):bp P w K mg base k x aI rO:=by
 obtain⟨f,fd,F,r⟩:=h
 exact⟨f,fd,⟨fun vs H Q E q=>F.1 vs H Q E (i _ _ _ _ q),fun A outer s H args us vs Q E a b c d q=>F.2 A outer s H args us vs Q E a b c d (i _ _ _ _ q)⟩,r⟩
theorem Yj{E:bT}(h:zd vs H Q E):ze vs H Q E:=by
 obtain⟨p,e,cP,q⟩:=h
 exact⟨p,e,cP,fun c ns aZ _=>q c ns aZ⟩
inductive Qy(vs:List V)(H:aq)(Q:bG)(E:bT):Prop where
 |mk (c:Int) (bg:vs=[.int c]) (al:∀s:ah,oi s=au->s.length<=60->Q (.str s) H):Qy  vs H Q E
def Qx:b0:=fun vs H Q E=>Qy  vs H Q E
theorem Wy(nb:dD mg)(F:dS K mg "_law_signs" ET ["_law_cell"] f fd):bp P w K mg base 1 "_law_signs" ["_law_cell"] Qx:=by
 refine F.ez o3 (fun bl A _ s H vs Q E az h=>?_)
 obtain⟨c,rfl,q⟩:=h
 refine⟨_,(aP (bZ 1 o3.bB cT)
  (aP (bZ 2 o3.bB (aS ed aD (aS d2 (af 0) (cV cX (eJ (ao aD (ao aD (ao aD (ao aD aB))))) (aS d2 (aS hx (af 0) aD) aD)))))
  (aP (bZ 3 o3.bB (aS hx (af 0) aD))
  (aP (bZ 4 o3.bB cT)
  (aP (ll h5.never rfl (ob rfl nb.lP (ao (af 2) aB)) (eo (i:=5) o3.bB rfl (by exact Or.inl I))
   (aP (bZ 6 o3.bB (aS d2 (af 3) (cx ep rfl nb.ec ef (ao (af 1) aB))))
   (aP (bZ 3 o3.bB (aS hx (af 3) (cx ep rfl nb.ec ef (ao (af 1) aB))))
   (aP (bZ 4 o3.bB (aS ed (af 4) (cV cX (af 1) (af 6))))
   (aQ (bZ 1 o3.bB (aS ed (n6 oJ (af 1) oY (nf (af 6))) (n6 oJ (af 1) (nf (aS ed (af 6) aD)) oY))))))))
  (aQ (bx (af 4)))))))),?_⟩
 try dsimp only[cG,cH,cI,cJ]
 refine⟨_,I,(by show 4<=bU;decide),fun g bb=>?_⟩
 obtain⟨x,ay,lL⟩:=vr V.int [2,3,7,60] (c/60) 4 rfl (by show 0<4;decide)
 have wb:0<x/\x<=60:=by
  have:∀y∈([2,3,7,60]:List Int),0<y/\y<=60:=by decide
  exact this x ay
 refine⟨_,I,_,_,I,I,⟨by decide,by decide⟩,_,_,rfl,rfl,(by show(0:Int)<4;decide),.inl (.inl ⟨_,_,_,_,rfl,rfl,bF aG,lL,_,_,rfl,rfl,wb.1,.inl ⟨_,_,rfl,rfl,?_⟩⟩)⟩
 have v0:=hu c (show x≠0 by omega)
 have v1:=hL c wb.1
 generalize c%x=m at v0 v1 ⊢
 obtain⟨n,rfl⟩:=Int.eq_ofNat_of_zero_le v0
 refine⟨_,I,_,_,I,I,⟨by decide,by decide⟩,?_⟩
 refine⟨_,I,_,I,by omega,by omega,?_⟩
 have b1:(1+((n:Nat):Int)).toNat=n+1:=by omega
 rw[b1]
 refine qW (fun i ae ax=>d7 H ax/\∃(rest found:ah)(num:Int)(du dy hI:Option V),ae=[J (.int c),J (.str rest),hI,J (.int num),J (.str found),du,dy]/\rest.length=62-i/\found.length=i/\(found.cps.toList++rest.cps.toList).Perm pX.cps.toList) ?_ ?_ ?_
 ·refine⟨dc bb,pX,ah.ofString "",c/240,av,av,_,I,TN,by decide+kernel,?_⟩
  rw[show(ah.ofString "").cps.toList=[] by decide+kernel]
  exact List.Perm.refl _
 ·rintro i ae ax aJ ⟨hs,rest,found,num,du,dy,hI,rfl,aC,aH,aO⟩
  have yI:rest.length<=bU:=fC (by omega)
  obtain⟨k,hk,j3⟩:=jH num rest.length (by omega)
  obtain⟨cA,iy,aaf⟩:=XZ hk
  have hz:=Kx rest k (by omega)
  have e6:=Km rest (k+1) (by omega)
  refine⟨_,I,_,I,_,_,I,⟨yI,I⟩,_,_,I,I,(by omega),?_⟩
  dsimp only
  rw[j3]
  refine⟨_,I,_,I,_,_,I,⟨yI,I⟩,_,_,I,I,⟨by omega,by omega⟩,?_⟩
  refine⟨_,I,_,I,_,I,.inr ⟨_,_,_,I,I,yI,iy,.inr ⟨_,_,I,I,fC (by show _+1<=_;omega),?_⟩⟩⟩
  have aU:((k:Nat):Int)+1=((k+1:Nat):Int):=by omega
  refine⟨_,I,_,I,_,I,.inr ⟨_,I,yI,_,I,_,I,.inl ⟨_,_,I,I,_,I,.inr ⟨_,I,yI,.inr ⟨_,_,I,I,?_,?_⟩⟩⟩⟩⟩
  .rw[hz,aU,e6];exact fC (by omega)
  ·rw[aU]
   refine⟨hs,_,_,_,_,_,_,I,?_,?_,?_⟩
   .rw[oZ,hz,e6];omega
   .rw[oZ,aH];rfl
   ·rw[vw,vw]
    exact(Ya aaf).trans aO
 ·rintro ae ax ⟨hs,rest,found,num,du,dy,hI,rfl,aC,aH,aO⟩
  exact⟨_,I,H,.refl hs,q _ (XO aO (by omega) (by omega)) (by omega)⟩
inductive PZ(vs:List V)(H:aq)(Q:bG)(E:bT):Prop where
 |mk (c:Int) (m:Nat) (bg:vs=[.int c,.int ((m:Nat):Int)]) (al:0<m) (aw:m<=20) (bq:∀(D:ag)(ns:List ah),H D=av->ns.length=m->l7 ns=au->Q (.ref D) (upd H D (.lst (ns.map V.str)))):PZ  vs H Q E
def IT:b0:=fun vs H Q E=>PZ  vs H Q E
theorem WB(nb:dD mg)(F:dS K mg "_law_names" EV ["_law_cell","_law_many"] f fd):bp P w K mg base 1 "_law_names" ["_law_cell","_law_many"] IT:=by
 refine F.ez n9 (fun bl A _ s H vs Q E az h=>?_)
 obtain⟨c,m,rfl,Hl,hm,q⟩:=h
 refine⟨_,(aP (bZ 2 n9.bB cT)
  (aP (bZ 3 n9.bB (aS d2 (af 0) aD))
  (aP (bZ 4 n9.bB (aS d2 (aS hx (af 0) aD) (aS ed (af 3) aD)))
  (aP (bZ 5 n9.bB (cV cX (eJ (ao aD (ao aD (ao aD (ao aD (ao aD (ao aD aB))))))) (aS d2 (aS hx (aS hx (af 0) aD) (aS ed (af 3) aD)) aD)))
  (aP (bZ 6 n9.bB (aS hx (aS hx (af 0) aD) (aS ed (af 3) aD)))
  (aP (bZ 7 n9.bB (aS d2 (af 6) aD))
  (aP (bZ 8 n9.bB cT)
  (aP (ll h5.never rfl (ob rfl nb.lP (ao (af 3) aB)) (eo (i:=9) n9.bB rfl (by first|exact Or.inl I|exact Or.inr I))
   (aP (bZ 6 n9.bB (aS hx (af 6) aD))
   (aQ (bZ 8 n9.bB (aS ed (af 8) (cV cX (af 2) (aS d2 (af 6) aD)))))))
  (aQ (bx (hZ ["_law_k"] [(8,"_law_stem"),(4,"_law_at"),(2,"_law_some"),(7,"_law_first"),(5,"_law_step")] rfl (by decide+kernel) ⟨rfl,.inl rfl,rfl,.inl rfl,rfl,.inl rfl,rfl,.inl rfl,rfl,.inl rfl,trivial⟩ (ob rfl nb.lP (ao (af 1) aB)) (fun _ _ _ _ _=>(eo (i:=0) (show(["_law_k","_law_stem","_law_at","_law_some","_law_first","_law_step"]:List ah).Nodup by decide+kernel))) (fun _ _ _ _ _=>hN) (fun _ _ _ _ _=>(aS ed (aS ed (n6 oJ (af 1) oY (nf (af 2))) (cV cX (af 3) (aS d2 (aS ed (af 4) (aS kZ (af 0) (af 5))) aD))) (n6 oJ (af 1) (nf (af 2)) oY)))))))))))))),?_⟩
 try dsimp only[cG,cH,cI,cJ]
 obtain⟨dI,g7,aaA⟩:=jH c 12 (by decide)
 have aaz:c%12=((dI:Nat):Int):=aaA
 obtain⟨a,bh,Z2⟩:=jH (c/12) (dI+1) (by omega)
 have de:c/12%(((dI:Nat):Int)+1)=((a:Nat):Int):=Z2
 refine⟨_,I,_,_,I,I,(by show(0:Int)<12;decide),?_⟩
 dsimp only
 rw[aaz]
 refine⟨_,I,_,_,I,I,⟨by decide,by decide⟩,_,rfl,.inl ⟨_,_,rfl,rfl,_,_,rfl,rfl,(by omega),?_⟩⟩
 dsimp only
 rw[de]
 refine⟨(by show 6<=bU;decide),fun g bb=>?_⟩
 obtain⟨x,ay,lL⟩:=vr V.int [1,3,5,7,9,11] (c/12/(((dI:Nat):Int)+1)) 6 rfl (by show 0<6;decide)
 have wb:0<x/\x<=11:=by
  have:∀y∈([1,3,5,7,9,11]:List Int),0<y/\y<=11:=by decide
  exact this x ay
 refine⟨_,I,_,_,I,I,⟨by decide,by decide⟩,_,rfl,.inl ⟨_,_,rfl,rfl,_,_,rfl,rfl,⟨by omega,by omega⟩,_,_,rfl,rfl,(by show(0:Int)<6;decide),.inl (.inl ⟨_,_,_,_,rfl,rfl,bF aG,lL,?_⟩)⟩⟩
 refine⟨_,I,_,_,I,I,⟨by decide,by decide⟩,_,rfl,.inl ⟨_,_,rfl,rfl,_,_,rfl,rfl,⟨by omega,by omega⟩,?_⟩⟩
 refine⟨_,I,_,_,I,I,(by show(0:Int)<26;decide),?_⟩
 refine⟨_,I,_,I,by omega,by omega,?_⟩
 have b1:(((dI:Nat):Int)).toNat=dI:=by omega
 rw[b1]
 have Ot:kp.length<=bU:=by rw[FY];exact fC (by decide)
 refine qW (fun i ae ax=>d7 H ax/\∃(oO:ah)(num fst:Int)(du dy:Option V),ae=[J (.int c),J (.int ((m:Nat):Int)),J (.str kp),dy,J (.int ((a:Nat):Int)),J (.int x),J (.int num),J (.int fst),J (.str oO),du]/\oO.length=i/\mA i kp.cps.toList oO) ?_ ?_ ?_
 ·refine⟨dc bb,ah.ofString "",_,_,av,_,I,by decide+kernel,by decide+kernel,fun c h=>?_⟩
  rw[show(ah.ofString "").cps.toList=[] by decide+kernel]at h
  cases h
 ·rintro i ae ax aJ ⟨hs,oO,num,fst,du,dy,rfl,aC,bo⟩
  obtain⟨k,hk,aah⟩:=jH (num/26) 26 (by decide)
  have j3:num/26%26=((k:Nat):Int):=aah
  obtain⟨cA,tx,iy⟩:=TL (x:=kp) (k:=k) (by rw[FY];exact hk)
  refine⟨_,I,_,_,I,I,⟨by decide,by decide⟩,?_⟩
  refine⟨_,I,_,I,_,I,_,_,I,I,(by show(0:Int)<26;decide),.inr ⟨_,_,_,I,I,Ot,(by rw[j3];exact iy),.inr ⟨_,_,I,I,fC (by show _+1<=_;omega),?_⟩⟩⟩
  exact⟨hs,_,_,_,_,_,I,by rw[oZ,aC];rfl,bo.app (mA.one tx)⟩
 ·rintro ae ax ⟨hs,oO,num,fst,du,dy,rfl,aC,bo⟩
  have ls:oO.length<=bU:=fC (by omega)
  refine⟨_,I,_,I,by omega,by omega,fun D c0=>?_⟩
  have em:(((m:Nat):Int)).toNat=m:=by omega
  rw[em]
  have akg:kp.cps.toList.length=26:=by rw[i3];exact FY
  have hz:=Kx oO a (by omega)
  have e6:=Km oO a (by omega)
  let rv:Nat->Nat:=fun i=>((fst+(0+((i:Nat):Int))*x)%26).toNat
  have tu:∀i,rv i<26/\(fst+(0+((i:Nat):Int))*x)%26=((rv i:Nat):Int):=fun i=>by
   have al:=hu (fst+(0+((i:Nat):Int))*x) (show(26:Int)≠0 by decide)
   have aw:=hL (fst+(0+((i:Nat):Int))*x) (show(0:Int)<26 by decide)
   constructor
   ·show Int.toNat _<26
    omega
   ·show _=((Int.toNat _:Nat):Int)
    omega
  let CF:Nat->ah:=fun i=>(Txt.slice oO av (J ((a:Nat):Int))++⟨#[kp.cps.toList.getD (rv i) 0]⟩)++Txt.slice oO (J ((a:Nat):Int)) av
  refine FO m (fun i =>.int (0+((i:Nat):Int))) (fun i=>V.str (CF i)) (fun ae=>∃z,ae=[z,J (.str oO),J (.int ((a:Nat):Int)),J (.str kp),J (.int fst),J (.int x)]) (fC (by omega)) ⟨_,I⟩ ?_ ?_ ?_ ?_ ?_
  .intro i H1 aJ;exact aJ
  .intro H1;exact cE _
  .rintro i H1 y bJ aJ ⟨rfl,rfl⟩;exact⟨I,I⟩
  ·rintro i bO H1 aJ ⟨z,rfl⟩ R b8
   obtain⟨hk,j3⟩:=tu i
   have iy:e5 kp.cps.toList ((rv i:Nat):Int)=J (kp.cps.toList.getD (rv i) 0):=dz (by rw[eL,c4 (by omega)];rfl)
   have aU:(⟨#[kp.cps.toList.getD (rv i) 0]⟩:ah).length=1:=rfl
   refine⟨_,I,_,I,_,I,.inr ⟨_,I,ls,?_⟩⟩
   refine⟨_,I,_,I,_,I,_,I,.inl ⟨_,_,I,I,.inr ⟨by omega,by omega⟩,.inl ⟨_,_,rfl,rfl,_,_,rfl,rfl,(by show(0:Int)<26;decide),.inr ⟨_,_,_,rfl,rfl,Ot,(by rw[j3];exact iy),.inr ⟨_,_,rfl,rfl,fC (by omega),?_⟩⟩⟩⟩⟩
   refine⟨_,I,_,I,_,I,.inr ⟨_,I,ls,.inr ⟨_,_,I,I,fC (by rw[oZ];omega),?_⟩⟩⟩
   exact b8 _ ⟨_,I⟩
  ·have e:(List.range m).map (fun i=>V.str (CF i))=((List.range m).map CF).map V.str:=by rw[fV];rfl
   rw[e]
   have B7:=hs.free c0
   refine⟨_,.new B7 (hs.trans (dc c0)) aG trivial,q D ((List.range m).map CF) B7 (by rw[cq,kx]) ?_⟩
   refine WL (by rw[cq,kx];omega) (by rw[cq,kx];omega) ?_ ?_
   ·unfold List.Nodup
    rw[List.pairwise_iff_getElem]
    intro i j aJ cw Hg
    rw[cq,kx]at aJ cw
    rw[jE,jE,List.getElem_range,List.getElem_range]
    intro dy
    have hI:=Tq dy
    obtain⟨Cj,aai⟩:=tu i
    obtain⟨ou,xU⟩:=tu j
    rw[eL,eL,c4 (by omega),c4 (by omega)]at hI
    have zp:=(List.getElem_inj YN).mp hI
    have:=YU (f:=fst) ay (show i<26 by omega) (show j<26 by omega) (by rw[aai,xU,zp])
    omega
   ·intro n aZ
    obtain⟨i,_,rfl⟩:=List.mem_map.mp aZ
    obtain⟨hk,j3⟩:=tu i
    refine Yn ⟨?_,?_⟩ ?_
    ·show(_++_:ah).length<=12
     rw[oZ,oZ,hz,e6]
     show a+1+_<=12
     omega
    ·refine(((bo.slice av (J ((a:Nat):Int))).app (mA.one ?_)).app (bo.slice (J ((a:Nat):Int)) av)).s
     rw[eL,c4 (by omega)]
     exact List.getElem_mem _
    ·show 0<(_++_:ah).length
     rw[oZ,oZ]
     show 0<_+1+_
     omega
noncomputable def rS:ah:=ah.ofString "nothing"
noncomputable def um:ah:=ah.ofString "truth"
noncomputable def uo:ah:=ah.ofString "whole"
noncomputable def rT:ah:=ah.ofString "span"
noncomputable def uj:ah:=ah.ofString "fraction"
noncomputable def uk:ah:=ah.ofString "letters"
noncomputable def Dj:ah:=ah.ofString "maybe"
noncomputable def Jm:ah:=ah.ofString "many"
noncomputable def Jn:ah:=ah.ofString "record"
noncomputable def Q9:ah:=ah.ofString "choice"
noncomputable def Jo:ah:=ah.ofString "turned"
def Simp(H:aq)(v:V):Prop:=∃T,v=.ref T/\((∃w,w∈[rS,um,uo,uj]/\H T=J (.tup [.str w]))\/(∃a b:Int,H T=J (.tup [.str rT,.int a,.int b])/\a<=b/\b-a<2^190/\a.natAbs<10^58/\b.natAbs<10^58)\/(∃s:ah,H T=J (.tup [.str uk,.str s])/\oi s=au/\s.length<=60))
def m8(X:List ag)(H:aq):Prop:=∀x,x∈X->∃l,H x=J (.lst l)
theorem m8.grow(h:m8 X H)(g:es p H H'):m8 X H':=fun x ay=>by
 by_cases z:x=p
 ·subst z
  obtain⟨ns,e,_⟩:=g.l
  exact⟨_,e⟩
 ·obtain⟨l,e⟩:=h x ay
  exact⟨l,g.k _ _ z e⟩
inductive Qz(vs:List V)(H:aq)(Q:bG)(E:bT):Prop where
 |mk (p:ag) (way:Nat) (bg:vs=[.ref p,.int ((way:Nat):Int)]) (al:way<6) (aw:kr p H) (bq:∀v H',es p H H'->Simp H' v->Q v H'):Qz  vs H Q E
def C2:b0:=fun vs H Q E=>Qz  vs H Q E
theorem V3(F:dS K mg "_law_simple" EK ["_law_pool_here","_law_way"] f fd)(iJ:bp P w K mg base 1 "_law_next" ["_law_pool_here"] zd)(DK:bp P w K mg base 1 "_law_signs" ["_law_cell"] Qx):bp P w K mg base 2 "_law_simple" ["_law_pool_here","_law_way"] C2:=by
 refine F.ez EA (fun bl A _ s H vs Q E az h=>?_)
 obtain⟨p,way,rfl,hw,cP,q⟩:=h
 refine⟨_,(aP (cz (b6 dk (af 1) aD) (aP (bZ 2 EA.bB (aS gb (aS d2 (bX iJ az (ao (af 0) aB)) (aS vx aD aD)) (aS vx aD aD)))
   (aP (bZ 3 EA.bB (bX iJ az (ao (af 0) aB)))
   (aQ (bx (js (ao cT (ao (af 2) (ao (aS ed (af 2) (aS d2 (aS hx (af 3) aD) (cV cX (eJ (ao aD (ao aD (ao aD (ao (aS vx aD aD) aB))))) (aS d2 (af 3) aD)))) aB)))))))) cy)
  (aP (cz (b6 dk (af 1) aD) (aQ (bx (js (ao cT (ao (bX DK az (ao (bX iJ az (ao (af 0) aB)) aB)) aB))))) cy)
  (aQ (bx (js (ao (cV cX (eJ (ao cT (ao cT (ao cT (ao cT (ao cT aB)))))) (af 1)) aB)))))),?_⟩
 try dsimp only[cG,cH,cI,cJ]
 refine⟨_,I,I,_,I,fm (fun hj=>?_) (fun hj=>?_)⟩
 ·refine⟨_,I,p,I,cP,fun ra ew qr=>?_⟩
  have cp:=es.pop cP qr
  have rL:∀n:Int,n=57\/n=56->w0 10 n:=fun n aZ=>by rcases aZ with rfl|rfl<;>(refine⟨?_,?_,?_⟩<;>decide)
  have OT:(0:Int)<10^Int.toNat 57:=by decide+kernel
  refine⟨_,_,I,I,rL _ (.inl I),_,_,I,I,OT,_,_,I,I,rL _ (.inr I),_,_,I,I,?_⟩
  dsimp only
  have adX:∃low:Int,low=ra%10^Int.toNat 57-10^Int.toNat 56/\-(10^57)<=low/\low<=10^57:=by
   refine⟨_,I,?_⟩
   have a1:=hu ra (show(10:Int)^Int.toNat 57≠0 by decide+kernel)
   have a2:=hL ra OT
   rw[show Int.toNat 57=57 from rfl]at a1 a2 ⊢
   rw[show Int.toNat 56=56 from rfl]
   omega
  obtain⟨low,jc,akh,aki⟩:=adX
  rw[<-jc]
  clear jc
  refine⟨_,I,p,I,cp.l,fun c dZ me=>?_⟩
  have fx:=cp.trans (es.pop cp.l me)
  generalize upd (upd H p (.lst (ew.map V.int))) p (.lst (dZ.map V.int))=ax at fx ⊢
  refine⟨_,I,_,I,_,I,_,_,I,I,⟨by decide,by decide⟩,_,_,rfl,rfl,rL _ (.inl rfl),(by show 4<=bU;decide),fun g bb=>?_⟩
  obtain⟨x,ay,lL⟩:=vr V.int [1,5,300,10^Int.toNat 57] c 4 rfl (by show 0<4;decide)
  obtain⟨wb,akc,rr⟩:0<x/\x<2^190/\x<=10^57:=by
   have:∀y∈([1,5,300,10^Int.toNat 57]:List Int),0<y/\y<2^190/\y<=10^57:=by decide+kernel
   exact this x ay
  refine⟨_,I,_,_,I,I,(by show(0:Int)<4;decide),.inl (.inl ⟨_,_,_,_,I,I,bF aG,lL,_,_,I,I,wb,.inl ⟨_,_,I,I,(by show 3<=bU;decide),fun T cc=>?_⟩⟩)⟩
  have hz:=hu (c/4) (show x≠0 by omega)
  have e6:=hL (c/4) wb
  have hg:=(fx.ext (Ext.lst bb)).ext (Ext.tup (xs:=[V.str rT,.int low,.int (low+c/4%x)]) cc)
  exact⟨_,hg.sub,q _ _ hg ⟨T,I,.inr (.inl ⟨low,_,aG,by omega,by omega,by omega,by omega⟩)⟩⟩
 ·refine⟨_,I,I,_,I,fm (fun BI=>?_) (fun BI=>?_)⟩
  ·refine⟨_,I,p,I,cP,fun ra ew qr=>?_⟩
   have cp:=es.pop cP qr
   refine⟨ra,I,fun cA bb aC=>⟨lz,fun T cc=>?_⟩⟩
   have hg:=cp.ext (Ext.tup (xs:=[V.str uk,.str cA]) cc)
   exact⟨_,hg.sub,q _ _ hg ⟨T,I,.inr (.inr ⟨cA,aG,bb,aC⟩)⟩⟩
  ·have ac0:way≠3/\way≠5:=⟨fun z=>hj (by rw[z];rfl),fun z=>BI (by rw[z];rfl)⟩
   obtain⟨iu,ac1,yz⟩:∃iu,iu∈[rS,um,uo,uj]/\e5 ([rS,um,uo,rT,uj].map V.str) ((way:Nat):Int)=J (.str iu):=by
    have:way=0\/way=1\/way=2\/way=4:=by omega
    rcases this with rfl|rfl|rfl|rfl
    .exact⟨rS,by simp,dz (j:=0) rfl⟩
    .exact⟨um,by simp,dz (j:=1) rfl⟩
    .exact⟨uo,by simp,dz (j:=2) rfl⟩
    .exact⟨uj,by simp,dz (j:=4) rfl⟩
   refine⟨(by show 5<=bU;decide),fun g bb=>⟨_,I,.inl (.inl ⟨_,_,_,_,I,I,bF aG,yz,(by show 1<=bU;decide),fun T cc=>?_⟩)⟩⟩
   have hg:=((es.refl cP).ext (Ext.lst bb)).ext (Ext.tup (xs:=[V.str iu]) cc)
   exact⟨_,hg.sub,q _ _ hg ⟨T,I,.inl ⟨iu,ac1,aG⟩⟩⟩
mutual
noncomputable def dI:bN->Nat
 |.bare _=>1
 |.sp _ _=>1
 |.le _=>1
 |.one _ f=>dI f+1
 |.two _ _ fs=>kk fs+1
noncomputable def kk:List bN->Nat
 |[]=>0
 |f::fs=>dI f+kk fs
end
noncomputable def Jp(k:Fin 4):ah:=[rS,um,uo,uj].getD k.val rS
noncomputable def pH(k:Fin 3):ah:=[Dj,Jm,Jo].getD k.val Dj
noncomputable def uq(k:Fin 2):ah:=[Jn,Q9].getD k.val Jn
mutual
noncomputable def gA:bN->D
 |.bare k =>.tup [.str (Jp k)]
 |.sp a b =>.tup [.str rT,.int a,.int b]
 |.le s =>.tup [.str uk,.str s]
 |.one k f =>.tup [.str (pH k),gA f]
 |.two k ns fs =>.tup [.str (uq k),.lst (h0 fs ns)]
noncomputable def h0:List bN->List ah->List D
 |[],_=>[]
 |f::fs,ns =>.tup [.str (ns.headD ah.empty),gA f]::h0 fs ns.tail
end
mutual
noncomputable def gB:bN->Prop
 |.bare _=>True
 |.sp a b=>a<=b/\b-a<2^190/\a.natAbs<10^58/\b.natAbs<10^58
 |.le s=>oi s=au/\s.length<=60
 |.one _ f=>gB f
 |.two _ ns fs=>l7 ns=au/\ns.length=fs.length/\ji fs
noncomputable def ji:List bN->Prop
 |[]=>True
 |f::fs=>gB f/\ji fs
end
theorem xx:∀(fs:List bN)(ns:List ah),(h0 fs ns).length=fs.length
 |[],ns=>by rw[h0];rfl
 |f::fs,ns=>by rw[h0,eA,xx fs ns.tail,eA]
theorem Lw(n:ah)(f:bN):∀(fs:List bN)(ns:List ah),ns.length=fs.length->h0 (fs++[f]) (ns++[n])=h0 fs ns++[.tup [.str n,gA f]]
 |[],ns,h=>by
  obtain rfl:=List.eq_nil_of_length_eq_zero (by simpa using h)
  show h0 [f] [n]=h0 [] []++_
  rw[h0,h0,h0];rfl
 |g::fs,[],h=>by cases h
 |g::fs,m::ns,h=>by
  show h0 (g::(fs++[f])) (m::(ns++[n]))=h0 (g::fs) (m::ns)++_
  rw[h0,h0]
  show _::h0 (fs++[f]) (ns++[n])=_::h0 fs ns++_
  rw[Lw n f fs ns (by simpa using h)];rfl
theorem Lj{f:bN}(h:gB f):∀{fs:List bN},ji fs->ji (fs++[f])
 |[],_=>by show ji [f];rw[ji,ji];exact⟨h,trivial⟩
 |g::fs,hs=>by
  rw[ji]at hs
  show ji (g::(fs++[f]))
  rw[ji]
  exact⟨hs.1,Lj h hs.2⟩
theorem LV{f:bN}{n:Nat}(h:bo f<=n):∀{fs:List bN},g8 fs<=n->g8 (fs++[f])<=n
 |[],_=>by show g8 [f]<=n;rw[g8,g8];omega
 |g::fs,hs=>by
  rw[g8]at hs
  show g8 (g::(fs++[f]))<=n
  rw[g8]
  have:=LV h (fs:=fs) (by omega)
  omega
theorem FA(f:bN):∀fs:List bN,kk (fs++[f])=kk fs+dI f
 |[]=>by show kk [f]=kk []+_;simp only[kk];omega
 |g::fs=>by
  show kk (g::(fs++[f]))=kk (g::fs)+_
  rw[kk,kk,FA f fs];omega
theorem m8.no(dY:m8 X H)(e:H T=J (.tup xs)):T∉X:=fun z=>by obtain⟨l,h⟩:=dY T z;rw[h]at e;cases e
theorem SV:∀k:Fin 4,(Jp k).length<=16000000:=by decide+kernel
theorem SU:∀k:Fin 3,(pH k).length<=16000000:=by decide+kernel
theorem SS:∀k:Fin 2,(uq k).length<=16000000:=by decide+kernel
theorem TP:∀w,w∈[rS,um,uo,uj]->∃k,w=Jp k:=fun w h=>by
 rcases(show w=rS\/w=um\/w=uo\/w=uj by simpa using h)with rfl|rfl|rfl|rfl
 .exact⟨0,I⟩
 .exact⟨1,I⟩
 .exact⟨2,I⟩
 .exact⟨3,I⟩
theorem Simp.ai(dY:m8 X H)(h:Simp H v):∃f,cQ X H (gA f) v/\gB f/\bo f=1/\dI f=1:=by
 obtain⟨T,rfl,⟨w,hw,e⟩|⟨a,b,e,h⟩|⟨s,e,al,aw⟩⟩:=h
 ·obtain⟨k,rfl⟩:=TP w hw
  exact⟨.bare k,by rw[gA];exact⟨T,_,I,dY.no e,e,⟨_,_,I,⟨I,SV k⟩,I⟩,by simp⟩,by rw[gB];trivial,by rw[bo],by rw[dI]⟩
 .exact⟨.sp a b,by rw[gA];exact⟨T,_,I,dY.no e,e,⟨_,_,I,⟨I,by decide+kernel⟩,_,_,rfl,rfl,_,_,rfl,rfl,rfl⟩,by simp⟩,by rw[gB];exact h,by rw[bo],by rw[dI]⟩
 .exact⟨.le s,by rw[gA];exact⟨T,_,I,dY.no e,e,⟨_,_,I,⟨I,by decide+kernel⟩,_,_,rfl,⟨rfl,by omega⟩,rfl⟩,by simp⟩,by rw[gB];exact⟨al,aw⟩,by rw[bo],by rw[dI]⟩
theorem cQ.grow(aO:p∈X)(g:es p H H'){d:D}(h:cQ X H d v):cQ X H' d v :=
 cQ.keep (fun b u nb e=>g.k b u (fun z=>nb (by rw[z];exact aO)) e) d h
structure J3(X:List ag)(H:aq)(f:bN)(v:V)(n m:Nat):Prop where
 d:cQ X H (gA f) v
 o:gB f
 h:bo f<=n
 s:dI f<=m
inductive PB(d:Nat)(vs:List V)(H:aq)(Q:bG)(E:bT):Prop where
 |mk (p:ag) (deep:Nat) (X:List ag) (bg:vs=[.ref p,.int ((deep:Nat):Int)]) (al:deep<d) (aw:kr p H) (bq:p∈X) (b4:m8 X H) (eb:∀v H' f,es p H H'->J3 X H' f v (deep+1) (20*deep+1)->Q v H'):PB d vs H Q E
def CY(d:Nat):b0:=fun vs H Q E=>PB d vs H Q E
structure zE(X:List ag)(l:ag)(d m:Nat)(H:aq)(ns:List ah)(i:Nat)(fs:List bN)(vs:List V):Prop where
 ls:H l=J (.lst vs)
 ds:cm (l::X) H (h0 fs (ns.take i)) vs
 ln:fs.length=i
 ok:ji fs
 bo:g8 fs<=d
 dI:kk fs<=m
theorem zE.step{e:Nat}{n:ah}{f:bN}{fs:List bN}(aa:zE X l d m ax ns i fs vs)(dY:m8 (l::X) ax)(aO:p∈X)(rm:l≠p)(g:es p ax H')(b5:J3 (l::X) H' f v e k)(he:e<=d)(cc:H' T=av)(aZ:ns[i]?=J n)(me:n.length<=100):
  zE X l d (m+k) (upd (upd H' T (.tup [.str n,v])) l (.lst (vs++[V.ref T]))) ns (i+1) (fs++[f]) (vs++[V.ref T])/\m8 (l::X) (upd (upd H' T (.tup [.str n,v])) l (.lst (vs++[V.ref T])))/\
  (∀b u,b∉l::X->H' b=J u->upd (upd H' T (.tup [.str n,v])) l (.lst (vs++[V.ref T])) b=J u):=by
 have vU:=dY.grow g
 have k2:∀b u,b∉l::X->H' b=J u->upd (upd H' T (.tup [.str n,v])) l (.lst (vs++[V.ref T])) b=J u:=fun b u nb e=>by
  rw[bt (fun z=>nb (by rw[z];exact eI ..)),bt (eB e cc)];exact e
 have OG:T∉l::X:=fun z=>by
  obtain⟨y,bV⟩:=vU T z
  rw[cc]at bV;cases bV
 have aej:T≠l:=fun z=>OG (by rw[z];exact eI ..)
 have aJ:i<ns.length:=by
  rcases hv i ns.length with z|z
  .exact z
  .rw[Ad z]at aZ;cases aZ
 refine⟨⟨aG,?_,by rw[ee,aa.ln];rfl,Lj b5.o aa.ok,LV (by have:=b5.h;omega) aa.bo,?_⟩,?_,k2⟩
 ·rw[lu,aZ]
  show cm _ _ (h0 (fs++[f]) (ns.take i++[n])) _
  rw[Lw n f fs _ (by rw[jn,aa.ln];omega)]
  have fj:upd (upd H' T (.tup [.str n,v])) l (.lst (vs++[V.ref T])) T=J (.tup [.str n,v]):=by rw[bt aej,aG]
  have hd:cQ (l::X) (upd (upd H' T (.tup [.str n,v])) l (.lst (vs++[V.ref T]))) (.tup [.str n,gA f]) (.ref T):=⟨T,_,rfl,OG,fj,⟨_,_,rfl,⟨rfl,by omega⟩,_,_,rfl,cQ.keep k2 _ b5.d,rfl⟩,by simp⟩
  exact cm.snoc hd _ (cm.keep k2 _ (cm.keep (fun b u nb e=>g.k b u (fun z=>nb (by rw[z];exact dP _ aO)) e) _ aa.ds))
 .rw[FA];have:=b5.s;have:=aa.dI;omega
 ·intro x ay
  by_cases z:x=l
  .subst z;exact⟨_,aG⟩
  ·obtain⟨y,bV⟩:=vU x ay
   exact⟨y,by rw[bt z,bt (eB bV cc)];exact bV⟩
set_option maxHeartbeats 4000000 in
theorem U7(nb:dD mg)(F:dS K mg "_law_form" AY ["_law_pool_here","_law_deep"] f fd)(iJ:bp P w K mg base 1 "_law_next" ["_law_pool_here"] zd)(uF:bp P w K mg base 1 "_law_names" ["_law_cell","_law_many"] IT)(uH:bp P w K mg base 2 "_law_simple" ["_law_pool_here","_law_way"] C2)
  (sd:bp P w K mg base (d+3) "_law_form" ["_law_pool_here","_law_deep"] (CY d)):bp P w K mg base (d+3+1) "_law_form" ["_law_pool_here","_law_deep"] (CY (d+1)):=by
 refine F.ez p6 (fun bl A _ s H vs Q E az h=>?_)
 obtain⟨p,deep,X,rfl,hd,cP,eZ,dY,q⟩:=h
 refine⟨_,(aP (bZ 2 p6.bB (bX iJ az (ao (af 0) aB) (hk:=by omega)))
  (aP (bZ 3 p6.bB (aS d2 (af 2) aD))
  (aP (cz (b6 dk (af 1) aD) (aQ (bZ 3 p6.bB (aS d2 (af 2) aD))) cy)
  (aP (cz (b6 ke (af 3) aD) (aQ (bx (bX uH az (ao (af 0) (ao (af 3) aB)) (hk:=by omega)))) cy)
  (aP (cz (gi.pt (ks (b6 dk (af 3) aD) (lk (b6 dk (af 3) aD)))) (aP (bZ 4 p6.bB (aS ed aD (aS d2 (aS hx (af 2) aD) aD)))
   (Bt (cz (gi.pt (o4 (b6 dk (af 1) aD) (p8 (b6 dk (aS d2 (aS hx (af 2) aD) aD) aD)))) (aQ (bZ 4 p6.bB (aS ed aD (aS d2 (aS hx (af 2) aD) aD)))) cy)
   (aP (bZ 5 p6.bB (bX uF az (ao (bX iJ az (ao (af 0) aB) (hk:=by omega)) (ao (af 4) aB)) (hk:=by omega)))
   (aP (bZ 6 p6.bB (eJ aB))
   (aP (ll h5.never rfl (ob rfl nb.lP (ao (af 4) aB)) (eo (i:=7) p6.bB rfl (by exact Or.inl I))
    (aQ (ih (jW PySem.F.plainAttrs_list PySem.F.slot_list_append PySem.F.type_list_append sq (af 6) (ao (js (ao (cV cX (af 5) (af 7)) (ao (bX sd az (ao (af 0) (ao (aS kZ (aS gb (af 1) aD) (vn Ba rfl nb.tC sR (ao (gZ dk (af 7) (aS d2 (aS hx (af 2) aD) (af 4))) aB))) aB)) (hk:=by omega)) aB))) aB)))))
   (aQ (bx (js (ao (cV cX (eJ (ao cT (ao cT aB))) (aS gb (af 3) aD)) (ao (af 6) aB)))))))))) cy)
  (aQ (bx (js (ao (cV cX (eJ (ao cT (ao cT (ao cT (ao cT (ao cT aB)))))) (aS gb (af 3) aD)) (ao (bX sd az (ao (af 0) (ao (aS gb (af 1) aD) aB)) (hk:=by omega)) aB)))))))))),?_⟩
 try dsimp only[cG,cH,cI,cJ]
 refine⟨_,I,p,I,cP,fun c ew qr=>?_⟩
 have cp:=es.pop cP qr
 generalize upd H p (.lst (ew.map V.int))=H1 at cp ⊢
 have Pa:∀way:Nat,way<6->C2 [.ref p,.int ((way:Nat):Int)] H1 (fun v H'=>hX H H' (Q v)) iK:=fun way hw=>⟨p,way,rfl,hw,cp.l,fun v H' g hs=>by
  obtain⟨f,al,aw,bq,b4⟩:=Simp.ai (dY.grow (cp.trans g)) hs
  exact⟨_,(cp.trans g).sub,q v H' f (cp.trans g) ⟨al,aw,by omega,by omega⟩⟩⟩
 obtain⟨jQ,akb,aaE⟩:=jH c 11 (by decide)
 have aaD:c%11=((jQ:Nat):Int):=aaE
 refine⟨_,I,_,_,I,I,(by show(0:Int)<11;decide),?_⟩
 dsimp only
 rw[aaD]
 refine⟨_,I,I,_,I,fm (fun ra=>?_) (fun ra=>?_)⟩
 ·obtain⟨Q8,ac3,aaG⟩:=jH c 6 (by decide)
  have aaF:c%6=((Q8:Nat):Int):=aaG
  refine⟨_,I,_,_,I,I,(by show(0:Int)<6;decide),?_⟩
  dsimp only
  rw[aaF]
  exact⟨_,I,.inl ⟨_,_,I,I,_,I,hC (by omega) ⟨_,I,_,I,Pa Q8 ac3⟩⟩⟩
 have ajS:deep≠0:=fun z=>ra (by rw[z];rfl)
 refine⟨_,I,.inl ⟨_,_,I,I,_,I,fm (fun ZP=>?_) (fun ZP=>?_)⟩⟩
 .exact⟨_,I,_,I,Pa jQ (by omega)⟩
 refine⟨_,I,I,_,I,(fun(jd:(jQ=8\/jQ=9)->_)=>fm (fun Gd=>jd (.inl (by have:=V.int.inj Gd;omega))) (fun Gd=>⟨_,I,I,_,I,fm (fun Ge=>jd (.inr (by have:=V.int.inj Ge;omega))) (fun Ge=>?_)⟩)) (fun ac4=>?_)⟩
 ·obtain⟨tG,aj1,aan⟩:=jH (c/11) 4 (by decide)
  have aam:c/11%4=((tG:Nat):Int):=aan
  have aU:(1:Int)+((tG:Nat):Int)=((tG+1:Nat):Int):=by omega
  refine⟨_,I,_,_,I,I,⟨by decide,by decide⟩,_,_,rfl,rfl,(by show(0:Int)<4;decide),.inl ⟨_,_,rfl,rfl,?_⟩⟩
  dsimp only
  rw[aam,aU]
  refine⟨fun bR H'=>H1=H'/\∃mN:Nat,0<mN/\mN<=20/\bR=[J (.ref p),J (.int ((deep:Nat):Int)),J (.int c),J (.int ((jQ:Nat):Int)),J (.int ((mN:Nat):Int)),av,av,av],?_,?_⟩
  ·refine⟨_,I,I,_,I,fm (fun k1=>?_) (fun k1=>⟨I,tG+1,by omega,by omega,rfl⟩)⟩
   refine⟨_,I,_,_,I,I,⟨by decide,by decide⟩,_,_,rfl,rfl,(by show(0:Int)<6;decide),rfl,_,rfl,fm (fun k2=>?_) (fun k2=>⟨rfl,tG+1,by omega,by omega,rfl⟩)⟩
   obtain⟨Cy,j9,aal⟩:=jH (c/264) 20 (by decide)
   have aak:c/264%20=((Cy:Nat):Int):=aal
   refine⟨_,I,_,_,I,I,⟨by decide,by decide⟩,_,_,rfl,rfl,(by show(0:Int)<20;decide),.inl ⟨_,_,rfl,rfl,rfl,Cy+1,by omega,by omega,?_⟩⟩
   dsimp only
   rw[aak,show(1:Int)+((Cy:Nat):Int)=((Cy+1:Nat):Int) by omega]
   rfl
  rintro bO ajh ⟨rfl,mN,Hl,ack,rfl⟩
  refine⟨_,I,p,I,cp.l,fun g0 dZ me=>⟨_,I,g0,mN,I,Hl,ack,fun D ns c0 kW il=>?_⟩⟩
  have fx:=cp.trans (es.pop cp.l me)
  have hg:=fx.ext (Ext.lst (xs:=ns.map V.str) c0)
  refine⟨UF _,fun l aC=>?_⟩
  have uK:=Ext.lst (xs:=[]) aC
  have DT:=hg.ext uK
  have lJ:H l=av:=hg.free aC
  have B7:H D=av:=fx.free c0
  have rm:l≠p:=hg.ne aC
  have abr:D≠l:=fun z=>by rw[<-z,aG]at aC;cases aC
  have v7:l∉X:=fun z=>by obtain⟨y,bV⟩:=dY l z;rw[lJ]at bV;cases bV
  have GV:D∉l::X:=fun z=>by
   rcases cR.mp z with z|z
   .exact abr z
   .obtain⟨y,bV⟩:=dY D z;rw[B7]at bV;cases bV
  have je:upd (upd (upd H1 p (.lst (dZ.map V.int))) D (.lst (ns.map V.str))) l (.lst []) D=J (.lst (ns.map V.str)):=uK.s _ _ aG
  have GX:=aG (H:=upd (upd H1 p (.lst (dZ.map V.int))) D (.lst (ns.map V.str))) (a:=l) (o:=cZ.lst [])
  generalize upd (upd (upd H1 p (.lst (dZ.map V.int))) D (.lst (ns.map V.str))) l (.lst [])=gv at DT je GX ⊢
  obtain⟨eK,NX,BS⟩:=jH (c/264) mN Hl
  refine⟨_,I,_,I,by omega,by omega,?_⟩
  have b1:(((mN:Nat):Int)).toNat=mN:=by omega
  rw[b1]
  refine qW (fun i ae ax=>es p H ax/\m8 (l::X) ax/\ax D=J (.lst (ns.map V.str))/\∃fs vs z,ae=[J (.ref p),J (.int ((deep:Nat):Int)),J (.int c),J (.int ((jQ:Nat):Int)),J (.int ((mN:Nat):Int)),J (.ref D),J (.ref l),z]/\zE X l deep (i+if eK<i then 20*(deep-1)else 0) ax ns i fs vs) ?_ ?_ ?_
  ·refine⟨DT,?_,je,[],[],av,I,⟨GX,by rw[List.take_zero,h0];rfl,rfl,by rw[ji];trivial,by rw[g8];omega,by rw[kk];omega⟩⟩
   intro x ay
   rcases cR.mp ay with z|z
   .subst z;exact⟨_,GX⟩
   .exact(dY.grow DT) x z
  ·rintro i ae ax aJ ⟨g2,tk,l8,fs,vs,z,rfl,aa⟩
   have gp:i<ns.length:=by omega
   have ys:ns[i]?=J ns[i]:=c4 gp
   have iy:e5 (ns.map V.str) (0+((i:Nat):Int))=J (.str ns[i]):=by rw[Int.zero_add];exact dz (by rw[e4,ys];rfl)
   refine⟨_,I,.inl ⟨I,_,bF aa.ls⟩,_,I,_,I,.inl (.inl ⟨_,_,_,_,I,I,bF l8,iy,?_⟩)⟩
   refine⟨_,I,_,I,_,_,I,I,_,I,_,I,_,_,I,I,⟨by decide,by decide⟩,_,rfl,_,_,rfl,rfl,(by omega),rfl,.inl (.inr ⟨_,rfl,?_⟩)⟩
   have Z3:decide (V.int (0+((i:Nat):Int))=V.int (c/264%((mN:Nat):Int)))=decide (i=eK):=by
    rw[BS];exact decide_eq_decide.mpr ⟨fun h=>by have:=V.int.inj h;omega,fun h=>by rw[h,Int.zero_add]⟩
   rw[Z3]
   obtain⟨l4,abR,Cg,ev,abS⟩:∃l4:Nat,l4<d/\l4+1<=deep/\(((deep:Nat):Int)-1)*(if decide (i=eK)=au then 1 else 0)=((l4:Nat):Int)/\(l4=if i=eK then deep-1 else 0):=⟨if i=eK then deep-1 else 0,by split<;>omega,by split<;>omega,by by_cases z:i=eK<;>simp only[z,decide_true,decide_false,if_true,if_false]<;>simp<;>omega,rfl⟩
   refine .inl ⟨_,_,I,I,.inr (by split<;>exact⟨by decide,by decide⟩),p,l4,l::X,(by rw[<-ev];rfl),abR,g2.l,dP _ eZ,tk,fun part bJ abc g3 acE=>⟨lz,fun T cc=>?_⟩⟩
   have rl:bJ l=J (.lst vs):=g3.k _ _ rm aa.ls
   have uL:=Ext.tup (xs:=[V.str ns[i],part]) cc
   have cB:vs.length=i:=by
    rw[dn.len _ (cm.at _ aa.ds),xx,aa.ln]
   refine⟨l,_,_,I,I,uL.s _ _ rl,(by rw[cB];exact e3 (show i<100000 by omega) (by decide)),?_⟩
   obtain⟨hK,zO,hD⟩:=aa.step tk eZ rm g3 acE Cg cc ys (by have:=(p5 il).2 _ (List.getElem_mem gp);omega)
   refine⟨((g2.trans g3).ext uL).set lJ (uL.s _ _ rl) rm,zO,hD _ _ GV (g3.k _ _ (fun z=>GV (by rw[z];exact dP _ eZ)) l8),_,_,_,I,⟨hK.ls,hK.ds,hK.ln,hK.ok,hK.bo,?_⟩⟩
   refine dj hK.dI ?_
   rw[abS]
   by_cases z:i=eK
   .rw[if_pos z,if_neg (by omega),if_pos (by omega)];omega
   ·rw[if_neg z]
    by_cases dy:eK<i
    .rw[if_pos dy,if_pos (by omega)];omega
    .rw[if_neg dy];omega
  ·rintro ae ax ⟨g2,tk,l8,fs,vs,z,rfl,aa⟩
   obtain⟨ww,yz⟩:∃ww:Fin 2,e5 ([Jn,Q9].map V.str) (((jQ:Nat):Int)-8)=J (.str (uq ww)):=by
    rcases ac4 with rfl|rfl
    .exact⟨0,dz (j:=0) I⟩
    .exact⟨1,dz (j:=1) I⟩
   refine⟨lz,fun g bb=>⟨_,I,_,_,I,I,.inl (.inl ⟨_,_,_,_,I,I,bF aG,yz,_,I,lz,fun T cc=>?_⟩)⟩⟩
   have DP:=(Ext.lst bb).trans (Ext.tup (xs:=[V.str (uq ww),V.ref l]) cc)
   have tc:=g2.ext DP
   have aeQ:ns.take mN=ns:=UV (by omega)
   have et:=aa.ds
   rw[aeQ]at et
   have kX:vs.length=mN:=by rw[dn.len _ (cm.at _ aa.ds),xx,aa.ln]
   have jf:T∉X:=(dY.grow tc).no aG
   refine⟨_,tc.sub,q _ _ (.two ww ns fs) tc ⟨?_,?_,?_,?_⟩⟩
   ·rw[gA]
    exact⟨T,_,I,jf,aG,⟨_,_,I,⟨I,SS ww⟩,_,_,I,⟨l,vs,I,v7,DP.s _ _ aa.ls,cm.weak (fun y bV=>dP _ bV) _ (cm.same DP.s et),by omega⟩,rfl⟩,by simp⟩
   .rw[gB];exact⟨il,by rw[aa.ln,kW],aa.ok⟩
   .rw[bo];have:=aa.bo;omega
   ·rw[dI]
    have:=aa.dI
    rw[if_pos NX]at this
    omega
 have hw:jQ=6\/jQ=7\/jQ=10:=by
  have pe:jQ≠8:=fun z=>Gd (by rw[z];rfl)
  have rf:jQ≠9:=fun z=>Ge (by rw[z];rfl)
  omega
 obtain⟨ww,yz⟩:∃ww:Fin 3,e5 ([Dj,Jm,ah.ofString "",ah.ofString "",Jo].map V.str) (((jQ:Nat):Int)-6)=J (.str (pH ww)):=by
  rcases hw with rfl|rfl|rfl
  .exact⟨0,dz (j:=0) I⟩
  .exact⟨1,dz (j:=1) I⟩
  .exact⟨2,dz (j:=4) I⟩
 refine⟨(by show 5<=bU;decide),fun g bb=>⟨_,I,_,_,I,I,.inl (.inl ⟨_,_,_,_,I,I,bF aG,yz,?_⟩)⟩⟩
 have DU:=cp.ext (Ext.lst (xs:=[Dj,Jm,ah.ofString "",ah.ofString "",Jo].map V.str) bb)
 have ev:((deep:Nat):Int)-1=((deep-1:Nat):Int):=by omega
 refine⟨_,I,_,I,_,_,I,I,p,deep-1,X,(by rw[<-ev];rfl),by omega,DU.l,eZ,dY.grow DU,fun v H' f g' b5=>⟨lz,fun T cc=>?_⟩⟩
 have uL:=Ext.tup (xs:=[V.str (pH ww),v]) cc
 have tc:=(DU.trans g').ext uL
 have jf:T∉X:=(dY.grow tc).no aG
 refine⟨_,tc.sub,q _ _ (.one ww f) tc ⟨?_,?_,?_,?_⟩⟩
 .rw[gA];exact⟨T,_,I,jf,aG,⟨_,_,I,⟨I,SU ww⟩,_,_,I,b5.d.same uL.s,I⟩,by simp⟩
 .rw[gB];exact b5.o
 .rw[bo];have:=b5.h;omega
 .rw[dI];have:=b5.s;omega
theorem Kr(nb:dD mg)(F:dS K mg "_law_form" AY ["_law_pool_here","_law_deep"] f fd)(iJ:bp P w K mg base 1 "_law_next" ["_law_pool_here"] zd)(uF:bp P w K mg base 1 "_law_names" ["_law_cell","_law_many"] IT)(uH:bp P w K mg base 2 "_law_simple" ["_law_pool_here","_law_way"] C2):∀d:Nat,bp P w K mg base (d+3) "_law_form" ["_law_pool_here","_law_deep"] (CY d)
 |0=>bp.none F fun vs H Q E h=>by obtain⟨_,_,_,_,h,_⟩:=h;omega
 |d+1=>U7 nb F iJ uF uH (Kr nb F iJ uF uH d)
theorem Bp{X:List ag}{H:aq}:∀(fs:List bN)(ns:List ah){vs:List V}{i:Nat}{y:V},ns.length=fs.length->cm X H (h0 fs ns) vs->vs[i]?=J y->∃f n T v,fs[i]?=J f/\ns[i]?=J n/\y=.ref T/\T∉X/\H T=J (.tup [.str n,v])/\cQ X H (gA f) v
 |[],ns,vs,i,y,bg,h,e=>by
  rw[h0]at h
  obtain rfl:vs=[]:=h
  cases e
 |f::fs,[],vs,i,y,bg,h,e=>by cases bg
 |f::fs,n::ns,vs,0,y,bg,h,e=>by
  rw[h0]at h
  obtain⟨v,r,rfl,⟨T,ws,rfl,cc,fj,⟨_,_,rfl,⟨rfl,_⟩,jA,_,rfl,b5,rfl⟩,_⟩,cj⟩:=h
  cases e
  exact⟨f,n,T,jA,I,I,I,cc,fj,b5⟩
 |f::fs,n::ns,vs,i+1,y,bg,h,e=>by
  rw[h0]at h
  obtain⟨v,r,rfl,q,cj⟩:=h
  exact Bp fs ns (by simpa using bg) cj e
theorem Bf:∀{fs:List bN}{i:Nat}{f:bN},ji fs->fs[i]?=J f->gB f/\bo f<=g8 fs
 |g::fs,0,f,h,e=>by
  cases e
  rw[ji]at h
  rw[g8]
  exact⟨h.1,by omega⟩
 |g::fs,i+1,f,h,e=>by
  rw[ji]at h
  obtain⟨a,b⟩:=Bf h.2 (show fs[i]?=J f from e)
  rw[g8]
  exact⟨a,by omega⟩
theorem Mu(f:bN):1<=dI f:=by cases f<;>simp only[dI]<;>omega
def km(X:List ag)(H:aq):Prop:=∀x,x∈X->∃o,H x=J o
theorem km.no(h:km X H){t:ag}(e:H t=av):t∉X:=fun z=>by
 obtain⟨o,q⟩:=h t z
 rw[e]at q;cases q
theorem km.ext(h:km X H)(m:d7 H H'):km X H':=fun x ay=>by
 obtain⟨u,q⟩:=h x ay
 exact⟨u,m _ _ q⟩
theorem km.add{D:ag}(h:km X H)(e:H D=J o):km (D::X) H:=fun x ay=>by
 rcases cR.mp ay with rfl|z
 .exact⟨o,e⟩
 .exact h x z
theorem eQ.snoc{c:dF}{X:List ag}{H:aq}{f:bN}{o:ag}(aH:b7 c X H f o):∀(fs:List bN){os:List ag},eQ c X H fs os->eQ c X H (fs++[f]) (os++[o])
 |[],os,h=>by
  obtain rfl:os=[]:=h
  exact⟨o,[],I,aH,I⟩
 |g::fs,os,h=>by
  obtain⟨a,r,rfl,q,cj⟩:=h
  exact⟨a,r++[o],I,q,eQ.snoc aH fs cj⟩
inductive PX(c:dF)(d:Nat)(vs:List V)(H:aq)(Q:bG)(E:bT):Prop where
 |mk (uh:V) (f:bN) (X:List ag) (bg:vs=[uh]) (al:km X H) (aw:cQ X H (gA f) uh) (bq:gB f) (b4:bo f<=d) (eb:∀o H',Ext H H'->b7 c X H' f o->Q (.ref o) H'):PX c d vs H Q E
def C0(c:dF)(d:Nat):b0:=fun vs H Q E=>PX c d vs H Q E
set_option maxHeartbeats 4000000 in
theorem U6{f:ag}{fd:ho}{c:dF}(nb:dD mg)(F:dS K mg "_law_made" AX ["_law_form_here"] f fd)
  (uT:lZ K (c.b 0)) (wj:mg "Nothing"=J (.ref (c.b 0))) (uU:lZ K (c.b 1)) (wk:mg "Truth"=J (.ref (c.b 1))) (uV:lZ K (c.b 2)) (wm:mg "Whole"=J (.ref (c.b 2))) (uS:lZ K (c.b 3)) (wi:mg "Fraction"=J (.ref (c.b 3)))
  (u2:jl P w K mg base 1 "Span" c.s ["self","low","high"] (I2 c.s)) (uX:jl P w K mg base 2 "Letters" c.l ["self","signs"] (IQ c.l)) (u0:jl P w K mg base 4 "Record" (c.t 0) ["self","parts"] (wG (c.t 0))) (uW:jl P w K mg base 4 "Choice" (c.t 1) ["self","cases"] (wG (c.t 1)))
  (uZ:jl P w K mg base 1 "Maybe" (c.o 0) ["self","inner"] (qG (c.o 0))) (uY:jl P w K mg base 1 "Many" (c.o 1) ["self","inner"] (qG (c.o 1))) (u3:jl P w K mg base 1 "Turned" (c.o 2) ["self","inner"] (qG (c.o 2)))
  (pR:bp P w K mg base (d+7) "_law_made" ["_law_form_here"] (C0 c d)):bp P w K mg base (d+7+1) "_law_made" ["_law_form_here"] (C0 c (d+1)):=by
 refine F.ez KM (fun bl A _ s H vs Q E az h=>?_)
 obtain⟨uh,g,X,rfl,dY,b5,aT,cS,q⟩:=h
 refine Jj _ (aP (bZ 1 KM.bB (cV cX (af 0) aD))
  (aP (cz (b6 dk (af 1) cT) (aQ (bx (A8 uT rfl wj))) cy)
  (aP (cz (b6 dk (af 1) cT) (aQ (bx (A8 uU rfl wk))) cy)
  (aP (cz (b6 dk (af 1) cT) (aQ (bx (A8 uV rfl wm))) cy)
  (aP (cz (b6 dk (af 1) cT) (aQ (bx (A8 uS rfl wi))) cy)
  (aP (cz (b6 dk (af 1) cT) (aQ (bx (pW u2 az (ao (cV cX (af 0) aD) (ao (cV cX (af 0) aD) aB)) (hk:=by omega)))) cy)
  (aP (cz (b6 dk (af 1) cT) (aQ (bx (pW uX az (ao (cV cX (af 0) aD) aB) (hk:=by omega)))) cy)
  (aP (cz (b6 dk (af 1) cT) (aQ (bx (pW u0 az (ao (hZ ["_law_name","_law_inner"] [] rfl (by decide+kernel) trivial (iT (cV cX (af 0) aD)) (fun _ _ _ _ _=>(qb rfl (j0 (eo (i:=0) (show(["_law_name","_law_inner"]:List ah).Nodup by decide+kernel)) (j0 (eo (i:=1) (show(["_law_name","_law_inner"]:List ah).Nodup by decide+kernel)) p9)))) (fun _ _ _ _ _=>hN) (fun _ _ _ _ _=>(js (ao (af 0) (ao (bX pR az (ao (af 1) aB) (hk:=by omega)) aB))))) aB) (hk:=by omega)))) cy)
  (aP (cz (b6 dk (af 1) cT) (aQ (bx (pW uW az (ao (hZ ["_law_name","_law_inner"] [] rfl (by decide+kernel) trivial (iT (cV cX (af 0) aD)) (fun _ _ _ _ _=>(qb rfl (j0 (eo (i:=0) (show(["_law_name","_law_inner"]:List ah).Nodup by decide+kernel)) (j0 (eo (i:=1) (show(["_law_name","_law_inner"]:List ah).Nodup by decide+kernel)) p9)))) (fun _ _ _ _ _=>hN) (fun _ _ _ _ _=>(js (ao (af 0) (ao (bX pR az (ao (af 1) aB) (hk:=by omega)) aB))))) aB) (hk:=by omega)))) cy)
  (aP (cz (b6 dk (af 1) cT) (aQ (bx (pW uZ az (ao (bX pR az (ao (cV cX (af 0) aD) aB) (hk:=by omega)) aB) (hk:=by omega)))) cy)
  (aP (cz (b6 dk (af 1) cT) (aQ (bx (pW uY az (ao (bX pR az (ao (cV cX (af 0) aD) aB) (hk:=by omega)) aB) (hk:=by omega)))) cy)
  (aQ (bx (pW u3 az (ao (bX pR az (ao (cV cX (af 0) aD) aB) (hk:=by omega)) aB) (hk:=by omega))))))))))))))) fun G fo hQ go=>?_
 try dsimp only[cG,cH,cI,cJ]at go
 have a0:∀(x:V)(r:List V),e5 (x::r) 0=J x:=fun x r=>dz (j:=0) rfl
 have a1:∀(x y:V)(r:List V),e5 (x::y::r) 1=J y:=fun x y r=>dz (j:=1) rfl
 cases g with
 | bare k =>
  rw[gA]at b5
  obtain⟨T,_,rfl,jf,e,⟨_,_,rfl,⟨rfl,_⟩,rfl⟩,_⟩:=b5
  obtain⟨lV,rg⟩:∃lV,lV=c.b k:=⟨_,rfl⟩
  rcases xX k with rfl|rfl|rfl|rfl
  all_goals
   subst hQ
   refine go (k6 I e ?_)
   iterate 3 (try refine ia I (by decide+kernel) ?_)
   refine lC I fun N=>?_
   rw[<-rg]
   intro x ai al aw nu
   have E:=Ext.made (C:=lV) (fs:=[]) al aw nu
   exact⟨_,E.sub,q _ _ E ⟨dY.no al,ai,by rw[<-rg];exact aG⟩⟩
 |sp lo aJ =>
  rw[gA]at b5
  rw[gB]at aT
  obtain⟨T,_,rfl,jf,e,⟨_,_,rfl,⟨rfl,_⟩,_,_,rfl,rfl,_,_,rfl,rfl,rfl⟩,_⟩:=b5
  subst hQ
  refine go (k6 I e ?_)
  iterate 4 refine ia I (by decide+kernel) ?_
  have a2:e5 [V.str rT,V.int lo,V.int aJ] 2=J (.int aJ):=dz (j:=2) rfl
  refine lC I fun N=>⟨_,I,.inl (.inr ⟨_,_,_,_,I,I,dK e,a1 _ _ _,_,I,.inl (.inr ⟨_,_,_,_,I,I,dK e,a2,?_⟩)⟩)⟩
  intro x ai al aw nu
  refine⟨x,ai,lo,aJ,I,aG,aT.1,I,?_⟩
  rw[fX]
  have E:=Ext.made (C:=c.s) (fs:=QQ lo aJ) al aw nu
  exact⟨_,E.sub,q _ _ E ⟨dY.no al,ai,aG⟩⟩
 |le cA =>
  rw[gA]at b5
  rw[gB]at aT
  obtain⟨T,_,rfl,jf,e,⟨_,_,rfl,⟨rfl,_⟩,_,_,rfl,⟨rfl,_⟩,rfl⟩,_⟩:=b5
  subst hQ
  refine go (k6 I e ?_)
  iterate 5 refine ia I (by decide+kernel) ?_
  refine lC I fun N=>⟨_,I,.inl (.inr ⟨_,_,_,_,I,I,dK e,a1 _ _ _,?_⟩)⟩
  intro x ai al aw nu
  refine⟨x,ai,cA,I,aG,by omega,aT.1,rfl,?_⟩
  rw[fX]
  have E:=Ext.made (C:=c.l) (fs:=Ou cA) al aw nu
  exact⟨_,E.sub,q _ _ E ⟨dY.no al,ai,aG⟩⟩
 | one k g =>
  rw[gA]at b5
  rw[gB]at aT
  rw[bo]at cS
  obtain⟨T,_,rfl,jf,e,⟨_,_,rfl,⟨rfl,_⟩,jA,_,rfl,hd,rfl⟩,_⟩:=b5
  have a1:=a1 (.str (pH k)) jA []
  obtain⟨lV,rg⟩:∃lV,lV=c.o k:=⟨_,rfl⟩
  rcases vI k with rfl|rfl|rfl
  all_goals
   subst hQ
   refine go (k6 I e ?_)
   iterate 10 (try refine ia I (by decide+kernel) ?_)
   try refine lC I fun N=>?_
   rw[<-rg]
   refine⟨_,I,.inl (.inr ⟨_,_,_,_,I,I,dK e,a1,jA,g,X,I,dY,hd,aT,by omega,fun o H' gw abt=>?_⟩)⟩
   intro x ai al aw nu
   refine⟨x,ai,o,I,aG,I,?_⟩
   rw[fX]
   have E:=Ext.made (C:=lV) (fs:=[("inner",V.ref o)]) al aw nu
   have M:=gw.trans E
   exact⟨_,M.sub,q _ _ M ⟨(dY.ext gw.s).no al,ai,o,by rw[<-rg];exact aG,b7.keep (fun b u _ e=>E.s b u e) g abt⟩⟩
 | two k ns fs =>
  rw[gA]at b5
  rw[gB]at aT
  rw[bo]at cS
  obtain⟨il,cB,Co⟩:=aT
  obtain⟨T,_,rfl,jf,e,⟨_,_,rfl,⟨rfl,_⟩,_,_,rfl,⟨l,tF,rfl,v7,jc,et,acg⟩,rfl⟩,_⟩:=b5
  have kX:tF.length=fs.length:=by rw[dn.len _ (cm.at _ et),xx]
  have a1:=a1 (.str (uq k)) (.ref l) []
  obtain⟨lV,rg⟩:∃lV,lV=c.t k:=⟨_,rfl⟩
  rcases BZ k with rfl|rfl
  all_goals
   subst hQ
   refine go (k6 I e ?_)
   iterate 7 (try refine ia I (by decide+kernel) ?_)
   refine lC I fun N=>?_
   rw[<-rg]
   have ab5:=p5 il
   refine .inl ⟨_,I,.inl (.inr ⟨_,_,_,_,I,I,dK e,a1,l,I,⟨_,bF jc⟩,fun D c0=>?_⟩)⟩
   have GV:D∉X:=dY.no c0
   refine A4 (K:=K) (a:=l) (xs:=tF) (fun i aN ax=>Ext H ax/\∃aI:List (ag×ah×ag),aN=aI.map (fun x=>V.ref x.1)/\g9 aI=ns.take i/\(∀x,x∈aI->x.1∉D::X/\ax x.1=J (.tup [.str x.2.1,.ref x.2.2]))/\eQ c (D::X) ax (fs.take i) (iw aI)) (fun ae=>∃du dy,ae=[du,dy]) (by omega) ⟨_,_,I⟩ ?_ ?_ ?_ ?_
   ·rintro i aN ax ⟨M2,_⟩
    exact bF (M2.s _ _ jc)
   .exact⟨Ext.lst c0,[],I,I,(fun x ay=>nomatch ay),I⟩
   ·rintro i x ay aN bO H1 ⟨du,dy,rfl⟩ ⟨gw,aI,rfl,qs,v9,te⟩ e9 mh R b8
    obtain⟨g,nm,dT,jA,bb,nC,rfl,vT,xT,hd⟩:=Bp fs ns cB et ay
    obtain⟨yR,v3⟩:=Bf Co bb
    have rj:km (D::X) H1:=(dY.ext gw.s).add e9
    have aaB:fs.take (i+1)=fs.take i++[g]:=by rw[lu,bb];rfl
    refine⟨_,_,I,dK (gw.s _ _ xT),I,_,_,I,_,_,I,I,?_⟩
    refine⟨_,I,_,I,jA,g,D::X,I,rj,cQ.same gw.s (cQ.add c0 _ hd),yR,by omega,fun o bJ jk abu=>⟨lz,fun sA oo=>?_⟩⟩
    have qS:=Ext.tup (xs:=[V.str nm,.ref o]) oo
    have abB:=rj.ext jk.s
    have NF:sA∉D::X:=abB.no oo
    have nv:bJ D=J (.lst (aI.map fun x=>V.ref x.1)):=jk.s _ _ e9
    have x2:=qS.s _ _ nv
    have abz:sA≠D:=fun z=>NF (by rw[z];exact eI ..)
    have eK:∀b u,b∉D::X->bJ b=J u->upd (upd bJ sA (.tup [.str nm,.ref o])) D (.lst ((aI.map fun x=>V.ref x.1)++[V.ref sA])) b=J u:=fun b u nb e=>by
     rw[bt (fun z=>nb (by rw[z];exact eI ..))];exact qS.s _ _ e
    refine b8 _ _ _ ⟨_,_,I⟩ x2 ⟨⟨fun b u e=>?_,fun cl=>xp x2 (qS.c (jk.c (gw.c cl)))⟩,aI++[(sA,nm,o)],by rw[gf];rfl,?_,fun y bV=>?_,?_⟩
    ·rw[bt (eB e c0)]
     exact qS.s _ _ (jk.s b u (gw.s b u e))
    ·unfold g9 at qs ⊢
     rw[gf,qs,lu,nC];rfl
    ·rcases List.mem_append.mp bV with z|z
     ·obtain⟨hz,e6⟩:=v9 y z
      exact⟨hz,eK _ _ hz (jk.s _ _ e6)⟩
     ·rw[ft.mp z]
      exact⟨NF,by show upd _ D _ sA=_;rw[bt abz,aG]⟩
    ·rw[aaB,show iw (aI++[(sA,nm,o)])=iw aI++[o] by unfold iw;rw[gf];rfl]
     exact eQ.snoc (b7.keep eK _ abu) _ (eQ.keep eK _ (eQ.keep (fun b u _ e=>jk.s b u e) _ te))
   ·rintro aN H' mh ix ⟨JO,aI,rfl,qs,v9,te⟩
    rw[kX,UV (by omega)]at qs
    rw[kX,UV (cE _)]at te
    rw[cq]at mh
    have cP:Parts H' D aI:=⟨ix,fun x ay=>(v9 x ay).2,by omega,fun x ay=>dj (ab5.2 _ (by rw[<-qs];exact List.mem_map.mpr ⟨x,ay,I⟩)) (by decide)⟩
    intro y ai bV yg kc
    have Ro:=Ext.made (C:=lV) (fs:=[]) bV yg kc
    refine⟨y,ai,D,aI,I,aG,cP.same Ro.s,by rw[qs];exact il,fun dE dM al aw nu=>⟨I,?_⟩⟩
    have ew:dE≠y:=fun z=>by rw[z,aG]at al;cases al
    have dZ:dM≠y:=fun z=>by rw[z,aG]at aw;cases aw
    rw[Bb dZ,Bb ew,fX]
    have DQ:=Ext.made (C:=lV) (fs:=Df dE dM) bV yg kc
    have g1:upd (upd H' ai (.own y)) y (.ins lV ai (Df dE dM)) dE=av:=by rw[bt ew]at al ⊢;exact al
    have n1:=Ext.lst (xs:=(g9 aI).map V.str) g1
    have g2:upd (upd (upd H' ai (.own y)) y (.ins lV ai (Df dE dM))) dE (.lst ((g9 aI).map V.str)) dM=av:=by rw[bt (d1 nu)];rw[bt dZ]at aw ⊢;exact aw
    have DR:=Ext.lst (xs:=(iw aI).map V.ref) g2
    have E:=(DQ.trans n1).trans DR
    have M:=JO.trans E
    have vU:=dY.ext JO.s
    refine⟨_,M.sub,q _ _ M ⟨vU.no bV,ai,dE,dM,iw aI,by rw[<-rg];exact(n1.trans DR).s _ _ aG,vU.no (DQ.s.free g1),vU.no ((DQ.trans n1).s.free g2),by rw[<-qs];exact DR.s _ _ aG,aG,eQ.keep (fun b u _ e=>E.s b u e) _ (eQ.weak (fun x ay=>dP _ ay) _ te)⟩⟩
theorem Kq{f:ag}{fd:ho}{c:dF}(nb:dD mg)(F:dS K mg "_law_made" AX ["_law_form_here"] f fd)
  (uT:lZ K (c.b 0)) (wj:mg "Nothing"=J (.ref (c.b 0))) (uU:lZ K (c.b 1)) (wk:mg "Truth"=J (.ref (c.b 1))) (uV:lZ K (c.b 2)) (wm:mg "Whole"=J (.ref (c.b 2))) (uS:lZ K (c.b 3)) (wi:mg "Fraction"=J (.ref (c.b 3)))
  (u2:jl P w K mg base 1 "Span" c.s ["self","low","high"] (I2 c.s)) (uX:jl P w K mg base 2 "Letters" c.l ["self","signs"] (IQ c.l)) (u0:jl P w K mg base 4 "Record" (c.t 0) ["self","parts"] (wG (c.t 0))) (uW:jl P w K mg base 4 "Choice" (c.t 1) ["self","cases"] (wG (c.t 1)))
  (uZ:jl P w K mg base 1 "Maybe" (c.o 0) ["self","inner"] (qG (c.o 0))) (uY:jl P w K mg base 1 "Many" (c.o 1) ["self","inner"] (qG (c.o 1))) (u3:jl P w K mg base 1 "Turned" (c.o 2) ["self","inner"] (qG (c.o 2))):∀d,bp P w K mg base (d+7) "_law_made" ["_law_form_here"] (C0 c d)
 |0=>bp.none F fun vs H Q E z=>by obtain⟨_,g,_,_,_,_,_,h,_⟩:=z;have:=xJ g;omega
 |d+1=>U6 nb F uT wj uU wk uV wm uS wi u2 uX u0 uW uZ uY u3 (Kq nb F uT wj uU wk uV wm uS wi u2 uX u0 uW uZ uY u3 d)
inductive PE(vs:List V)(H:aq)(Q:bG)(E:bT):Prop where
 |mk (a b:Int) (bg:vs=[.int a,.int b]) (al:∀(p q:Int)(t:ag)(H':aq),Ext H H'->H t=av->H' t=J (.tup [.int p,.int q])->fh (.tup [.int p,.int q])=au->(a=0/\b=0->p=0/\q=1)->Q (.ref t) H'):PE  vs H Q E
def IK:b0:=fun vs H Q E=>PE  vs H Q E
theorem Bc:3<=bU:=by decide
theorem Vj(nb:dD mg)(F:dS K mg "_law_fraction" Ex ["_law_one","_law_other"] f fd):bp P w K mg base 1 "_law_fraction" ["_law_one","_law_other"] IK:=by
 refine F.ez q6 (fun bl A _ s H vs Q E az h=>?_)
 obtain⟨a,b,rfl,q⟩:=h
 refine⟨_,(aP (bZ 2 q6.bB (aS kZ (aS d2 (aS vp (af 0) aD) (cV cX (eJ (ao aD (ao aD (ao (aS vx aD aD) aB)))) (aS d2 (af 0) aD))) (cV cX (eJ (ao aD (ao (lD ly aD) aB))) (aS d2 (af 1) aD))))
  (aP (bZ 3 q6.bB (aS ed aD (aS d2 (aS vp (af 1) aD) (cV cX (eJ (ao aD (ao aD (ao (aS vx aD aD) aB)))) (aS d2 (aS vp (af 1) aD) aD)))))
  (aP (bZ 4 q6.bB (cx Zt rfl nb.ZK Un (ao (af 2) aB)))
  (aP (bZ 5 q6.bB (af 3))
  (aP (q0 h5.never (b6 kY (af 4) aD)
   (aP (bZ 6 q6.bB (aS d2 (af 5) (af 4)))
   (aP (bZ 5 q6.bB (af 4))
   (aQ (bZ 4 q6.bB (af 6))))))
  (aQ (bx (js (ao (aS vp (af 2) (af 5)) (ao (aS vp (af 3) (af 5)) aB)))))))))),?_⟩
 try dsimp only[cG,cH,cI,cJ]
 have rL:w0 10 38:=by refine⟨?_,?_,?_⟩<;>decide
 obtain⟨M,x6,abx⟩:=vr V.int [10,1000,10^Int.toNat 38] a 3 rfl (by show 0<3;decide)
 have Nz:0<M/\M<=10^38:=by
  have:∀y∈([10,1000,10^Int.toNat 38]:List Int),0<y/\y<=10^38:=by decide+kernel
  exact this M x6
 obtain⟨S,c9,Cb⟩:=vr V.int [1,-1] b 2 rfl (by show 0<2;decide)
 have NB:S=1\/S = -1:=by simpa using c9
 obtain⟨N,cK,nw⟩:=vr V.int [6,1000,10^Int.toNat 38] (b/2) 3 rfl (by show 0<3;decide)
 have NA:0<N/\N<=10^38:=by
  have:∀y∈([6,1000,10^Int.toNat 38]:List Int),0<y/\y<=10^38:=by decide+kernel
  exact this N cK
 have eS:zw (a/3%M) S:=by rcases NB with rfl|rfl<;>exact .inr ⟨by decide,by decide⟩
 have m0:=hu (a/3) (show M≠0 by omega)
 have gr:=hL (a/3) Nz.1
 have yK:=hu (b/6) (show N≠0 by omega)
 have ew:=hL (b/6) NA.1
 refine⟨_,I,_,_,I,I,⟨by decide,.inl (by decide)⟩,_,_,rfl,rfl,rL,Bc,fun g1 yj=>⟨_,rfl,_,_,rfl,rfl,(by show(0:Int)<3;decide),.inl (.inl ⟨_,_,_,_,rfl,rfl,bF aG,abx,_,_,rfl,rfl,Nz.1,_,rfl,lz,fun g2 v3=>⟨_,rfl,_,_,rfl,rfl,(by show(0:Int)<2;decide),.inl (.inl ⟨_,_,_,_,rfl,rfl,bF aG,Cb,.inl ⟨_,_,rfl,rfl,eS,?_⟩⟩)⟩⟩)⟩⟩
 have gj:=(Ext.lst (xs:=[V.int 10,.int 1000,.int (10^Int.toNat 38)]) yj).trans (Ext.lst (xs:=[V.int 1,.int (-1)]) v3)
 have cc:(a/3%M*S).natAbs<=10^38:=by rcases NB with rfl|rfl<;>omega
 have ND:a=0->a/3%M*S=0:=by rintro rfl;rw[Int.zero_ediv,Int.zero_emod,Int.zero_mul]
 dsimp only
 generalize a/3%M*S=T at cc ND ⊢
 refine⟨_,I,_,_,I,I,⟨by decide,.inl (by decide)⟩,_,_,rfl,rfl,rL,Bc,fun g3 ab3=>⟨_,rfl,_,_,rfl,rfl,⟨by decide,.inl (by decide)⟩,_,_,rfl,rfl,(by show(0:Int)<3;decide),.inl (.inl ⟨_,_,_,_,rfl,rfl,bF aG,nw,_,_,rfl,rfl,NA.1,.inl ⟨_,_,rfl,rfl,?_⟩⟩)⟩⟩
 have ie:=gj.trans (Ext.lst (xs:=[V.int 6,.int 1000,.int (10^Int.toNat 38)]) ab3)
 have e8:0<1+b/6%N/\1+b/6%N<=10^38:=by omega
 have Np:b=0->1+b/6%N=1:=by rintro rfl;rw[Int.zero_ediv,Int.zero_emod];rfl
 dsimp only
 generalize 1+b/6%N=B at e8 Np ⊢
 generalize upd (upd (upd H g1 _) g2 _) g3 _=bJ at ie ⊢
 refine⟨_,I,_,I,_,I,?_⟩
 obtain⟨B,rfl⟩:∃n:Nat,B=n:=⟨B.toNat,by omega⟩
 refine⟨fun m ae ax=>bJ=ax/\∃(y:Nat)(Dk:Option V),ae=[J (.int a),J (.int b),J (.int T),J (.int (B:Int)),J (.int (m:Nat)),J (.int (y:Nat)),Dk]/\Nat.gcd y m=Nat.gcd B T.natAbs/\0<y,⟨T.natAbs,I,B,av,?_,I,by omega⟩,?_⟩
 .rw[show(if T<0 then -T else T)=((T.natAbs:Nat):Int) by split<;>omega];rfl
 rintro m ae ax ⟨rfl,y,Dk,rfl,bb,bV⟩
 refine⟨_,I,_,_,I,I,_,I,?_⟩
 refine fm (fun c=>?_) (fun c=>?_)
 ·have hm:0<m:=by omega
  refine⟨fun bR H'=>∃bY,bY<m/\(bJ=H'/\∃(y:Nat)(Dk:Option V),bR=[J (.int a),J (.int b),J (.int T),J (.int (B:Int)),J (.int (bY:Nat)),J (.int (y:Nat)),Dk]/\Nat.gcd y bY=Nat.gcd B T.natAbs/\0<y),fun _ _ h=>h,?_⟩
  refine⟨_,I,_,I,_,_,I,I,(by omega),_,I,_,I,y%m,Nat.mod_lt _ hm,I,m,J (.int ((y%m:Nat):Int)),?_,?_,hm⟩
  ·dsimp only
   rw[<-Int.natCast_emod];rfl
  .rw[Nat.gcd_comm,<-Nat.gcd_rec,Nat.gcd_comm];exact bb
 ·have hm:m=0:=by omega
  subst hm
  rw[Nat.gcd_zero_right]at bb
  have akd:y<=B:=by rw[bb];exact Nat.gcd_le_left _ (by omega)
  have ajt:(y:Int)∣T:=by rw[bb];exact Int.ofNat_dvd_left.mpr (Nat.gcd_dvd_right _ _)
  have ZW:(y:Int)∣(B:Int):=by rw[bb];exact Int.natCast_dvd_natCast.mpr (Nat.gcd_dvd_left _ _)
  have rk:cO.Int.intBits (y:Int)<=9000:=by
   rw[vv]
   have ajG:(10:Nat)^38<2^200:=by decide+kernel
   exact dj (jI (show y<2^200 by omega)) (by decide)
  refine⟨_,I,_,I,_,_,I,I,⟨by omega,.inl rk⟩,_,rfl,_,rfl,_,_,rfl,rfl,⟨by omega,.inl rk⟩,lz,fun t bo=>?_⟩
  have jo:=ie.trans (Ext.tup (xs:=[V.int (T/(y:Int)),.int ((B:Int)/(y:Int))]) bo)
  refine⟨_,jo.sub,q _ _ t _ jo (ie.s.free bo) aG (fu ⟨?_,?_,?_,?_⟩) (fun z=>?_)⟩
  .exact Int.ediv_pos_of_pos_of_dvd (by omega) (by omega) ZW
  ·have:Int.gcd T (B:Int)=y:=by rw[bb,Nat.gcd_comm];rfl
   rw[<-this]
   exact Int.gcd_ediv_gcd_ediv_gcd (by rw[this];exact bV)
  ·have:=Int.natAbs_ediv_le_natAbs T (y:Int)
   omega
  ·have:=Int.ediv_le_self (a:=(B:Int)) (y:Int) (by omega)
   omega
  ·have al:=ND z.1
   have aw:=Np z.2
   have bq:y=1:=by omega
   rw[al,aw,bq];exact⟨I,I⟩
theorem adr{b:Bool}(al:b=au->A)(aw:b=aA->B):if b=au then A else B:=by
 cases b
 .exact dx (aw I)
 .exact eC (al I)
theorem Ud{w a b:ah}(al:w≠a)(aw:w≠b):wc (.str w) [.str a,.str b]=aA:=by
 have aU:mF (.str a) (.str w)=aA:=by simp[mF,d1 al]
 have ba:mF (.str b) (.str w)=aA:=by simp[mF,d1 aw]
 unfold wc
 rw[List.any_cons,List.any_cons,aU,ba];rfl
theorem BE:(∀k:Fin 3,pH k≠ah.ofString "truth"/\pH k≠ah.ofString "nothing")/\(∀k:Fin 2,uq k≠ah.ofString "truth"/\uq k≠ah.ofString "nothing")/\(rT≠ah.ofString "truth"/\rT≠ah.ofString "nothing")/\uk≠ah.ofString "truth"/\uk≠ah.ofString "nothing":=by decide+kernel
theorem TB:∀f:bN,∃w r,gA f=.tup (.str w::r)/\(r=[]/\dI f=1\/r≠[]/\w≠ah.ofString "truth"/\w≠ah.ofString "nothing")
 |.bare k=>⟨_,_,by rw[gA],.inl ⟨rfl,by rw[dI]⟩⟩
 |.sp a b=>⟨_,_,by rw[gA],.inr ⟨p4 _ _,BE.2.2.1⟩⟩
 |.le s=>⟨_,_,by rw[gA],.inr ⟨p4 _ _,BE.2.2.2⟩⟩
 |.one k f=>⟨_,_,by rw[gA],.inr ⟨p4 _ _,BE.1 k⟩⟩
 |.two k ns fs=>⟨_,_,by rw[gA],.inr ⟨p4 _ _,BE.2.1 k⟩⟩
theorem FQ{n:Int}(h:ib n):(ha n).length<=270:=by
 obtain⟨al,aw⟩:=h
 have key:∀m:Nat,m+1<2^255->(cnt m).length<=269:=fun m hm=>by
  have:=xo hm
  have:=jI hm
  omega
 unfold ha
 split
 ·rw[eA,cq]
  have:=key (-1-n).toNat (by omega)
  omega
 ·rw[eA]
  have:=key n.toNat (by omega)
  omega
theorem LO:∀(s:List Int),(∀x∈s,hU (x-1))->(more s).length<=271*s.length+1
 |[],_=>by rw[more];exact cE _
 |b::r,h=>by
  obtain⟨al,aw⟩:=h b (eI ..)
  have hm:(b-1).toNat+1<2^255:=by omega
  have a1:=xo hm
  have a2:=jI hm
  have:=LO r fun x ay=>h x (dP _ ay)
  rw[more,eA,cq,ee,eA]
  omega
theorem Yv{d:D}(h:fh d=au):(dv d).length<=100000:=by
 obtain⟨p,q,rfl,al,aw,bq,b4,eb,ij⟩:=xn h
 show(j8 (e7 p q)).length<=_
 rw[ng al]at b4 eb ij ⊢
 rw[j8,ee]
 have a1:=FQ (eb _ (eI ..))
 have a2:=LO _ ij
 have a3:((p/q::e7 q (p%q)).drop 1).length=(e7 q (p%q)).length:=rfl
 rw[eA]at b4
 rw[a3]at a2
 have a4:(more ((p/q::e7 q (p%q)).drop 1)).length=(more (e7 q (p%q))).length:=rfl
 omega
theorem Yu:(dv (.tup [.int 0,.int 1])).length<=300:=by
 show(j8 (e7 0 1)).length<=_
 rw[ng (by decide)]
 show(j8 (0::e7 1 0)).length<=_
 rw[q1];decide+kernel
theorem Tr{s t:ah}(h:s.length<=60):(Ov s (.str t)).length<=7*t.length+1:=by
 have aj:aF (s.length-1)<=6:=jI (w:=6) (by omega)
 have key:∀l:List Nat,((l.map fun c=>au::dW (s.cps.toList.idxOf c) (aF (s.length-1))).flatten).length<=7*l.length:=by
  intro l
  induction l with
  |nil=>exact cE _
  |cons c l bQ =>
   rw[gF,lx,ee,eA,iM,eA]
   omega
 show(_++[aA]).length<=_
 rw[ee]
 have:=key t.cps.toList
 rw[i3]at this
 exact Nat.succ_le_succ this
theorem Ld{fw:D->List Bool}{f:bN}{d:D}:∀(fs:List bN)(ds:List D),ds.length=fs.length->hH fw (fs++[f]) (ds++[d])=hH fw fs ds++bD fw f d
 |[],[],_=>by
  show hH fw (f::[]) (d::[])=hH fw [] []++_
  rw[hH,hH,hH]
  show bD fw f d++[]=[]++_
  rw[List.append_nil,List.nil_append]
 |[],_::_,h=>by cases h
 |_::_,[],h=>by cases h
 |g::fs,e::ds,h=>by
  have:=Ld fs ds (by simpa using h) (fw:=fw) (f:=f) (d:=d)
  show hH fw (g::(fs++[f])) (e::(ds++[d]))=hH fw (g::fs) (e::ds)++_
  rw[hH,hH]
  show bD fw g e++hH fw (fs++[f]) (ds++[d])=bD fw g e++hH fw fs ds++_
  rw[this,h9]
def mx(m bY L s:Nat):Prop:=bY<=m/\(L<=150000*(m-bY)\/m=0/\L<=300*s)
def xf(m gr:Nat)(c:Int):Prop:=m=gr+1\/m=0/\gr=0/\c=0
theorem mx.leaf{L s:Nat}{c:Int}(hc:xf m gr c)(hs:1<=s)(iQ:L<=150000)(bL:c=0->L<=300):mx m gr L s:=by
 rcases hc with z|⟨du,dy,hI⟩
 .exact⟨by omega,.inl (by omega)⟩
 ·have:=bL hI
  exact⟨by omega,.inr ⟨du,by omega⟩⟩
theorem mx.wrap{bY L zO s aX:Nat}{c:Int}(hc:xf m gr c)(h:mx gr bY L s)(hs:s+1<=aX)(jg:aX<=150)(iQ:zO<=L+300):mx m bY zO aX:=by
 obtain⟨al,aw⟩:=h
 rcases hc with z|⟨du,dy,hI⟩
 .exact⟨by omega,.inl (by omega)⟩
 .exact⟨by omega,.inr ⟨du,by omega⟩⟩
theorem q7(X:Ext H H')(h:kr p H):pl H' p=pl H p:=by
 obtain⟨ns,e,_⟩:=h
 rw[vy e,vy (X.s _ _ e)]
theorem BF{D:ag}(h:D≠p):pl (upd H D o) p=pl H p:=by
 unfold pl
 rw[bt (d1 h)]
theorem px{R:eW}{D:Ends}(ay:ae[i]?=J (J (.ref p)))(cP:kr p H)(h:∀c H1,es p H H1->xf (pl H p) (pl H1 p) c->R D (ae.set j (J (.int c))) H1):mj (wI (I8 ze [] iK (QY (wK i) C8)) (vJ j)) R D ae H:=⟨_,ay,p,rfl,cP,fun c ns qr hc=>h c _ (es.pop cP qr) (by
 rw[vy aG,cq]
 rcases hc with z|⟨du,dy,hI⟩
 .exact .inl z
 .exact .inr ⟨du,by rw[dy];rfl,hI⟩)⟩
theorem Zq{g:gE}{D:ag}(n:Nat)(xs:Nat->V)(Inv:Nat->List V->aq->Prop)(S:St->Prop)(bL:n<=100000)(bg:S fo)
  (yk:∀i H,i<n->en.go i H) (HF:∀H,en.stop n H) (bV:∀i H x H',i<n->en.pI i H x H'->H'=H/\x=xs i) (al:Inv 0 [] (upd H D (.lst [])))
  (bo:∀i,i<n->∀aN bO H1,S bO->Inv i aN H1->H1 D=J (.lst aN)->aN.length=i->∀R:St->V->aq->Prop,(∀bC y bJ,S bC->bJ D=J (.lst aN)->Inv (i+1) (aN++[y]) (upd bJ D (.lst (aN++[y])))->R bC y bJ)->g (xs i) bO H1 fun bC ax=>cL bC ax fun y bJ=>R bC y bJ)
  (aY:∀(aN:List V)(H':aq),aN.length=n->H' D=J (.lst aN)->Inv n aN H'->Q (.ref D) H') :
  mu en g pF cL Q fo H D:=by
 refine⟨fun i m bO ax=>i<=n/\m=n-i/\S bO/\∃aN:List V,aN.length=i/\ax D=J (.lst aN)/\Inv i aN ax,⟨n,UF _,I,bg,[],I,aG,al⟩,?_⟩
 rintro i m bO ax ⟨aJ,rfl,aw,aN,mh,je,cP⟩
 rcases hv i n with z|z
 ·refine .inr ⟨yk i _ z,fun x bJ y=>?_⟩
  obtain⟨rfl,rfl⟩:=bV i _ x bJ z y
  refine bo i z aN bO _ aw cP je mh (fun bC y d5=>∃zs bY,d5 D=J (.lst zs)/\zs.length<bU/\bY<n-i/\(i+1<=n/\bY=n-(i+1)/\S bC/\∃ws:List V,ws.length=i+1/\upd d5 D (.lst (zs++[y])) D=J (.lst ws)/\Inv (i+1) ws (upd d5 D (.lst (zs++[y]))))) fun bC y d5 eN GU GW=>?_
  exact⟨aN,n-(i+1),GU,e3 (show aN.length<100000 by omega) (by decide),by omega,by omega,rfl,eN,aN++[y],by rw[ee,mh];rfl,aG,GW⟩
 ·have e:i=n:=by omega
  subst e
  exact .inl ⟨HF _,aY aN ax mh je cP⟩
theorem km.grow(h:km X H)(g:es p H H'):km X H':=fun x ay=>by
 by_cases z:x=p
 ·subst z
  obtain⟨ns,e,_⟩:=g.l
  exact⟨_,e⟩
 ·obtain⟨l,e⟩:=h x ay
  exact⟨l,g.k _ _ z e⟩
theorem Lu{bw:D->Bool}{f:bN}{d:D}(h:b2 bw f d=au):∀(fs:List bN)(ds:List D),fy bw fs ds=au->fy bw (fs++[f]) (ds++[d])=au
 |[],[],_=>by show fy bw [f] [d]=au;rw[fy,fy];simp[h]
 |[],e::ds,h=>by rw[fy]at h;cases h
 |g::fs,[],h=>by rw[fy]at h;cases h
 |g::fs,e::ds,hs=>by
  rw[fy]at hs
  show fy bw (g::(fs++[f])) (e::(ds++[d]))=au
  rw[fy]
  have hs:(b2 bw g e&&fy bw fs ds)=au:=hs
  show(b2 bw g e&&fy bw (fs++[f]) (ds++[d]))=au
  rw[jD]at hs ⊢
  exact⟨hs.1,Lu h fs ds hs.2⟩
theorem Lx{d:D}{n:Nat}(h:eG d<=n):∀{ds:List D},fi ds<=n->fi (ds++[d])<=n
 |[],_=>by show fi [d]<=n;rw[fi,fi];omega
 |g::fs,hs=>by
  rw[fi]at hs
  show fi (g::(fs++[d]))<=n
  rw[fi]
  have:=Lx h (ds:=fs) (by omega)
  omega
theorem FR:∀{fs:List bN}{i:Nat}{g:bN},fs[i]?=J g->dI g<=kk fs
 |[],i,g,h=>by cases h
 |f::fs,0,g,h=>by cases h;rw[kk];omega
 |f::fs,i+1,g,h=>by have:=FR (fs:=fs) (i:=i) h;rw[kk];omega
inductive QL(d:Nat)(vs:List V)(H:aq)(Q:bG)(E:bT):Prop where
 |mk (p:ag) (uh:V) (f:bN) (X:List ag) (bg:vs=[.ref p,uh]) (al:p∈X) (aw:kr p H) (bq:km X H) (b4:cQ X H (gA f) uh) (eb:gB f) (ij:bo f<=d) (oj:dI f<=150) (pe:∀v iN H',es p H H'->cQ X H' iN v->b2 fh f iN=au->eG iN<=bo f+1->mx (pl H p) (pl H' p) (bD dv f iN).length (dI f)->Q v H'):QL d vs H Q E
def C4(d:Nat):b0:=fun vs H Q E=>QL d vs H Q E
theorem L1{n:Nat}:∀(ds:List D),(∀d,d∈ds->eG d<=n)->fi ds<=n
 |[],_=>by rw[fi];omega
 |d::ds,h=>by
  rw[fi]
  have:=h d (eI ..)
  have:=L1 ds fun e he=>h e (dP _ he)
  omega
theorem SN(t:ah)(c:Nat):(t++(⟨#[c]⟩:ah)).cps.toList=t.cps.toList++[c]:=by rw[vw]
set_option maxHeartbeats 4000000 in
theorem UU(nb:dD mg)(F:dS K mg "_law_value" AN ["_law_pool_here","_law_form_here"] f fd)(iJ:bp P w K mg base 1 "_law_next" ["_law_pool_here"] ze)(se:bp P w K mg base 2 "_law_signed" ["_law_cell"] I1)(uD:bp P w K mg base 1 "_law_fraction" ["_law_one","_law_other"] IK)
  (oX:bp P w K mg base (d+3) "_law_value" ["_law_pool_here","_law_form_here"] (C4 d)):bp P w K mg base (d+3+1) "_law_value" ["_law_pool_here","_law_form_here"] (C4 (d+1)):=by
 refine F.ez nh (fun bl A _ s H vs Q E az h=>?_)
 obtain⟨p,uh,g,X,rfl,eZ,cP,dY,b5,aT,cS,g7,q⟩:=h
 refine Jj _ (aP (bZ 2 nh.bB (cV cX (af 1) aD))
  (aP (cz (b6 dk (af 2) cT) (aQ (bx mv)) cy)
  (aP (bZ 3 nh.bB (bX iJ az (ao (af 0) aB) (hk:=by omega)))
  (aP (cz (b6 dk (af 2) cT) (aQ (bx (gZ dk (aS d2 (af 3) aD) aD))) cy)
  (aP (cz (gi.pt (o4 (b6 dk (af 2) cT) (p8 (b6 kY (cx ep rfl nb.ec ef (ao (af 0) aB)) aD)))) (aQ (bx (bX se az (ao (af 3) aB) (hk:=by omega)))) cy)
  (aP (cz (b6 dk (af 2) cT) (aQ (bx (bX se az (ao (aS d2 (af 3) aD) aB) (hk:=by omega)))) cy)
  (aP (cz (b6 dk (af 2) cT) (aQ (bx (aS ed (cV cX (af 1) aD) (aS d2 (af 3) (aS ed (aS gb (cV cX (af 1) aD) (cV cX (af 1) aD)) aD))))) cy)
  (aP (cz (b6 dk (af 2) cT) (aQ (bx (bX uD az (ao (af 3) (ao (bX iJ az (ao (af 0) aB) (hk:=by omega)) aB)) (hk:=by omega)))) cy)
  (aP (cz (b6 dk (af 2) cT) (Bt (bZ 4 nh.bB (cV cX (eJ (ao (aS d2 (af 3) aD) (ao aD aB))) (vn Ba rfl nb.tC sR (ao (i7 (gZ dk (aS d2 (af 3) aD) aD) (i7 (gZ ke (cx ep rfl nb.ec ef (ao (cV cX (af 1) aD) aB)) aD) (ky (gZ kY (cx ep rfl nb.ec ef (ao (af 0) aB)) aD)))) aB))))
   (aP (bZ 5 nh.bB cT)
   (aP (ll h5.never rfl (ob rfl nb.lP (ao (af 4) aB)) (eo (i:=6) nh.bB rfl (by first|exact Or.inl I|exact Or.inr I))
    (aP (bZ 5 nh.bB (aS ed (af 5) (cV cX (cV cX (af 1) aD) (aS d2 (aS hx (af 3) aD) (cx ep rfl nb.ec ef (ao (cV cX (af 1) aD) aB))))))
    (aQ (bZ 3 nh.bB (aS hx (af 3) (cx ep rfl nb.ec ef (ao (cV cX (af 1) aD) aB)))))))
   (aQ (bx (af 5)))))) cy)
  (aP (cz (gi.pt (o4 (b6 dk (af 2) cT) (p8 (b6 dk (aS d2 (af 3) aD) aD)))) (aQ (bx (js aB))) cy)
  (aP (cz (b6 dk (af 2) cT) (aQ (bx (js (ao (bX oX az (ao (af 0) (ao (cV cX (af 1) aD) aB)) (hk:=by omega)) aB)))) cy)
  (aP (cz (b6 dk (af 2) cT) (Bt (bZ 4 nh.bB (aS d2 (af 3) (cV cX (eJ (ao aD (ao aD aB))) (vn Ba rfl nb.tC sR (ao (gZ kY (cx ep rfl nb.ec ef (ao (af 0) aB)) aD) aB)))))
   (Bt (cz (xA Fs (cV cX (cV cX (af 1) aD) aD) (eJ (ao cT (ao cT aB))) (by with_unfolding_all rfl)) (aQ (bZ 4 nh.bB (aS d2 (aS hx (af 3) aD) aD))) cy)
   (aQ (bx (hZ ["_law_k"] [(0,"_law_pool_here"),(1,"_law_form_here")] rfl (by decide+kernel) ⟨rfl,.inl rfl,rfl,.inl rfl,trivial⟩ (ob rfl nb.lP (ao (af 4) aB)) (fun _ _ _ _ _=>(eo (i:=0) (show(["_law_k","_law_pool_here","_law_form_here"]:List ah).Nodup by decide+kernel))) (fun _ _ _ _ _=>hN) (fun _ _ _ _ _=>(bX oX az (ao (af 1) (ao (cV cX (af 2) aD) aB)) (hk:=by omega)))))))) cy)
  (aP (cz (b6 dk (af 2) cT) (aQ (bx (vn Kw rfl nb.rR q2 (ao (hZ ["_law_name","_law_inner"] [(0,"_law_pool_here")] rfl (by decide+kernel) ⟨rfl,.inl rfl,trivial⟩ (iT (cV cX (af 1) aD)) (fun _ _ _ _ _=>(qb rfl (j0 (eo (i:=0) (show(["_law_name","_law_inner","_law_pool_here"]:List ah).Nodup by decide+kernel)) (j0 (eo (i:=1) (show(["_law_name","_law_inner","_law_pool_here"]:List ah).Nodup by decide+kernel)) p9)))) (fun _ _ _ _ _=>hN) (fun _ _ _ _ _=>(bX oX az (ao (af 2) (ao (af 1) aB)) (hk:=by omega)))) aB)))) cy)
  (aP (cz (b6 dk (af 2) cT) (aP (TS (cV cX (cV cX (af 1) aD) (aS d2 (af 3) (cx ep rfl nb.ec ef (ao (cV cX (af 1) aD) aB)))) (qb rfl (j0 (eo (i:=7) nh.bB rfl (by first|exact Or.inl I|exact Or.inr I)) (j0 (eo (i:=8) nh.bB rfl (by first|exact Or.inl I|exact Or.inr I)) p9))))
   (aQ (bx (js (ao (af 7) (ao (bX oX az (ao (af 0) (ao (af 8) aB)) (hk:=by omega)) aB)))))) cy)
  (aQ (bx (bX oX az (ao (af 0) (ao (cV cX (af 1) aD) aB)) (hk:=by omega)))))))))))))))))) fun G fo hQ go=>?_
 try dsimp only[cG,cH,cI,cJ]at go
 have a0:∀(x:V)(r:List V),e5 (x::r) 0=J x:=fun x r=>dz (j:=0) rfl
 have a1:∀(x y:V)(r:List V),e5 (x::y::r) 1=J y:=fun x y r=>dz (j:=1) rfl
 have ma:∀{T:ag},T∉X->T≠p:=fun h z=>h (by rw[z];exact eZ)
 cases g with
 | bare k =>
  rw[gA]at b5
  rw[bo]at q
  obtain⟨T,_,rfl,jf,e,⟨_,_,rfl,⟨rfl,_⟩,rfl⟩,_⟩:=b5
  rcases xX k with rfl|rfl|rfl|rfl
  ·skip
   subst hQ
   refine go (k6 I e ?_)
   refine lC I fun N=>⟨_,(es.refl cP).sub,q _ .bc _ (es.refl cP) I (by rw[b2];rfl) (by rw[eG];omega) (by rw[bD];exact⟨cE _,.inl (UF _)⟩)⟩
  ·skip
   subst hQ
   refine go (k6 I e ?_)
   refine ia I (by decide+kernel) ?_
   refine px I cP fun cl H1 cp hc=>?_
   refine lC I fun N=>⟨_,I,_,_,I,I,(by show(0:Int)<2;decide),I,_,cp.sub,q _ (.aE _) _ cp I (by rw[b2];rfl) (by rw[eG];omega) (by rw[bD,dI];exact mx.leaf hc (cE _) (show 1<=150000 by decide) (fun _=>show 1<=300 by decide))⟩
  ·skip
   subst hQ
   refine go (k6 I e ?_)
   refine ia I (by decide+kernel) ?_
   refine px I cP fun cl H1 cp hc=>?_
   refine ia I (by decide+kernel) ?_
   obtain⟨gr,mP,N3⟩:=cp.l
   have cY:∀n:Int,ib n->hX H H1 (Q (.int n)):=fun n aZ=>⟨_,cp.sub,q _ (.int n) _ cp rfl (by rw[b2];exact fu aZ) (by rw[eG];omega) (by rw[bD,dI];exact mx.leaf hc (cE _) (dj (FQ aZ) (by decide)) (fun _=>dj (FQ aZ) (by decide)))⟩
   refine⟨_,I,I,_,I,hC I ⟨_,I,_,_,I,.inl ⟨_,bF mP,I⟩,_,_,I,I,_,I,fm (fun dA=>⟨_,I,cl,I,cY⟩) (fun dA=>?_)⟩⟩
   exact lC I fun N=>⟨_,I,_,_,I,I,(by show(0:Int)<1000;decide),_,I,cY⟩
  ·skip
   subst hQ
   refine go (k6 I e ?_)
   refine ia I (by decide+kernel) ?_
   refine px I cP fun cl H1 cp hc=>?_
   iterate 4 (first|refine ia I (by decide+kernel) ?_|refine ud I (by decide+kernel) ?_)
   refine lC I fun N=>⟨_,I,_,I,p,I,cp.l,fun g0 dZ me Ce=>⟨cl,g0,I,fun pp agX t H' mB mf acV aH bL=>?_⟩⟩
   have fx:=(cp.trans (es.pop cp.l me)).ext mB
   have acW:t∉X:=(dY.grow (cp.trans (es.pop cp.l me))).no mf
   refine⟨_,fx.sub,q _ (.tup [.int pp,.int agX]) _ fx ⟨t,_,I,acW,acV,⟨_,_,I,I,_,_,I,I,I⟩,by simp⟩ (by rw[b2];exact aH) (by rw[eG,fi,fi,fi,eG,eG];omega) ?_⟩
   rw[vy (mB.s p (.lst (dZ.map V.int)) aG),cq,bD,dI]
   have iQ:=Yv aH
   have aw:dZ.length<=pl H1 p:=by
    rcases Ce with y|⟨_,iX,_⟩
    .omega
    .rw[iX];exact UF _
   rcases hc with z|⟨du,dy,hI⟩
   .exact⟨by omega,.inl (dj iQ (by omega))⟩
   ·rcases Ce with y|⟨kH,iX,nS⟩
    .omega
    ·obtain⟨rfl,rfl⟩:=bL ⟨hI,nS⟩
     exact⟨by rw[iX];exact UF _,.inr ⟨du,Yu⟩⟩
 |sp lo aJ =>
  rw[gA]at b5
  rw[gB]at aT
  rw[bo]at q
  obtain⟨T,_,rfl,jf,e,⟨_,_,rfl,⟨rfl,_⟩,_,_,rfl,rfl,_,_,rfl,rfl,rfl⟩,_⟩:=b5
  subst hQ
  refine go (k6 I e ?_)
  refine ia I (by decide+kernel) ?_
  refine px I cP fun cl H1 cp hc=>?_
  iterate 3 (first|refine ia I (by decide+kernel) ?_|refine ud I (by decide+kernel) ?_)
  have aU:=cp.k _ _ (ma jf) e
  have a2:e5 [V.str rT,V.int lo,V.int aJ] 2=J (.int aJ):=dz (j:=2) rfl
  have m0:=hu cl (show aJ-lo+1≠0 by omega)
  have gr:=hL cl (show 0<aJ-lo+1 by omega)
  refine lC I fun N=>⟨_,I,.inl (.inr ⟨_,_,_,_,I,I,dK aU,a1 _ _ _,_,I,_,I,.inl (.inr ⟨_,_,_,_,I,I,dK aU,a2,_,I,.inl (.inr ⟨_,_,_,_,I,I,dK aU,a1 _ _ _,_,_,I,I,.inl ⟨_,_,I,I,_,_,I,I,(by omega),.inl ⟨_,_,I,I,?_⟩⟩⟩)⟩)⟩)⟩
  refine⟨_,cp.sub,q _ (.int _) _ cp I (by rw[b2];exact fu ⟨by omega,by omega⟩) (by rw[eG];omega) ?_⟩
  have aj:aF (aJ-lo).toNat<=190:=jI (by omega)
  rw[bD,dI]
  have iQ:(dW (lo+cl%(aJ-lo+1)-lo).toNat (aF (aJ-lo).toNat)).length<=190:=by rw[iM];exact aj
  exact mx.leaf hc (cE _) (dj iQ (by decide)) (fun _=>dj iQ (by decide))
 | le cA =>
  have HN:=b5
  rw[gA]at b5
  rw[bo]at q
  have Hc:=aT
  rw[gB]at Hc
  obtain⟨T,_,rfl,jf,e,⟨_,_,rfl,⟨rfl,_⟩,_,_,rfl,⟨rfl,rp⟩,rfl⟩,_⟩:=b5
  have acM:0<cA.length:=by
   have:=Hc.1
   unfold oi at this
   simp only[jD,n5]at this
   omega
  subst hQ
  refine go (k6 I e ?_)
  refine ia I (by decide+kernel) ?_
  refine px I cP fun cl H1 cp hc=>?_
  iterate 5 (first|refine ia I (by decide+kernel) ?_|refine ud I (by decide+kernel) ?_)
  have aU:=cp.k _ _ (ma jf) e
  have Cx:cA.length<=bU:=fC (by omega)
  obtain⟨gr,mP,N3⟩:=cp.l
  refine lC I fun N=>⟨fun bR H'=>Ext H1 H'/\∃n:Nat,n<=200/\(cl=0->n=0)/\bR=[J (.ref p),J (.ref T),J (.str uk),J (.int cl),J (.int ((n:Nat):Int)),av,av,av,av],?_,?_⟩
  ·obtain⟨qy,aj4,Go⟩:=jH cl 7 (by decide)
   have Go:cl%7=((qy:Nat):Int):=Go
   refine⟨_,I,_,_,I,I,(by show(0:Int)<7;decide),lz,fun g1 yj=>?_⟩
   have ic:=Ext.lst (xs:=[V.int (cl%7),.int 200]) yj
   have cY:∀b:Bool,(b=au->cl%41=40)->∃v:Nat,(v<=200/\(cl=0->v=0))/\e5 [V.int (cl%7),.int 200] (if b=au then 1 else 0)=J (.int ((v:Nat):Int)):=fun b aj=>by
    cases b
    .exact⟨qy,⟨by omega,by rintro rfl;omega⟩,by rw[Go];exact dz (j:=0) I⟩
    .exact⟨200,⟨by omega,by rintro rfl;exact absurd (aj I) (by decide)⟩,dz (j:=1) rfl⟩
   refine⟨_,I,_,_,I,I,(by show(0:Int)<41;decide),I,_,I,fm (fun g0=>?_) (fun g0=>?_)⟩
   ·refine⟨_,I,.inl (.inr ⟨_,_,_,_,I,I,dK (ic.s _ _ aU),a1 _ _ _,_,_,I,⟨Cx,I⟩,.inl ⟨_,_,I,I,_,I,fm (fun hj=>?_) (fun hj=>?_)⟩⟩)⟩
    ·refine⟨_,I,_,_,I,.inl ⟨_,bF (ic.s _ _ mP),I⟩,_,_,I,I,?_⟩
     obtain⟨v,kC,lK⟩:=cY (decide (70<(((gr.map V.int).length:Nat):Int))) (fun _=>V.int.inj g0)
     exact .inl (.inr ⟨_,I,.inl (.inl ⟨_,_,_,_,I,I,bF aG,lK,ic,v,kC.1,kC.2,I⟩)⟩)
    ·obtain⟨v,kC,lK⟩:=cY aA (fun z=>nomatch z)
     exact .inl (.inr ⟨_,I,.inl (.inl ⟨_,_,_,_,I,I,bF aG,lK,ic,v,kC.1,kC.2,I⟩)⟩)
   ·obtain⟨v,kC,lK⟩:=cY aA (fun z=>nomatch z)
    exact .inl (.inr ⟨_,I,.inl (.inl ⟨_,_,_,_,I,I,bF aG,lK,ic,v,kC.1,kC.2,I⟩)⟩)
  rintro zq fB ⟨gG,n,aZ,qq,rfl⟩
  have hc:xf (pl H p) (pl fB p) cl:=by rw[q7 gG cp.l];exact hc
  have aU:=gG.s _ _ aU
  have cp:=cp.ext gG
  refine⟨_,I,_,I,by omega,by omega,?_⟩
  rw[show(((n:Nat):Int)).toNat=n by omega]
  refine qW (fun i ae ax=>fB=ax/\∃(t:ah)(c:Int)(uu:Option V),ae=[J (.ref p),J (.ref T),J (.str uk),J (.int c),J (.int ((n:Nat):Int)),J (.str t),uu,av,av]/\t.length=i/\mR t cA=au) ⟨I,ah.ofString "",cl,av,I,by decide+kernel,rfl⟩ ?_ ?_
  ·rintro i ae ax aJ ⟨rfl,t,c,uu,rfl,Cr,Ck⟩
   obtain⟨k,hk,j3⟩:=jH (c/287) cA.length acM
   have hk':k<cA.cps.toList.length:=by rw[i3];exact hk
   have iy:e5 cA.cps.toList (c/287%((cA.length:Nat):Int))=J cA.cps.toList[k]:=by rw[j3];exact dz (c4 hk')
   refine⟨_,I,_,I,.inl (.inr ⟨_,_,_,_,I,I,dK aU,a1 _ _ _,_,I,_,_,I,I,⟨by decide,by decide⟩,_,rfl,.inl (.inr ⟨_,_,_,_,rfl,rfl,dK aU,a1 _ _ _,_,_,rfl,⟨Cx,rfl⟩,_,_,rfl,rfl,(by omega),.inr ⟨_,_,_,rfl,rfl,Cx,iy,.inr ⟨_,_,rfl,rfl,?_,?_⟩⟩⟩)⟩)⟩
   ·show t.length+1<=bU
    exact fC (by omega)
   refine⟨_,I,_,I,.inl (.inr ⟨_,_,_,_,I,I,dK aU,a1 _ _ _,_,_,I,⟨Cx,I⟩,_,_,I,I,⟨by omega,by omega⟩,rfl,_,_,_,rfl,?_,?_⟩)⟩
   .rw[oZ,Cr];rfl
   ·unfold mR at Ck ⊢
    rw[SN,List.all_append,Ck]
    simp
  ·rintro ae ax ⟨rfl,t,c,uu,rfl,Cr,Ck⟩
   refine⟨_,I,_,cp.sub,q _ (.str t) _ cp ⟨I,by omega⟩ (by rw[b2];exact nc.mpr ⟨fu (by omega),Ck⟩) (by rw[eG];omega) ?_⟩
   have iQ:=Tr (t:=t) Hc.2
   rw[bD,dI]
   exact mx.leaf hc (cE _) (by omega) (fun z=>by have:=qq z;omega)
 | one k g =>
  have tx:dI g+1<=150:=by rw[dI]at g7;exact g7
  have HN:=b5
  have aj6:=aT
  rw[gA]at b5
  rw[gB]at aT
  rw[bo]at cS
  rw[bo]at q
  obtain⟨T,_,rfl,jf,e,⟨_,_,rfl,⟨rfl,_⟩,jA,_,rfl,hd,rfl⟩,_⟩:=b5
  rcases vI k with rfl|rfl|rfl
  ·skip
   subst hQ
   refine go (k6 I e ?_)
   refine ia I (by decide+kernel) ?_
   refine px I cP fun cl H1 cp hc=>?_
   iterate 6 (first|refine ia I (by decide+kernel) ?_|refine ud I (by decide+kernel) ?_)
   have aU:=cp.k _ _ (ma jf) e
   refine⟨_,I,I,_,I,hC I ⟨_,I,_,_,I,I,(by show(0:Int)<2;decide),I,_,I,fm (fun dA=>?_) (fun dA=>?_)⟩⟩
   ·refine⟨UF _,fun t mf=>?_⟩
    have fx:=cp.ext (Ext.tup (xs:=[]) mf)
    exact⟨_,fx.sub,q _ (.tup []) _ fx ⟨t,[],I,(dY.grow cp).no mf,aG,I,by simp⟩ (by rw[b2];rfl) (by rw[eG,fi];omega) (by rw[q7 (Ext.tup mf) cp.l,bD];exact mx.leaf hc (Mu _) (show 1<=150000 by decide) (fun _=>show 1<=300 by decide))⟩
   refine lC I fun N=>⟨_,I,_,I,.inl (.inr ⟨_,_,_,_,I,I,dK aU,a1 _ _ _,p,jA,g,X,I,eZ,cp.l,dY.grow cp,cQ.grow eZ cp hd,aT,by omega,by omega,fun v iN H' G ql hB mL oz=>⟨mw,fun t mf=>?_⟩⟩)⟩
   have qR:=Ext.tup (xs:=[v]) mf
   have fx:=(cp.trans G).ext qR
   refine⟨_,fx.sub,q _ (.tup [iN]) _ fx ⟨t,_,I,(dY.grow (cp.trans G)).no mf,aG,⟨_,_,I,ql.same qR.s,I⟩,by simp⟩ ?_ (by rw[eG,fi,fi];omega) ?_⟩
   .rw[b2];exact hB
   ·rw[q7 qR (cp.trans G).l,bD,dI]
    exact oz.wrap hc (cE _) (by omega) (show(bD dv g iN).length+1<=_ by omega)
  ·skip
   subst hQ
   refine go (k6 I e ?_)
   refine ia I (by decide+kernel) ?_
   refine px I cP fun cl H1 cp hc=>?_
   iterate 8 (first|refine ia I (by decide+kernel) ?_|refine ud I (by decide+kernel) ?_)
   have aU:=cp.k _ _ (ma jf) e
   obtain⟨gr,mP,N3⟩:=cp.l
   obtain⟨iu,e1,l5,j5⟩:=TB g
   have jw:=cQ.grow eZ cp hd
   rw[l5]at jw
   obtain⟨dT,ws,rfl,vT,e',⟨_,aku,rfl,⟨rfl,ac0⟩,dH⟩,Ct⟩:=jw
   refine lC I fun N=>⟨fun bR H'=>Ext H1 H'/\∃n:Nat,n<=3/\(cl=0->n=0)/\bR=[J (.ref p),J (.ref T),J (.str (pH 1)),J (.int cl),J (.int ((n:Nat):Int)),av,av,av,av],?_,?_⟩
   ·refine⟨_,I,lz,fun g2 v3=>?_⟩
    have gj:=Ext.lst (xs:=[V.int 2,.int 4]) v3
    obtain⟨v,⟨HN,kC⟩,lK⟩:∃v:Nat,(0<v/\v<=4)/\e5 [V.int 2,.int 4] (if decide (50<(((gr.map V.int).length:Nat):Int))=au then 1 else 0)=J (.int ((v:Nat):Int)):=by
     cases decide (50<(((gr.map V.int).length:Nat):Int))
     .exact⟨2,by omega,dz (j:=0) rfl⟩
     .exact⟨4,by omega,dz (j:=1) rfl⟩
    obtain⟨n,aZ,b1⟩:=jH cl v HN
    refine⟨_,I,_,_,I,.inl ⟨_,bF (gj.s _ _ mP),I⟩,_,_,I,I,.inl (.inr ⟨_,I,.inl (.inl ⟨_,_,_,_,I,I,bF aG,lK,_,_,I,I,(by omega),gj,n,by omega,(fun z=>by rw[z,Int.zero_emod]at b1;omega),?_⟩)⟩)⟩
    dsimp only
    rw[b1];rfl
   rintro akx gv ⟨jo,yK,qq,ac5,rfl⟩
   refine⟨fun bR H'=>Ext H1 H'/\∃n:Nat,n<=60/\(n<=3\/dI g=1)/\(cl=0->n=0)/\bR=[J (.ref p),J (.ref T),J (.str (pH 1)),J (.int cl),J (.int ((n:Nat):Int)),av,av,av,av],?_,?_⟩
   ·refine⟨_,I,.inl (.inr ⟨_,_,_,_,I,I,dK (jo.s _ _ aU),a1 _ _ _,.inl (.inr ⟨_,_,_,_,I,I,dK (jo.s _ _ e'),a0 _ _,lz,fun g1 yj=>?_⟩)⟩)⟩
    have jZ:=jo.trans (Ext.lst (xs:=[V.str (ah.ofString "truth"),.str (ah.ofString "nothing")]) yj)
    refine⟨_,_,I,.inl (bF aG),I,I,_,I,adr (fun ZQ=>?_) (fun _=>⟨jZ,yK,by omega,.inl qq,ac5,rfl⟩)⟩
    have ahv:dI g=1:=by
     rcases j5 with⟨_,z⟩|⟨_,du,dy⟩
     .exact z
     ·exfalso
      exact absurd (ZQ.symm.trans (Ud du dy)) (by decide)
    obtain⟨n,aZ,b1⟩:=jH (cl/4) 61 (by decide)
    have b1:cl/4%61=((n:Nat):Int):=b1
    refine⟨_,I,_,_,I,I,⟨by decide,by decide⟩,_,_,rfl,rfl,(by show(0:Int)<61;decide),jZ,n,by omega,.inr ahv,(fun z=>by subst z;omega),?_⟩
    dsimp only
    rw[b1];rfl
   rintro zq fB ⟨gG,n,aZ,acq,qq,rfl⟩
   have hc:xf (pl H p) (pl fB p) cl:=by rw[q7 gG cp.l];exact hc
   have aU:=gG.s _ _ aU
   have cp:=cp.ext gG
   refine⟨_,I,_,I,by omega,by omega,fun dC e9=>?_⟩
   rw[show(((n:Nat):Int)).toNat=n by omega]
   have rj:=dY.grow cp
   have B8:dC∉X:=rj.no e9
   have qk:dC≠p:=fun z=>B8 (by rw[z];exact eZ)
   have iK:=Ext.lst (xs:=[]) e9
   have om:∀{ax:aq},es p fB ax->ax T=J (.tup [.str (pH 1),.ref dT]):=fun G=>G.k _ _ (ma jf) aU
   refine Zq n (fun i =>.int (0+((i:Nat):Int))) (fun i aN ax=>es p fB ax/\∃ds,ds.length=i/\cm (dC::X) ax ds aN/\(∀x,x∈ds->b2 fh g x=au/\eG x<=bo g+1)/\pl ax p<=pl fB p/\((ds.map fun d=>au::bD dv g d).flatten).length<=150000*(pl fB p-pl ax p)+i*(1+300*dI g)) (fun ae=>∃z,ae=[z,J (.ref p),J (.ref T)]) (by omega) ⟨_,I⟩ (fun i H aJ=>aJ) (fun H=>cE _) (fun i H x H' aJ h=>⟨h.1,h.2⟩) ⟨(es.refl cp.l).ext iK,[],I,I,(fun x ay=>nomatch ay),by rw[q7 iK cp.l];exact cE _,UF _⟩ ?_ ?_
   ·rintro i aJ aN bO ax ⟨z,rfl⟩ ⟨fx,ds,mM,et,gQ,v8,x5⟩ mH mh R b8
    have tk:km (dC::X) ax:=(rj.grow fx).add mH
    refine⟨_,I,_,I,.inl (.inr ⟨_,_,_,_,I,I,dK (om fx),a1 _ _ _,p,.ref dT,g,dC::X,I,dP _ eZ,fx.l,tk,cQ.grow (dP _ eZ) fx (cQ.add e9 _ (cQ.grow eZ cp hd)),aT,by omega,by omega,fun v iN bJ hg ql hB mL oz=>?_⟩)⟩
    have nv:bJ dC=J (.lst aN):=hg.k _ _ qk mH
    have eK:∀b u,b∉dC::X->bJ b=J u->upd bJ dC (.lst (aN++[v])) b=J u:=fun b u nb e=>by rw[bt (fun z=>nb (by rw[z];exact eI ..))];exact e
    have k3:∀b u,b∉dC::X->ax b=J u->bJ b=J u:=fun b u nb e=>hg.k b u (fun z=>nb (by rw[z];exact dP _ eZ)) e
    refine b8 _ _ _ ⟨_,I⟩ nv ⟨(fx.trans hg).set e9 nv qk,ds++[iN],by rw[ee,mM];rfl,cm.snoc (cQ.keep eK _ ql) _ (cm.keep eK _ (cm.keep k3 _ et)),fun x ay=>?_,?_,?_⟩
    ·rcases List.mem_append.mp ay with z|z
     .exact gQ x z
     .rw[ft.mp z];exact⟨hB,mL⟩
    .rw[BF qk];exact dj oz.1 v8
    ·rw[BF qk,gf,List.flatten_append,ee]
     have aU:(List.map (fun d=>au::bD dv g d) [iN]).flatten.length=(bD dv g iN).length+1:=by simp
     obtain⟨hz,e6⟩:=oz
     have ba:(i+1)*(1+300*dI g)=i*(1+300*dI g)+(1+300*dI g):=Nat.succ_mul ..
     rw[aU,ba]
     generalize i*(1+300*dI g)=ake at x5 ⊢
     omega
   ·rintro aN H' mh ix ⟨fx,ds,mM,et,gQ,v8,x5⟩
    have hg:=cp.trans fx
    refine⟨_,hg.sub,q _ (.lst ds) _ hg ⟨dC,aN,I,B8,ix,cm.weak (fun x ay=>dP _ ay) _ et,by omega⟩ ?_ ?_ ?_⟩
    ·rw[b2]
     exact nc.mpr ⟨fu (by omega),i5.mpr fun x ay=>(gQ x ay).1⟩
    ·have:=L1 ds fun x ay=>(gQ x ay).2
     rw[eG];omega
    ·rw[dI]at g7
     have aj5:n*(1+300*dI g)<=140000:=by
      rcases acq with z|z
      .exact dj (Nat.mul_le_mul z (show 1+300*dI g<=45001 by omega)) (by decide)
      .rw[z];exact dj (Nat.mul_le_mul aZ (cE _)) (by decide)
     rw[bD]
     have s6:(OS 1 (bD dv g) (.lst ds)).length=((ds.map fun d=>au::bD dv g d).flatten).length+1:=by
      show(_++[aA]).length=_
      rw[ee];rfl
     rw[s6]
     rcases hc with z|⟨du,dy,hI⟩
     .exact⟨by omega,.inl (by omega)⟩
     ·have abT:ds=[]:=List.length_eq_zero_iff.mp (by rw[mM];exact qq hI)
      have:=Mu (.one 1 g)
      exact⟨by omega,.inr ⟨du,by rw[abT];show 0+1<=_;omega⟩⟩
  ·skip
   subst hQ
   refine go (k6 I e ?_)
   refine ia I (by decide+kernel) ?_
   refine px I cP fun cl H1 cp hc=>?_
   iterate 11 (first|refine ia I (by decide+kernel) ?_|refine ud I (by decide+kernel) ?_)
   have aU:=cp.k _ _ (ma jf) e
   refine⟨_,I,_,I,.inl (.inr ⟨_,_,_,_,I,I,dK aU,a1 _ _ _,p,jA,g,X,I,eZ,cp.l,dY.grow cp,cQ.grow eZ cp hd,aT,by omega,by omega,fun v iN H' G ql hB mL oz=>?_⟩)⟩
   exact⟨_,(cp.trans G).sub,q _ iN _ (cp.trans G) ql (by rw[b2];exact hB) (by omega) (by rw[bD,dI];exact oz.wrap hc (cE _) (by rw[dI]at g7;exact g7) (by show((bD dv g iN).map (!·)).length<=_;rw[cq];omega))⟩
 | two k ns fs =>
  have tx:∀{i:Nat}{g:bN},fs[i]?=J g->dI g<=150:=fun h=>by
   have:=FR h
   rw[dI]at g7
   omega
  rw[gA]at b5
  rw[gB]at aT
  rw[bo]at cS
  rw[bo]at q
  obtain⟨il,cB,Co⟩:=aT
  obtain⟨T,_,rfl,jf,e,⟨_,_,rfl,⟨rfl,_⟩,_,_,rfl,⟨l,tF,rfl,v7,jc,et,acg⟩,rfl⟩,_⟩:=b5
  have kX:tF.length=fs.length:=by rw[dn.len _ (cm.at _ et),xx]
  have tq:0<fs.length/\fs.length<=20:=by
   have h:=il
   unfold l7 at h
   simp only[jD,n5]at h
   omega
  rcases BZ k with rfl|rfl
  ·skip
   subst hQ
   refine go (k6 I e ?_)
   refine ia I (by decide+kernel) ?_
   refine px I cP fun cl H1 cp hc=>?_
   iterate 9 (first|refine ia I (by decide+kernel) ?_|refine ud I (by decide+kernel) ?_)
   have aU:=cp.k _ _ (ma jf) e
   have xV:=cp.k _ _ (ma v7) jc
   have rj:=dY.grow cp
   refine lC I fun N=>?_
   refine .inl ⟨_,I,.inl (.inr ⟨_,_,_,_,I,I,dK aU,a1 _ _ _,l,I,⟨_,bF xV⟩,fun dC e9=>?_⟩)⟩
   have B8:dC∉X:=rj.no e9
   have qk:dC≠p:=fun z=>B8 (by rw[z];exact eZ)
   have iK:=Ext.lst (xs:=[]) e9
   refine A4 (K:=K) (a:=l) (xs:=tF) (fun i aN ax=>es p H1 ax/\∃ds,ds.length=i/\cm (dC::X) ax ds aN/\fy fh (fs.take i) ds=au/\fi ds<=g8 fs+1/\pl ax p<=pl H1 p/\(hH dv (fs.take i) ds).length<=150000*(pl H1 p-pl ax p)+300*kk (fs.take i)) (fun ae=>∃du dy,ae=[du,dy,J (.ref p)]) (by omega) ⟨_,_,I⟩ ?_ ⟨(es.refl cp.l).ext iK,[],I,I,by rw[List.take_zero,fy];rfl,by rw[fi];omega,by rw[q7 iK cp.l];exact cE _,by rw[List.take_zero,hH];exact UF _⟩ ?_ ?_
   ·rintro i aN ax ⟨fx,_⟩
    exact bF (fx.k _ _ (ma v7) xV)
   ·rintro i x ay aN bO ax ⟨du,dy,rfl⟩ ⟨fx,ds,mM,G7,qm,kU,v8,x5⟩ mH mh R b8
    obtain⟨g,nm,dT,jA,bb,nC,rfl,vT,xT,hd⟩:=Bp fs ns cB et ay
    obtain⟨yR,v3⟩:=Bf Co bb
    have tk:km (dC::X) ax:=(rj.grow fx).add mH
    refine⟨_,_,I,dK (fx.k _ _ (ma vT) (cp.k _ _ (ma vT) xT)),I,_,_,I,_,_,I,I,?_⟩
    refine⟨_,I,_,I,p,jA,g,dC::X,I,dP _ eZ,fx.l,tk,cQ.grow (dP _ eZ) fx (cQ.add e9 _ (cQ.grow eZ cp hd)),yR,by omega,tx bb,fun v iN bJ hg ql hB mL oz=>?_⟩
    have nv:bJ dC=J (.lst aN):=hg.k _ _ qk mH
    have eK:∀b u,b∉dC::X->bJ b=J u->upd bJ dC (.lst (aN++[v])) b=J u:=fun b u nb e=>by rw[bt (fun z=>nb (by rw[z];exact eI ..))];exact e
    have k3:∀b u,b∉dC::X->ax b=J u->bJ b=J u:=fun b u nb e=>hg.k b u (fun z=>nb (by rw[z];exact dP _ eZ)) e
    refine b8 _ _ _ ⟨_,_,I⟩ nv ⟨(fx.trans hg).set e9 nv qk,ds++[iN],by rw[ee,mM];rfl,cm.snoc (cQ.keep eK _ ql) _ (cm.keep eK _ (cm.keep k3 _ G7)),?_,Lx (by omega) kU,?_,?_⟩
    ·rw[lu,bb]
     exact Lu hB _ _ qm
    .rw[BF qk];exact dj oz.1 v8
    ·have NS:i<=fs.length:=Nat.le_of_lt (i4.mp bb).1
     rw[BF qk,lu,bb]
     show(hH dv (fs.take i++[g]) (ds++[iN])).length<=150000*_+300*kk (fs.take i++[g])
     rw[Ld _ _ (by rw[jn,mM];omega),FA,ee]
     obtain⟨hz,e6⟩:=oz
     omega
   ·rintro aN H' mh ix ⟨fx,ds,mM,G7,qm,kU,v8,x5⟩
    rw[kX,UV (cE _)]at qm x5
    refine⟨_,_,I,.inl ⟨bF ix,fun t mf=>?_⟩⟩
    have qS:=Ext.tup (xs:=aN) mf
    have hg:=(cp.trans fx).ext qS
    refine⟨_,hg.sub,q _ (.tup ds) _ hg ⟨t,aN,I,(dY.grow (cp.trans fx)).no mf,aG,(cm.weak (fun x ay=>dP _ ay) _ G7).same qS.s,by omega⟩ ?_ ?_ ?_⟩
    .rw[b2,if_pos rfl];exact qm
    .rw[eG];omega
    ·rw[q7 qS (cp.trans fx).l,bD,if_pos rfl,dI]
     rw[dI]at g7
     show mx _ _ (hH dv fs ds).length _
     rcases hc with z|⟨du,dy,hI⟩
     .exact⟨by omega,.inl (by omega)⟩
     .exact⟨by omega,.inr ⟨du,by omega⟩⟩
  ·skip
   subst hQ
   refine go (k6 I e ?_)
   refine ia I (by decide+kernel) ?_
   refine px I cP fun cl H1 cp hc=>?_
   iterate 10 (first|refine ia I (by decide+kernel) ?_|refine ud I (by decide+kernel) ?_)
   have aU:=cp.k _ _ (ma jf) e
   have xV:=cp.k _ _ (ma v7) jc
   refine lC I fun N=>?_
   obtain⟨j,cw,g5⟩:=jH cl tF.length (by omega)
   obtain⟨y,bV⟩:∃y,tF[j]?=J y:=⟨_,c4 cw⟩
   obtain⟨g,nm,dT,jA,bb,nC,rfl,vT,xT,hd⟩:=Bp fs ns cB et bV
   obtain⟨yR,v3⟩:=Bf Co bb
   refine⟨_,I,.inl (.inr ⟨_,_,_,_,I,I,dK aU,a1 _ _ _,_,I,_,I,.inl (.inr ⟨_,_,_,_,I,I,dK aU,a1 _ _ _,_,_,I,.inl ⟨_,bF xV,I⟩,_,_,I,I,(by omega),.inl (.inl ⟨_,_,_,_,I,I,bF xV,(by rw[g5];exact dz bV),?_⟩)⟩)⟩)⟩
   refine⟨_,_,I,dK (cp.k _ _ (ma vT) xT),I,_,_,I,_,_,I,I,?_⟩
   refine⟨_,I,_,I,_,I,p,jA,g,X,I,eZ,cp.l,dY.grow cp,cQ.grow eZ cp hd,yR,by omega,tx bb,fun v iN H' G ql hB mL oz=>⟨lz,fun t mf=>?_⟩⟩
   have qR:=Ext.tup (xs:=[V.str nm,v]) mf
   have fx:=(cp.trans G).ext qR
   have kW:nm.length<=12:=(p5 il).2 nm (hY nC)
   refine⟨_,fx.sub,q _ (.tup [.str nm,iN]) _ fx ⟨t,_,I,(dY.grow (cp.trans G)).no mf,aG,⟨_,_,I,⟨I,by omega⟩,_,_,rfl,ql.same qR.s,rfl⟩,by simp⟩ ?_ (by rw[eG,fi,fi,fi,eG];omega) ?_⟩
   ·rw[b2,if_neg (by decide)]
    show jv fh fs ns nm iN=au
    rw[xw fs ns nm (hY nC) cB,z3 il nC,eL,bb]
    exact hB
   ·rw[q7 qR (cp.trans G).l,bD,if_neg (by decide),dI]
    show mx _ _ (rN dv fs ns 0 (fs.length-1) nm iN).length _
    rw[Be fs ns 0 nm (hY nC) cB,z3 il nC,eL,bb,ee,iM]
    have aj:aF (fs.length-1)<=5:=jI (w:=5) (by omega)
    exact oz.wrap hc (Nat.succ_le_succ (FR bb)) (by rw[dI]at g7;exact g7) (by show _+(bD dv g iN).length<=_;omega)
theorem Kl(nb:dD mg)(F:dS K mg "_law_value" AN ["_law_pool_here","_law_form_here"] f fd)(iJ:bp P w K mg base 1 "_law_next" ["_law_pool_here"] ze)(se:bp P w K mg base 2 "_law_signed" ["_law_cell"] I1)(uD:bp P w K mg base 1 "_law_fraction" ["_law_one","_law_other"] IK):∀d:Nat,bp P w K mg base (d+3) "_law_value" ["_law_pool_here","_law_form_here"] (C4 d)
 |0=>bp.none F fun vs H Q E z=>by obtain⟨_,_,g,_,_,_,_,_,_,_,h,_⟩:=z;have:=xJ g;omega
 |d+1=>UU nb F iJ se uD (Kl nb F iJ se uD d)
inductive Qt(d:Nat)(vs:List V)(H:aq)(Q:bG)(E:bT):Prop where
 |mk (v1 v2:V) (dd:D) (bg:vs=[v1,v2]) (al:d4 H dd v1) (aw:d4 H dd v2) (bq:eG dd<=d) (b4:Q (.aE au) H):Qt d vs H Q E
def C1(d:Nat):b0:=fun vs H Q E=>Qt d vs H Q E
theorem s4:∀(ds:List D){d:D},d∈ds->eG d<=fi ds
 |[],d,h=>nomatch h
 |e::ds,d,h=>by
  rw[fi]
  rcases cR.mp h with rfl|h
  .omega
  .have:=s4 ds h;omega
theorem VN(nb:dD mg)(F:dS K mg "_law_same" AW ["_law_found","_law_due"] f fd)(uG:bp P w K mg base (d+1) "_law_same" ["_law_found","_law_due"] (C1 d)):bp P w K mg base (d+1+1) "_law_same" ["_law_found","_law_due"] (C1 (d+1)):=by
 refine F.ez WU (fun bl A _ s H vs Q E az h=>?_)
 obtain⟨v1,v2,dd,rfl,al,aw,mL,q⟩:=h
 refine Jj _ (aP (cz (b6 xH (af 1) mv) (aQ (bx (gZ xH (af 0) mv))) cy)
  (aP (cz (hy (cx jF rfl nb.gS gP (ao (af 1) (ao (jr (v :=.ty "bool") rfl nb.BH By rfl) aB)))) (aQ (bx (i7 (cx jF rfl nb.gS gP (ao (af 0) (ao (jr (v :=.ty "bool") rfl nb.BH By rfl) aB))) (ky (gZ dk (af 0) (af 1)))))) cy)
  (aP (cz (hy (cx jF rfl nb.gS gP (ao (af 1) (ao (jr (v :=.ty "int") rfl nb.tC sR rfl) aB)))) (aQ (bx (i7 (cx jF rfl nb.gS gP (ao (af 0) (ao (jr (v :=.ty "int") rfl nb.tC sR rfl) aB))) (i7 (FV (cx jF rfl nb.gS gP (ao (af 0) (ao (jr (v :=.ty "bool") rfl nb.BH By rfl) aB)))) (ky (gZ dk (af 0) (af 1))))))) cy)
  (aP (cz (hy (cx jF rfl nb.gS gP (ao (af 1) (ao (jr (v :=.ty "str") rfl nb.I5 F7 rfl) aB)))) (aQ (bx (i7 (cx jF rfl nb.gS gP (ao (af 0) (ao (jr (v :=.ty "str") rfl nb.I5 F7 rfl) aB))) (ky (gZ dk (af 0) (af 1)))))) cy)
  (aP (cz (gi.pt (ks (gi.pt (o4 (hy (cx jF rfl nb.gS gP (ao (af 1) (ao (jr (v :=.ty "tuple") rfl nb.rR q2 rfl) aB)))) (p8 (i6 (hy (cx jF rfl nb.gS gP (ao (af 0) (ao (jr (v :=.ty "tuple") rfl nb.rR q2 rfl) aB)))))))) (lk (gi.pt (o4 (hy (cx jF rfl nb.gS gP (ao (af 1) (ao (jr (v :=.ty "list") rfl nb.H6 FX rfl) aB)))) (p8 (i6 (hy (cx jF rfl nb.gS gP (ao (af 0) (ao (jr (v :=.ty "list") rfl nb.H6 FX rfl) aB))))))))))) (aQ (bx gg)) cy)
  (aP (cz (b6 tQ (cx ep rfl nb.ec ef (ao (af 0) aB)) (cx ep rfl nb.ec ef (ao (af 1) aB))) (aQ (bx gg)) cy)
  (aQ (bx (gZ dk (cx ep rfl nb.ec ef (ao (hZ ["_law_k"] [(0,"_law_found"),(1,"_law_due")] rfl (by decide+kernel) ⟨rfl,.inl rfl,rfl,.inl rfl,trivial⟩ (ob rfl nb.lP (ao (cx ep rfl nb.ec ef (ao (af 1) aB)) aB)) (fun _ _ _ _ _=>(eo (i:=0) (show(["_law_k","_law_found","_law_due"]:List ah).Nodup by decide+kernel))) (fun _ _ _ _ _=>(Mb (i6 (hy (bX uG az (ao (cV cX (af 1) (af 0)) (ao (cV cX (af 2) (af 0)) aB)) (hk:=by omega)))))) (fun _ _ _ _ _=>(af 0))) aB)) aD))))))))) fun G fo hQ go=>?_
 try dsimp only[cG,cH,cI,cJ]at go
 have kH:=al.ty (K:=K)
 have iX:=aw.ty (K:=K)
 have cY:hX H H (Q (.aE au)):=⟨H,.refl (cF _),q⟩
 cases dd with
 |bc =>
  obtain rfl:v1=.bc:=al
  obtain rfl:v2=.bc:=aw
  subst hQ
  exact go ⟨_,I,I,_,I,hC I ⟨_,I,I,cY⟩⟩
 |aE b =>
  obtain rfl:v1=.aE b:=al
  obtain rfl:v2=.aE b:=aw
  subst hQ
  refine go ⟨_,I,I,_,I,fv (fun z=>nomatch z) ?_⟩
  refine⟨_,I,.inl ⟨_,_,_,_,I,iX,hE K _ (by decide),_,I,eC ?_⟩⟩
  refine⟨_,I,.inl ⟨_,_,_,_,I,kH,hE K _ (by decide),?_⟩⟩
  refine⟨au,I,eC ⟨_,I,_,I,I,?_⟩⟩
  rw[fu rfl];exact cY
 |int i =>
  obtain rfl:v1=.int i:=al
  obtain rfl:v2=.int i:=aw
  subst hQ
  refine go ⟨_,I,I,_,I,fv (fun z=>nomatch z) ?_⟩
  refine⟨_,I,.inl ⟨_,_,_,_,I,iX,hE K _ (by decide),_,I,dx ?_⟩⟩
  refine⟨_,I,.inl ⟨_,_,_,_,I,iX,hE K _ (by decide),_,I,eC ?_⟩⟩
  refine⟨_,I,.inl ⟨_,_,_,_,I,kH,hE K _ (by decide),au,I,eC ?_⟩⟩
  refine⟨_,I,.inl ⟨_,_,_,_,I,kH,hE K _ (by decide),?_⟩⟩
  refine⟨aA,I,au,I,eC ⟨_,I,_,I,I,?_⟩⟩
  rw[fu rfl];exact cY
 |str t =>
  obtain⟨rfl,_⟩:=al
  obtain⟨rfl,_⟩:=aw
  subst hQ
  refine go ⟨_,I,I,_,I,fv (fun z=>nomatch z) ?_⟩
  refine⟨_,I,.inl ⟨_,_,_,_,I,iX,hE K _ (by decide),_,I,dx ?_⟩⟩
  refine⟨_,I,.inl ⟨_,_,_,_,I,iX,hE K _ (by decide),_,I,dx ?_⟩⟩
  refine⟨_,I,.inl ⟨_,_,_,_,I,iX,hE K _ (by decide),_,I,eC ?_⟩⟩
  refine⟨_,I,.inl ⟨_,_,_,_,I,kH,hE K _ (by decide),au,I,eC ⟨_,I,_,I,I,?_⟩⟩⟩
  rw[fu rfl];exact cY
 | tup ds =>
  obtain⟨dm,k7,rfl,aU,jw,dE⟩:=al
  obtain⟨cD,gC,rfl,ba,dQ,dM⟩:=aw
  subst hQ
  refine go ⟨_,I,I,_,I,fv (fun z=>nomatch z) ?_⟩
  iterate 3 refine⟨_,I,.inl ⟨_,_,_,_,I,iX,hE K _ (by decide),_,I,dx ?_⟩⟩
  refine⟨_,I,.inl ⟨_,_,_,_,I,iX,hE K _ (by decide),_,I,eC ?_⟩⟩
  refine⟨_,I,.inl ⟨_,_,_,_,I,kH,hE K _ (by decide),?_⟩⟩
  refine⟨au,I,dx ⟨_,I,.inl ⟨_,_,_,_,I,iX,hE K _ (by decide),_,I,dx (dx ?_)⟩⟩⟩
  have ew:=dn.len ds jw
  have dZ:=dn.len ds dQ
  rw[eG]at mL
  refine⟨_,I,_,_,I,.inr ⟨_,dK aU,I⟩,_,I,_,_,I,.inr ⟨_,dK ba,I⟩,I,_,I,yE (by rw[ew,dZ]) ?_⟩
  refine⟨_,I,_,_,I,.inr ⟨_,dK ba,I⟩,_,I,by omega,by omega,fun dC e9=>?_⟩
  rw[show(((gC.length:Nat):Int)).toNat=gC.length by omega]
  refine KV (fun _=>aA) (fun i =>.int (i:Nat)) (fun ae=>∃z,ae=[z,J (.ref dm),J (.ref cD)]) (by omega) ⟨_,I⟩ e9 ?_ ?_
  ·rintro i aJ bO H1 ⟨z,rfl⟩ d3 R kt b8
   obtain⟨gX,lL⟩:∃x,k7[i]?=J x:=⟨_,c4 (by omega)⟩
   obtain⟨dR,qx⟩:∃x,gC[i]?=J x:=⟨_,c4 aJ⟩
   obtain⟨ju,kV,Cj⟩:=dn.get ds jw lL
   obtain⟨ZU,yf,ou⟩:=dn.get ds dQ qx
   rw[kV]at yf
   obtain rfl:=gy yf
   have hm:=s4 ds (hY kV)
   refine⟨_,I,_,I,.inl (.inr ⟨_,_,_,_,I,I,dK (d3 _ _ aU),(by rw[Int.zero_add];exact dz lL),_,I,_,I,.inl (.inr ⟨_,_,_,_,I,I,dK (d3 _ _ ba),(by rw[Int.zero_add];exact dz qx),gX,dR,ju,I,d4.same d3 _ Cj,d4.same d3 _ ou,by omega,_,rfl,?_⟩)⟩)⟩
   exact dx (b8 _ ⟨_,I⟩)
  ·rw[show List.filter (fun _:Nat=>aA) (List.range gC.length)=[]from List.filter_eq_nil_iff.mpr (fun _ _=>ht)]
   refine⟨_,_,I,.inl ⟨_,bF aG,I⟩,I,H,.refl (dc e9),?_⟩
   exact q
 | lst ds =>
  obtain⟨dm,k7,rfl,aU,jw,dE⟩:=al
  obtain⟨cD,gC,rfl,ba,dQ,dM⟩:=aw
  subst hQ
  refine go ⟨_,I,I,_,I,fv (fun z=>nomatch z) ?_⟩
  iterate 3 refine⟨_,I,.inl ⟨_,_,_,_,I,iX,hE K _ (by decide),_,I,dx ?_⟩⟩
  refine⟨_,I,.inl ⟨_,_,_,_,I,iX,hE K _ (by decide),_,I,dx (dx ?_)⟩⟩
  refine⟨_,I,.inl ⟨_,_,_,_,I,iX,hE K _ (by decide),_,I,eC ?_⟩⟩
  refine⟨_,I,.inl ⟨_,_,_,_,I,kH,hE K _ (by decide),?_⟩⟩
  refine⟨au,I,dx ?_⟩
  have ew:=dn.len ds jw
  have dZ:=dn.len ds dQ
  rw[eG]at mL
  refine⟨_,I,_,_,I,.inl ⟨_,bF aU,I⟩,_,I,_,_,I,.inl ⟨_,bF ba,I⟩,I,_,I,yE (by rw[ew,dZ]) ?_⟩
  refine⟨_,I,_,_,I,.inl ⟨_,bF ba,I⟩,_,I,by omega,by omega,fun dC e9=>?_⟩
  rw[show(((gC.length:Nat):Int)).toNat=gC.length by omega]
  refine KV (fun _=>aA) (fun i =>.int (i:Nat)) (fun ae=>∃z,ae=[z,J (.ref dm),J (.ref cD)]) (by omega) ⟨_,I⟩ e9 ?_ ?_
  ·rintro i aJ bO H1 ⟨z,rfl⟩ d3 R kt b8
   obtain⟨gX,lL⟩:∃x,k7[i]?=J x:=⟨_,c4 (by omega)⟩
   obtain⟨dR,qx⟩:∃x,gC[i]?=J x:=⟨_,c4 aJ⟩
   obtain⟨ju,kV,Cj⟩:=dn.get ds jw lL
   obtain⟨ZU,yf,ou⟩:=dn.get ds dQ qx
   rw[kV]at yf
   obtain rfl:=gy yf
   have hm:=s4 ds (hY kV)
   refine⟨_,I,_,I,.inl (.inl ⟨_,_,_,_,I,I,bF (d3 _ _ aU),(by rw[Int.zero_add];exact dz lL),_,I,_,I,.inl (.inl ⟨_,_,_,_,I,I,bF (d3 _ _ ba),(by rw[Int.zero_add];exact dz qx),gX,dR,ju,I,d4.same d3 _ Cj,d4.same d3 _ ou,by omega,_,rfl,?_⟩)⟩)⟩
   exact dx (b8 _ ⟨_,I⟩)
  ·rw[show List.filter (fun _:Nat=>aA) (List.range gC.length)=[]from List.filter_eq_nil_iff.mpr (fun _ _=>ht)]
   refine⟨_,_,I,.inl ⟨_,bF aG,I⟩,I,H,.refl (dc e9),?_⟩
   exact q
theorem KD(nb:dD mg)(F:dS K mg "_law_same" AW ["_law_found","_law_due"] f fd):∀d:Nat,bp P w K mg base (d+1) "_law_same" ["_law_found","_law_due"] (C1 d)
 |0=>bp.none F fun vs H Q E z=>by obtain⟨_,_,dd,_,_,_,h,_⟩:=z;have:=Ml dd;omega
 |d+1=>VN nb F (KD nb F d)
inductive QM(has:fI->Bool)(bw:D->Bool)(fw:D->List Bool)(c:dF)(C:ag)(n:Nat)(vs:List V)(H:aq)(Q:bG)(E:bT):Prop where
 |mk (o p ai:ag) (f:bN) (d:D) (e:Bool) (bg:vs=[.ref o,.ref p]) (al:b7 c [p] H f o) (aw:kg has f) (bq:bo f<=n) (b4:H p=J (fe C ai (bD fw f d) 0 aA e)) (eb:(bD fw f d).length<=15000000) (ij:b2 bw f d=au) (oj:∀v H' j,dO p H H'->cQ (eP.of H) H' d v->H' p=J (fe C ai (bD fw f d) j aA e)->Q v H'):QM has bw fw c C n vs H Q E
def QK(has:fI->Bool)(bw:D->Bool)(fw:D->List Bool)(c:dF)(C:ag)(n:Nat):b0:=fun vs H Q E=>QM has bw fw c C n vs H Q E
theorem YY(l:List Bool):sees l aA 0=l:=by
 unfold sees
 rw[List.drop_zero]
 have e:xor aA=(id:Bool->Bool):=by funext x;cases x<;>rfl
 rw[e,List.map_id]
theorem WZ(nb:dD mg)(T:ve K C)(F:dS K mg "value_of" E7 ["form","source"] f fd)(lU:hT P w K mg base (2*n+4) "draw" ["self","source"] (fJ c) (ki has bw fw c C n)):bp P w K mg base (2*n+5) "value_of" ["form","source"] (QK has bw fw c C n):=by
 refine F.ez KI (fun bl A _ s H vs Q E az h=>?_)
 obtain⟨o,p,ai,g,d,e,rfl,cW,aT,cS,c9,aC,aH,q⟩:=h
 obtain⟨f6,f9,eR,li⟩:=b7.draw g cW
 refine⟨_,(aP (bZ 2 KI.bB (jq lU az (af 0) (ao (af 1) aB) (hk:=by omega)))
  (aP (cz (b6 ke (dw (af 1) rfl) (cx ep rfl nb.ec ef (ao (dw (af 1) rfl) aB))) (aQ lB) cy)
  (aQ (bx (af 2))))),?_⟩
 try dsimp only[cG,cH,cI,cJ]
 refine⟨_,I,o,slot g,f6,f9,I,eR,li,?_⟩
 refine⟨_,I,o,p,ai,g,d,_,0,aA,e,eP.of H,I,I,cW,aT,cS,c9,by omega,UF _,⟨_,c9⟩,fun _ z=>z,aH,by rw[YY];exact List.prefix_refl _,fun v H' M hd ny=>?_⟩
 rw[Nat.zero_add]at ny
 refine⟨_,I,p,C,ai,_,_,I,ny,T.cl,T.wt,A2 ..,_,I,p,C,ai,_,_,I,ny,T.cl,T.oC,Fi ..,_,_,I,⟨iE (by rw[d8];omega),I⟩,.inl ⟨_,_,I,I,_,I,?_⟩⟩
 refine fv (by rw[d8];omega) ?_
 exact⟨_,I,_,M.sub ny,q _ _ _ M hd ny⟩
inductive Qk(has:fI->Bool)(bw:D->Bool)(fw:D->List Bool)(c:dF)(n:Nat)(vs:List V)(H:aq)(Q:bG)(E:bT):Prop where
 |mk (o:ag) (f:bN) (d:D) (bg:vs=[.ref o,.str (aR (bD fw f d))]) (al:b7 c [] H f o) (aw:kg has f) (bq:bo f<=n) (b4:(bD fw f d).length<=15000000) (eb:b2 bw f d=au) (ij:∀v H',Ext H H'->cQ (eP.of H) H' d v->Q v H'):Qk has bw fw c n vs H Q E
def Qj(has:fI->Bool)(bw:D->Bool)(fw:D->List Bool)(c:dF)(n:Nat):b0:=fun vs H Q E=>Qk has bw fw c n vs H Q E
theorem W4(F:dS K mg "read_all" E9 ["form","signs"] f fd)(D6:jl P w K mg base 1 "Source" C ["self","signs","at"] (QB C))(DO:bp P w K mg base (2*n+5) "value_of" ["form","source"] (QK has bw fw c C n)):bp P w K mg base (2*n+6) "read_all" ["form","signs"] (Qj has bw fw c n):=by
 refine F.ez WT (fun bl A _ s H vs Q E az h=>?_)
 obtain⟨o,g,d,rfl,cW,aT,cS,aC,aH,q⟩:=h
 refine⟨_,(aQ (bx (bX DO az (ao (af 0) (ao (pW D6 az (ao (af 1) (ao aD aB)) (hk:=by omega)) aB)) (hk:=by omega)))),?_⟩
 try dsimp only[cG,cH,cI,cJ]
 refine⟨_,I,_,I,fun x ai nx wu CE=>?_⟩
 refine⟨x,ai,_,_,I,aG,I,?_⟩
 rw[fX]
 have ic:=Ext.made (C:=C) (fs:=xY (aR (bD fw g d)) 0 aA aA) nx wu CE
 refine⟨o,x,ai,g,d,aA,I,b7.keep (fun b u _ e=>ic.s b u e) g (b7.add nx g cW),aT,cS,aG,aC,aH,fun v H' j M hd ny=>?_⟩
 have gj:=dO.new ic nx M
 exact⟨_,gj.sub,q _ _ gj (cQ.weak (X:=eP.of H) (Y:=eP.of _) (fun x z=>by obtain⟨u,e⟩:=z;exact⟨u,ic.s _ _ e⟩) d hd)⟩
def pY(a b:List Bool):Prop:=¬Lt b a
theorem Uz{b c:List Bool}(h:pY a b)(aw:pY b c):pY a c:=fun z=>by
 rcases MG a b with x|x|x
 .exact aw (Ka z x)
 .exact aw (x ▸ z)
 .exact h x
theorem Mw:∀(ss:List (List Bool)),PyProof.Rows.sortedS (ss.map aR)=au->ss.Pairwise pY
 |[],_ =>.nil
 |[_],_=>List.pairwise_singleton ..
 | a::b::r,h=>by
  have al:(!PySem.Spec.ltCps (aR b).cps.toList (aR a).cps.toList&&PyProof.Rows.risingS (aR b) (r.map aR))=au:=h
  rw[jD]at al
  have bQ:=Mw (b::r) al.2
  have ab:pY a b:=fun z=>by
   have:=al.1
   rw[PyProof.Rows.ltCps_eq,fu (show(aR b).cps.toList<(aR a).cps.toList from z)]at this
   cases this
  refine List.pairwise_cons.mpr ⟨fun y bV=>?_,bQ⟩
  rcases cR.mp bV with rfl|z
  .exact ab
  .exact Uz ab ((List.pairwise_cons.mp bQ).1 y z)
theorem Ux:cv P w K mg base c8 k f fd aI ue:=⟨fun _ _ _ _ h=>h.elim,fun _ _ _ _ _ _ _ _ _ _ _ _ _ h=>h.elim⟩
open PySem.W PySem.Spec PyProof.Rows in
theorem WN{X:bA}:jC X (.builtin "sorted") (fun xs H Q=>∃(a:ag)(rs:List (List Bool)),xs=[.ref a]/\c3 X.K H a (dG.c2 rs)/\rs.length<64/\∀ss:List (List Bool),ss.Pairwise pY->ss.Perm rs->∀p,H p=av->Q (.ref p) (upd H p (.lst (dG.c2 ss)))):=by
 intro ak s ae H xs us Q aa r h
 obtain⟨a,rs,rfl,aY,ajI,q⟩:=h
 obtain⟨u,rfl,fc⟩:=vals1 r
 obtain rfl:u=ar.ref a:=fc
 obtain⟨bj,dN,pl,bL⟩:=aa.list aY
 have cB:=dN.length
 rw[dG.i8]at cB
 refine sorted_strs pl.isList (LH dN) (by omega) fun out akr a1 a2 a3=>?_
 obtain⟨ss,aU,ba⟩:=dG.X9 a2.symm rfl
 subst aU
 obtain⟨e,he⟩:=sortedAll_at s.heap bj out
 have aO:=aa.aT.fresh (a:=s.heap.objs.size+1) (Nat.le_succ _)
 refine⟨.ref (s.heap.objs.size+1),_,?_,I,q ss (Mw ss a3) ba.symm _ aO⟩
 have gR:=ba.length_eq
 refine aa.Dd (ch:=[]) (t':=s.toks) (fun b o _ fk=>sortedAll_old fk) (fun b aj=>nomatch aj) (Nat.le_succ _) ?_
 refine⟨by rw[dG.i8];exact dj (show ss.length<=64 by omega) (by decide),out.toList,e,K8 a1,?_⟩
 rw[he]
mutual
theorem Bu:∀(f:bN),gB f->kg hasAll f
 |.bare k,h=>⟨by rw[mU];trivial,by rw[oB];rfl⟩
 |.sp a b,h=>by rw[gB]at h;exact⟨by rw[mU];exact⟨h.1,h.2.2⟩,by rw[oB];rfl⟩
 |.le s,h=>by rw[gB]at h;exact⟨by rw[mU];exact h,by rw[oB];rfl⟩
 |.one k f,h=>by
  rw[gB]at h
  obtain⟨a,b⟩:=Bu f h
  exact⟨by rw[mU];exact a,by rw[oB];exact⟨I,b⟩⟩
 |.two k ns fs,h=>by
  rw[gB]at h
  obtain⟨a,b⟩:=LN fs h.2.2
  exact⟨by rw[mU];exact⟨h.1,h.2.1,a⟩,by rw[oB];exact⟨I,b⟩⟩
theorem LN:∀(fs:List bN),ji fs->CK hasAll fs
 |[],_=>⟨by rw[rI];trivial,by rw[ru];trivial⟩
 |f::fs,h=>by
  rw[ji]at h
  obtain⟨a,b⟩:=Bu f h.1
  obtain⟨a2,e6⟩:=LN fs h.2
  exact⟨by rw[rI];exact⟨a,a2⟩,by rw[ru];exact⟨b,e6⟩⟩
end
theorem Uy{b:List Bool}(h:Lt a b):decide ((aR a).cps.toList<(aR b).cps.toList)=au:=fu h
inductive Pm(vs:List V)(H:aq)(Q:bG)(E:bT):Prop where
 |mk (a b:List Bool) (bg:vs=[.str (aR a),.str (aR b)]) (al:a.length<=15000000) (aw:b.length<=15000000) (bq:Q (.int ((fP a b:Nat):Int)) H):Pm  vs H Q E
def y6:b0:=fun vs H Q E=>Pm  vs H Q E
theorem Vk(nb:dD mg)(F:dS K mg "first_unlike" Ey ["one","other"] f fd):bp P w K mg base 1 "first_unlike" ["one","other"] y6:=by
 refine F.ez Ee (fun bl A _ s H vs Q E az h=>?_)
 obtain⟨a,b,rfl,bh,aj,q⟩:=h
 refine⟨_,(aP (bZ 2 Ee.bB aD)
  (aP (q0 h5.never (gi.pt (o4 (b6 ke (af 2) (cx ep rfl nb.ec ef (ao (af 0) aB))) (o4 (b6 ke (af 2) (cx ep rfl nb.ec ef (ao (af 1) aB))) (p8 (b6 dk (cV cX (af 0) (af 2)) (cV cX (af 1) (af 2)))))))
   (aQ (bZ 2 Ee.bB (aS ed (af 2) aD))))
  (aQ (bx (af 2))))),?_⟩
 try dsimp only[cG,cH,cI,cJ]
 have jd:(aR a).length<=bU:=by rw[d8];exact iE (by omega)
 have e8:(aR b).length<=bU:=by rw[d8];exact iE (by omega)
 have aju:=d8 a
 have M5:=d8 b
 refine⟨fun m ae ax=>∃j:Nat,j<=fP a b/\m=fP a b-j/\ae=[J (.str (aR a)),J (.str (aR b)),J (.int (j:Nat))]/\ax=H,⟨_,0,UF _,I,I,I⟩,?_⟩
 rintro m ae ax ⟨j,cw,rfl,rfl,rfl⟩
 have hle:=F4 (a:=a) (b:=b)
 have hF:j=fP a b->Q (.int ((j:Nat):Int)) ax:=fun e=>by rw[e];exact q
 rcases hv j (fP a b)with c|c
 ·obtain⟨x,lL,qx⟩:=Uk c
  refine⟨_,I,_,I,_,_,I,⟨jd,I⟩,.inl ⟨_,_,I,I,_,I,hC (by omega) ?_⟩⟩
  refine⟨_,I,_,I,_,_,I,⟨e8,I⟩,.inl ⟨_,_,I,I,_,I,hC (by omega) ?_⟩⟩
  refine⟨_,I,_,I,.inr ⟨_,_,l2 x,I,I,jd,dz (xt lL),_,I,_,I,.inr ⟨_,_,l2 x,I,I,e8,dz (xt qx),I,_,I,hC I ?_⟩⟩⟩
  refine⟨fun bR H'=>∃bY,bY<fP a b-j/\∃j:Nat,j<=fP a b/\bY=fP a b-j/\bR=[J (.str (aR a)),J (.str (aR b)),J (.int (j:Nat))]/\H'=ax,fun _ _ h=>h,?_⟩
  exact⟨_,I,.inl ⟨_,_,I,I,fP a b-(j+1),by omega,j+1,c,rfl,rfl,rfl⟩⟩
 ·have g5:j=fP a b:=by omega
  rcases TG a b with h|h|⟨x,y,al,aw,bq⟩
  .exact⟨_,I,_,I,_,_,I,⟨jd,I⟩,.inl ⟨_,_,I,I,_,I,fv (by omega) (dx (⟨_,I,ax,.refl (cF _),hF g5⟩))⟩⟩
  ·refine⟨_,I,_,I,_,_,I,⟨jd,I⟩,.inl ⟨_,_,I,I,_,I,fm (fun dA=>?_) (fun dA=>dx (⟨_,I,ax,.refl (cF _),hF g5⟩))⟩⟩
   exact⟨_,I,_,I,_,_,I,⟨e8,I⟩,.inl ⟨_,_,I,I,_,I,fv (by omega) (dx (⟨_,I,ax,.refl (cF _),hF g5⟩))⟩⟩
  ·have dE:=(i4.mp al).1
   have dM:=(i4.mp aw).1
   rw[<-g5]at al aw
   refine⟨_,I,_,I,_,_,I,⟨jd,I⟩,.inl ⟨_,_,I,I,_,I,hC (by omega) ?_⟩⟩
   refine⟨_,I,_,I,_,_,I,⟨e8,I⟩,.inl ⟨_,_,I,I,_,I,hC (by omega) ?_⟩⟩
   refine⟨_,I,_,I,.inr ⟨_,_,l2 x,I,I,jd,dz (xt al),_,I,_,I,.inr ⟨_,_,l2 y,I,I,e8,dz (xt aw),I,_,I,fv ?_ (⟨_,I,ax,.refl (cF _),hF g5⟩)⟩⟩⟩
   rw[LI,LI]
   intro z
   exact bq (List.cons.inj (Bd (V.str.inj z))).1
theorem Vg(F:dS K mg "shared_signs" Et ["one","other"] f fd)(DD:bp P w K mg base 1 "first_unlike" ["one","other"] y6):bp P w K mg base 2 "shared_signs" ["one","other"] y6:=by
 refine F.ez U8 (fun bl A _ s H vs Q E az h=>?_)
 obtain⟨a,b,rfl,bh,aj,q⟩:=h
 refine⟨_,(aQ (bx (bX DD az (ao (af 0) (ao (af 1) aB))))),?_⟩
 try dsimp only[cG,cH,cI,cJ]
 exact⟨_,I,_,I,a,b,I,bh,aj,H,.refl (cF _),q⟩
inductive Qb(vs:List V)(H:aq)(Q:bG)(E:bT):Prop where
 |mk (a b:List Bool) (bg:vs=[.str (aR a),.str (aR b)]) (al:a.length<=15000000) (aw:b.length<=15000000) (bq:Lt a b) (b4:Q (.str (aR (b.take (fP a b+1)))) H):Qb  vs H Q E
def Qa:b0:=fun vs H Q E=>Qb  vs H Q E
theorem V1(F:dS K mg "parting_of" EJ ["one","other"] f fd)(uJ:bp P w K mg base 2 "shared_signs" ["one","other"] y6):bp P w K mg base 3 "parting_of" ["one","other"] Qa:=by
 refine F.ez VQ (fun bl A _ s H vs Q E az h=>?_)
 obtain⟨a,b,rfl,bh,aj,iA,q⟩:=h
 refine⟨_,(aP (cz (i6 (b6 ke (af 0) (af 1))) (aQ lB) cy)
  (aQ (bx (n6 oJ (af 1) oY (nf (aS ed (bX uJ az (ao (af 0) (ao (af 1) aB))) aD)))))),?_⟩
 try dsimp only[cG,cH,cI,cJ]
 have e8:(aR b).length<=bU:=by rw[d8];exact iE (by omega)
 refine⟨_,I,_,I,.inr ⟨_,_,I,I,_,I,?_⟩⟩
 rw[Uy iA]
 refine dx ⟨_,I,_,I,_,I,a,b,I,bh,aj,.inl ⟨_,_,I,I,_,I,.inr ⟨_,I,e8,?_⟩⟩⟩
 have e:=YW b (fP a b+1) (T6 iA)
 have e':(((fP a b+1:Nat):Int))=((fP a b:Nat):Int)+1:=rfl
 rw[e']at e
 rw[e]
 exact⟨H,.refl (cF _),q⟩
theorem uQ{n:Nat}(h:n+1<2^255):(cnt n).length<=269:=by
 have:=xo h
 have:=jI h
 omega
theorem qc{n:Nat}(h:n<=16000000):n+1<2^255:=Nat.lt_of_le_of_lt (Nat.succ_le_succ h) (by decide+kernel)
theorem BD{x:V}(h:(c2 rs)[i]?=J x):∃r,rs[i]?=J r/\rs.getD i []=r/\x=.str (aR r):=by
 rw[e4]at h
 cases e:rs[i]? with
 |none=>rw[e]at h;cases h
 |some r=>rw[e]at h;cases h;exact⟨r,I,by rw[eL,e];rfl,rfl⟩
theorem Pb(h:ae.length=2):∃du dy,ae=[du,dy]:=match ae,h with|[du,dy],_=>⟨du,dy,rfl⟩
inductive Py(vs:List V)(H:aq)(Q:bG)(E:bT):Prop where
 |mk (a r:List Bool) (bg:vs=[.str (aR a),.str (aR r)]) (al:a.length<=15000000) (aw:r.length<=15000000) (bq:Q (.str (aR (ent a r))) H):Py  vs H Q E
def Px:b0:=fun vs H Q E=>Py  vs H Q E
theorem Xc(nb:dD mg)(F:dS K mg "entry_of" Fg ["ahead","row"] f fd)(uJ:bp P w K mg base 2 "shared_signs" ["one","other"] y6)(lW:bp P w K mg base 2 "count_row" ["n"] y7):bp P w K mg base 3 "entry_of" ["ahead","row"] Px:=by
 refine F.ez KN (fun bl A _ s H vs Q E az h=>?_)
 obtain⟨a,r,rfl,bh,aj,q⟩:=h
 refine⟨_,(aP (bZ 2 KN.bB (bX uJ az (ao (af 0) (ao (af 1) aB))))
  (aQ (bx (aS ed (aS ed (bX lW az (ao (af 2) aB)) (bX lW az (ao (aS gb (cx ep rfl nb.ec ef (ao (af 1) aB)) (af 2)) aB))) (n6 oJ (af 1) (nf (af 2)) oY))))),?_⟩
 try dsimp only[cG,cH,cI,cJ]
 have b8:(aR r).length<=bU:=by rw[d8];exact iE (by omega)
 have ajv:=d8 r
 have hc:=(F4 (a:=a) (b:=r)).2
 have dE:=uQ (qc (n:=fP a r) (by omega))
 have dM:=uQ (qc (n:=r.length-fP a r) (by omega))
 refine⟨_,I,_,I,a,r,I,by omega,by omega,?_⟩
 refine⟨_,I,fP a r,I,qc (by omega),?_⟩
 refine⟨_,I,_,_,I,⟨b8,I⟩,_,I,_,_,I,I,r.length-fP a r,(congrArg (fun x=>[V.int x]) (by omega)),qc (by omega),?_⟩
 refine .inr ⟨_,_,I,I,(by rw[d8,d8];exact iE (by omega)),?_⟩
 refine⟨_,I,_,I,_,I,.inr ⟨_,I,b8,?_⟩⟩
 rw[Xu r _ hc,kz]
 refine .inr ⟨_,_,I,I,(by rw[d8,d8,ee,kv];exact iE (by omega)),?_⟩
 rw[kz]
 exact⟨H,.refl (cF _),q⟩
inductive Ph(vs:List V)(H:aq)(Q:bG)(E:bT):Prop where
 |mk (a:ag) (rs:List (List Bool)) (bg:vs=[.ref a]) (al:H a=J (.lst (c2 rs))) (aw:rs.length<=200) (bq:Q (.aE (vB rs)) H):Ph  vs H Q E
def Pg:b0:=fun vs H Q E=>Ph  vs H Q E
theorem YK(rs:List (List Bool)):((List.range (rs.length-1)).map fun i=>decide (Lt (rs.getD i []) (rs.getD (i+1) []))).all id=vB rs:=by
 induction rs with
 |nil=>rfl
 | cons a r bQ =>
  cases r with
  |nil=>rfl
  |cons b r =>
   have e:(a::b::r).length-1=((b::r).length-1)+1:=rfl
   rw[e,List.range_succ_eq_map,gF,List.all_cons,fV,vB]
   congr 1
theorem Yg(nb:dD mg)(F:dS K mg "ascend" FD ["rows"] f fd):bp P w K mg base 1 "ascend" ["rows"] Pg:=by
 refine F.ez X2 (fun bl A _ s H vs Q E az h=>?_)
 obtain⟨a,rs,rfl,bh,aC,q⟩:=h
 refine⟨_,(aQ (bx (cx (sM I) I nb.sT sS (ao (hZ ["one","other"] [] I (by decide+kernel) trivial (MB I nb.Dm (ao (af 0) (ao (n6 oJ (af 0) (nf aD) oY) aB))) (fun _ _ _ _ _=>(qb I (j0 (eo (i:=0) (show(["one","other"]:List ah).Nodup by decide+kernel)) (j0 (eo (i:=1) (show(["one","other"]:List ah).Nodup by decide+kernel)) p9)))) (fun _ _ _ _ _=>hN) (fun _ _ _ _ _=>(gZ ke (af 0) (af 1)))) aB)))),?_⟩
 try dsimp only[cG,cH,cI,cJ]
 refine⟨_,I,_,I,_,I,.inl ⟨a,_,I,bF bh,fun p aO=>⟨a,p,_,_,I,bF (dc aO _ _ bh),bF aG,fun D c0=>?_⟩⟩⟩
 rw[Fw]at c0 ⊢
 have d3:=dc (o:=cZ.lst ((c2 rs).drop 1)) aO
 have aZ:min (c2 rs).length ((c2 rs).drop 1).length=rs.length-1:=by rw[kv,i8];omega
 refine L4 (fun i=>V.aE (decide (Lt (rs.getD i []) (rs.getD (i+1) [])))) (fun ae=>ae.length=2) (by omega) I c0 (bF (d3 _ _ bh)) (bF aG) ?_ ?_
 ·intro i x y ay bV bO H1 T c9 hs cc R b8
  obtain⟨du,dy,rfl⟩:=Pb c9
  obtain⟨cd,_,g1,rfl⟩:=BD ay
  rw[List.getElem?_drop,Nat.add_comm]at bV
  obtain⟨dB,_,g2,rfl⟩:=BD bV
  refine⟨T,_,I,dK aG,I,_,_,I,_,_,I,I,_,I,_,I,.inr ⟨_,_,I,I,?_⟩⟩
  have:=b8 [J (.str (aR cd)),J (.str (aR dB))] _ rfl (cF _)
  rw[g1,g2]at this
  exact this
 ·intro H' jg ix
  rw[aZ]at ix
  refine⟨D,(List.range (rs.length-1)).map fun i=>decide (Lt (rs.getD i []) (rs.getD (i+1) [])),I,bF (by rw[ix,fV];rfl),H,.refl (d3.trans jg),?_⟩
  rw[YK]
  exact q
inductive P7(vs:List V)(H:aq)(Q:bG)(E:bT):Prop where
 |mk (a:ag) (rs:List (List Bool)) (bg:vs=[.ref a]) (al:H a=J (.lst (c2 rs))) (aw:rs.length<=100) (bq:(rs.map List.length).sum<=15000000) (b4:nT rs) (eb:Q (.str (aR (yW rs))) H):P7  vs H Q E
def P6:b0:=fun vs H Q E=>P7  vs H Q E
theorem Lv(h:∀r∈rs,r.length<=15000000):∀a,(ents a rs).length<=(rs.map List.length).sum+540*rs.length:=by
 induction rs with
 |nil=>intro a;exact UF _
 | cons r rs bQ =>
  intro a
  have az:=h r (eI ..)
  have bg:=bQ (fun x ay=>h x (dP _ ay)) r
  have bq:(ent a r).length<=r.length+540:=by
   unfold ent
   have:=(F4 (a:=a) (b:=r)).2
   have al:=uQ (qc (n:=fP a r) (by omega))
   have aw:=uQ (qc (n:=r.length-fP a r) (by omega))
   rw[ee,ee,kv]
   omega
  rw[ents,ee,eA,gF,List.sum_cons]
  omega
theorem Zk(rs:List (List Bool)):((List.range rs.length).map fun i=>(aR (ent (([]::rs).getD i []) (rs.getD i []))).length).sum=(ents [] rs).length:=by
 rw[L0,List.length_flatten,fV]
 congr 1
 refine nd fun i _=>?_
 exact d8 _
theorem vu(h:r∈rs):r.length<=(rs.map List.length).sum:=by
 induction rs with
 |nil=>cases h
 |cons x rs bQ =>
  rw[gF,List.sum_cons]
  rcases cR.mp h with rfl|z
  .omega
  .have:=bQ z;omega
theorem L8{a b:List (List Bool)}(h:a.Sublist b):(a.map List.length).sum<=(b.map List.length).sum:=by
 induction h with
 |slnil=>exact cE _
 |cons x _ bQ=>rw[gF,List.sum_cons];omega
 |cons_cons x _ bQ=>rw[gF,List.sum_cons,gF,List.sum_cons];omega
theorem XD(nb:dD mg)(F:dS K mg "page_of" Fm ["rows"] f fd)(DA:bp P w K mg base 1 "ascend" ["rows"] Pg)(DC:bp P w K mg base 3 "entry_of" ["ahead","row"] Px)(lW:bp P w K mg base 2 "count_row" ["n"] y7):bp P w K mg base 4 "page_of" ["rows"] P6:=by
 refine F.ez K1 (fun bl A _ s H vs Q E az h=>?_)
 obtain⟨a,rs,rfl,bh,aC,HG,jd,q⟩:=h
 have aj:∀r∈rs,r.length<=15000000:=fun r az=>dj (vu az) HG
 refine⟨_,(aP (cz (i6 (hy (bX DA az (ao (af 0) aB)))) (aQ lB) cy)
  (aP (E5 (i:=1)  ["ahead","row"] [] K1.bB rfl rfl rfl (by decide+kernel) trivial (MB rfl nb.Dm (ao (aS rF (eJ (ao cT aB)) (af 0)) (ao (af 0) aB))) (fun _ _ _ _ _=>(qb rfl (j0 (eo (i:=0) (show(["ahead","row"]:List ah).Nodup by decide+kernel)) (j0 (eo (i:=1) (show(["ahead","row"]:List ah).Nodup by decide+kernel)) p9)))) (fun _ _ _ _ _=>hN) (fun _ _ _ _ _=>(bX DC az (ao (af 0) (ao (af 1) aB)))))
  (aQ (bx (aS rF (bX lW az (ao (cx ep rfl nb.ec ef (ao (af 0) aB)) aB)) (jW PySem.F.plainAttrs_str PySem.F.slot_str_join PySem.F.type_str_join sO cT (ao (af 1) aB))))))),?_⟩
 try dsimp only[cG,cH,cI,cJ]
 refine⟨_,I,a,rs,I,bh,by omega,_,rfl,?_⟩
 rw[(SM rs).mpr jd]
 refine dx ⟨(by show 1<=bU;decide),fun dm mP=>?_⟩
 have kh:=dc (o:=cZ.lst [V.str (ah.ofString "")]) mP
 refine⟨_,I,.inr ⟨dm,a,_,_,I,I,aG,kh _ _ bh,(by rw[i8];exact iE (by show 1+_<=_;omega)),fun cD yv=>?_⟩⟩
 have mY:=kh.trans (dc (o:=cZ.lst ([V.str (ah.ofString "")]++c2 rs)) yv)
 have aU:[V.str (ah.ofString "")]++c2 rs=c2 ([]::rs):=by rw[y2];rfl
 rw[aU]at mY ⊢
 refine⟨_,I,cD,a,_,_,I,bF aG,bF (mY _ _ bh),fun D c0=>?_⟩
 have aZ:min (c2 ([]::rs)).length (c2 rs).length=rs.length:=by rw[i8,i8,eA];omega
 have ajT:=Lv aj []
 refine L4 (fun i=>V.str (aR (ent (([]::rs).getD i []) (rs.getD i [])))) (fun ae=>ae.length=2) (by omega) I c0 (bF aG) (bF (mY _ _ bh)) ?_ ?_
 ·intro i x y ay bV bO H1 T c9 hs cc R b8
  obtain⟨du,dy,rfl⟩:=Pb c9
  obtain⟨cd,s5,g1,rfl⟩:=BD ay
  obtain⟨dB,xR,g2,rfl⟩:=BD bV
  have abI:∀r∈[]::rs,r.length<=15000000:=fun r az=>by
   rcases cR.mp az with z|z
   .rw[z];exact UF _
   .exact aj r z
  have gn:cd.length<=15000000:=abI cd (hY s5)
  have fQ:dB.length<=15000000:=aj dB (hY xR)
  refine⟨T,_,I,dK aG,I,_,_,I,_,_,I,I,_,I,_,I,cd,dB,I,by omega,by omega,?_⟩
  have:=b8 [J (.str (aR cd)),J (.str (aR dB))] _ rfl (cF _)
  rw[g1,g2]at this
  exact this
 ·intro H' jg ix
  rw[aZ]at ix
  have wB:=mY.trans jg
  refine⟨_,I,_,_,I,.inl ⟨_,bF (wB _ _ bh),I⟩,rs.length,(by rw[i8];rfl),qc (by omega),?_⟩
  refine⟨I,_,I,_,D,(List.range rs.length).map fun i=>aR (ent (([]::rs).getD i []) (rs.getD i [])),I,I,bF (by rw[ix,fV];rfl),?_,?_⟩
  ·rw[fV]
   have eY:(ah.ofString "").length=0:=by decide+kernel
   rw[eY,Nat.mul_zero,Nat.add_zero]
   show((List.range rs.length).map fun i=>(aR (ent (([]::rs).getD i []) (rs.getD i []))).length).sum<=_
   rw[Zk]
   exact iE (by omega)
  ·have g5:Txt.join (ah.ofString "") ((List.range rs.length).map fun i=>aR (ent (([]::rs).getD i []) (rs.getD i [])))=aR (ents [] rs):=by
    rw[L0,<-qV,fV];rfl
   rw[g5]
   refine .inl (.inr ⟨_,_,I,I,?_,?_⟩)
   ·skip
    have:=uQ (qc (n:=rs.length) (by omega))
    rw[d8,d8];exact iE (by omega)
   ·rw[kz]
    exact⟨H,.refl wB,q⟩
theorem Bi(x:List Bool)(rs:List (List Bool)):wc (.str (aR x)) (c2 rs)=decide (x∈rs):=by
 unfold wc
 induction rs with
 |nil=>rfl
 | cons r rs bQ =>
  show((aR r == aR x)||(c2 rs).any fun y=>mF y (.str (aR x)))=decide (x∈r::rs)
  rw[bQ]
  by_cases h:x=r
  .subst h;simp
  ·have:(aR r == aR x)=aA:=beq_false_of_ne fun z=>h (Bd z).symm
   rw[this];simp[h]
theorem A9(rs:List (List Bool)):(c2 rs).all qg=au:=by
 rw[i5]
 intro v b5
 obtain⟨r,_,rfl⟩:=List.mem_map.mp b5
 rfl
noncomputable def iD(aW:ag)(m:Int)(l:ag):List (ah×V):=[("form",.ref aW),("room",.int m),("rows",.ref l)]
structure my(K:bK)(C:ag):Prop where
 cl:ff K C
 lN:jm K C "form"
 yN:jm K C "room"
 lO:jm K C "rows"
theorem ahj:¬(("form":ah)="room"):=by decide+kernel
theorem O7:¬(("form":ah)="rows"):=by decide+kernel
theorem O8:¬(("room":ah)="rows"):=by decide+kernel
theorem ahg:(("room":ah) == "form")=aA:=by decide+kernel
theorem ahh:(("rows":ah) == "form")=aA:=by decide+kernel
theorem ahi:(("rows":ah) == "room")=aA:=by decide+kernel
theorem ahr(aW:V):eU "form" aW []=([("form",aW)]:List (ah×V)):=rfl
theorem ahs(aW m:V):eU "room" m ([("form",aW)]:List (ah×V))=([("form",aW),("room",m)]:List (ah×V)):=by simp only[eU,ahj,if_false]
theorem aht(aW m l:V):eU "rows" l ([("form",aW),("room",m)]:List (ah×V))=([("form",aW),("room",m),("rows",l)]:List (ah×V)):=by simp only[eU,O7,O8,if_false]
theorem ahu(aW:ag)(m:Int)(l gq:ag):eU "rows" (.ref gq) (iD aW m l)=iD aW m gq:=by simp only[iD,eU,O7,O8,if_false,if_true]
theorem CU(aW:ag)(m:Int)(l:ag):(iD aW m l).lookup ("form":ah)=J (.ref aW):=by simp[iD]
theorem CV(aW:ag)(m:Int)(l:ag):(iD aW m l).lookup ("room":ah)=J (.int m):=by simp[iD,List.lookup,ahg]
theorem mZ(aW:ag)(m:Int)(l:ag):(iD aW m l).lookup ("rows":ah)=J (.ref l):=by simp[iD,List.lookup,ahh,ahi]
theorem oK(aW:ag)(m:Int)(l:ag){x:ah}(al:(x == ("form":ah))=aA:=by decide+kernel)(aw:(x == ("room":ah))=aA:=by decide+kernel)(bq:(x == ("rows":ah))=aA:=by decide+kernel):(iD aW m l).lookup x=av:=by simp[iD,List.lookup,al,aw,bq]
inductive Qu(C:ag)(vs:List V)(H:aq)(Q:bG)(E:bT):Prop where
 |mk (p ai aW:ag) (m:Int) (bg:vs=[.ref p,.ref aW,.int m]) (al:H p=J (.ins C ai [])) (aw:2<=m) (bq:m<=20) (b4:∀l,H l=av->Q .bc (upd (upd H p (.ins C ai (iD aW m l))) l (.lst []))):Qu C vs H Q E
def IZ(C:ag):b0:=fun vs H Q E=>Qu C vs H Q E
theorem XC(vK:ek mg "LEAST_ROOM" (.int 2))(vM:ek mg "MOST_ROOM" (.int 20))(T:my K C)(F:c1 K "__init__" "Shelf.__init__" AJ f fd):cv P w K mg base c8 1 f fd ["self","form","room"] (IZ C):=by
 refine F.fA Kv (fun bl A _ s H vs Q E az h=>?_)
 obtain⟨p,ai,aW,m,rfl,aO,aw,j9,q⟩:=h
 refine⟨_,(aP (cz (gi.pt (ks (b6 ke (af 2) (hM vK)) (lk (b6 kY (af 2) (hM vM))))) (aQ lB) cy)
  (aP (hO (af 0) (af 1) rfl)
  (aP (hO (af 0) (af 2) rfl)
  (aQ (hO (af 0) (eJ aB) rfl))))),?_⟩
 try dsimp only[cG,cH,cI,cJ]
 refine⟨_,I,.inl ⟨_,_,I,I,_,I,fv (by omega) ⟨_,I,_,_,I,I,_,I,fv (by omega) ?_⟩⟩⟩
 refine⟨_,I,_,I,p,C,ai,_,I,aO,T.cl,T.lN,(by show 0<1000;decide),?_⟩
 rw[ahr]
 refine⟨_,I,_,I,p,C,ai,_,I,aG,T.cl,T.yN,(by show 1<1000;decide),?_⟩
 rw[ahs,fX]
 refine⟨UF _,fun l aC=>?_⟩
 have rm:l≠p:=fun z=>by rw[z,aG]at aC;cases aC
 have lJ:H l=av:=by rw[bt rm]at aC;exact aC
 refine⟨_,I,p,C,ai,_,I,(by rw[bt (d1 rm)];exact aG),T.cl,T.lO,(by show 2<1000;decide),?_⟩
 rw[aht]
 refine⟨_,Sub.HS (o:=cZ.lst []) aO lJ (fun b u aj e=>?_) aG (by rw[bt rm];exact aG) trivial,q l lJ⟩
 rw[bt aj,bt (eB e lJ),bt aj]
 exact e
def l0(H:aq)(s C ai aW:ag)(m:Int)(l:ag)(rs:List (List Bool)):Prop:=H s=J (.ins C ai (iD aW m l))/\H l=J (.lst (c2 rs))
noncomputable def BU(row:List Bool):V->Bool
 |.str e=>decide ((aR row).cps.toList<e.cps.toList)
 |_=>au
inductive Qi(C eE:ag)(c:dF)(n:Nat)(vs:List V)(H:aq)(Q:bG)(E:bT):Prop where
 |mk (s ai aW l:ag) (m:Int) (v:V) (g:bN) (d:D) (rs:List (List Bool)) (bg:vs=[.ref s,v]) (al:l0 H s C ai aW m l rs) (aw:b7 c [] H g aW) (bq:kg hasAll g) (b4:bo g<=n) (eb:d4 H d v) (ij:oE d) (oj:rs.length<60) (pe:((b2 fh g d=au/\(bD dv g d).length<=15000000/\(bD dv g d∈rs->Q (.aE aA) H)/\(bD dv g d∉rs->∀gq ss,H gq=av->ss.Pairwise pY->ss.Perm (rs++[bD dv g d])->Q (.aE au) (upd (upd H s (.ins C ai (iD aW m gq))) gq (.lst (c2 ss)))))\/(b2 j7 g d=aA/\E (.ref eE) av H))):Qi C eE c n vs H Q E
def IW(C eE:ag)(c:dF)(n:Nat):b0:=fun vs H Q E=>Qi C eE c n vs H Q E
theorem Tl{f C:ag}(nb:dD mg)(T:my K C)(F:c1 K "put" "Shelf.put" AQ f fd)(pM:wZ P w K mg base (2*n+5) "row" ["self","value"] (fJ c) (fun _=>zf eE c n)):cv P w K mg base (hJ P w) (2*n+6) f fd ["self","value"] (IW C eE c n):=by
 refine F.yS Ky (fun bl A _ s H vs Q E az h=>?_)
 obtain⟨p,ai,aW,l,m,v,g,d,rs,rfl,⟨aO,aC⟩,cW,aT,cS,hd,e8,aZ,q⟩:=h
 obtain⟨xQ,x1,aU,ba⟩:=b7.row g cW
 refine⟨_,(aP (bZ 2 Ky.bB (E6 pM az Iv.x (dw (af 0) I) (ao (af 1) aB) (hk':=by omega)))
  (aP (cz (xA Fs (af 2) (dw (af 0) rfl) (by with_unfolding_all rfl)) (aQ (bx gg)) cy)
  (aP (hO (af 0) (cx WN rfl nb.ahn YI (ao (aS xI (dw (af 0) rfl) (eJ (ao (af 2) aB))) aB)) rfl)
  (aQ (bx gg))))),?_⟩
 try dsimp only[cG,cH,cI,cJ]
 refine⟨_,I,p,C,ai,_,_,I,aO,T.cl,T.lN,CU ..,aW,slot g,xQ,x1,I,aU,ba,_,I,aW,g,v,d,I,cW,aT,cS,hd,e8,?_⟩
 rcases q with⟨al,cB,cg,cj⟩|⟨al,q⟩
 ·refine .inl ⟨al,cB,?_⟩
  generalize bD dv g d=r at cB cg cj ⊢
  by_cases ay:r∈rs
  ·refine⟨_,I,_,I,p,C,ai,_,_,I,aO,T.cl,T.lO,mZ ..,l,c2 rs,I,.inl (bF aC),I,A9 rs,au,(by rw[Bi,fu ay];rfl),eC ?_⟩
   exact⟨H,.refl (cF _),cg ay⟩
  ·refine⟨_,I,_,I,p,C,ai,_,_,I,aO,T.cl,T.lO,mZ ..,l,c2 rs,I,.inl (bF aC),I,A9 rs,aA,(by rw[Bi,gd ay];rfl),dx ?_⟩
   refine⟨_,I,p,C,ai,_,_,I,aO,T.cl,T.lO,mZ ..,_,I,(by show 1<=bU;decide),fun cD yv=>?_⟩
   have oL:=dc (o:=cZ.lst [V.str (aR r)]) yv
   refine⟨l,cD,_,_,I,I,oL _ _ aC,aG,(by rw[i8];exact iE (by show rs.length+1<=_;omega)),fun It acD=>?_⟩
   have eM:c2 rs++[V.str (aR r)]=c2 (rs++[r]):=(Up rs [r]).symm
   rw[eM]
   have Pd:=oL.trans (dc (o:=cZ.lst (c2 (rs++[r]))) acD)
   refine⟨It,rs++[r],I,bF aG,(by rw[ee];show rs.length+1<64;omega),fun ss HE acF yU N9=>?_⟩
   have Pe:=Pd.trans (dc (o:=cZ.lst (c2 ss)) N9)
   have GR:H yU=av:=Pd.free N9
   have OE:yU≠p:=(eB aO GR).symm
   refine⟨_,I,p,C,ai,_,I,Pe _ _ aO,T.cl,T.lO,(by show 3<1000;decide),?_⟩
   rw[ahu]
   refine⟨_,Sub.HS (o:=cZ.lst (c2 ss)) aO GR (fun b u aj e=>?_) aG (by rw[bt OE];exact aG) trivial,cj ay yU ss GR HE acF⟩
   rw[bt aj]
   exact Pe b u e
 .exact .inr ⟨al,H,.refl (cF _),q⟩
theorem Mf{a:ag}(h:H l=J (.lst xs))(x:lp H a o):lp (upd H l (.lst aN)) a o:=by
 induction o with
 |ins C ai fs =>
  have jR:H ai=J (.own a):=x
  show upd H l (.lst aN) ai=J (.own a)
  rw[bt fun z=>by rw[z,h]at jR;cases jR]
  exact jR
 |iP dX u bQ=>exact bQ x
 |_=>trivial
theorem SY(h:H l=J (.lst xs)):cN.Sub H (upd H l (.lst aN)) (upd H l (.lst aN)):=by
 refine .all (fun b o e=>?_) fun c a u e=>?_
 ·by_cases z:b=l
  .subst z;exact⟨_,aG⟩
  .exact⟨o,by rw[bt z];exact e⟩
 ·by_cases z:a=l
  .subst z;rw[aG]at e;cases e;trivial
  ·rw[bt z]at e
   exact Mf h (c a u e)
inductive QG(C eE:ag)(c:dF)(n:Nat)(vs:List V)(H:aq)(Q:bG)(E:bT):Prop where
 |mk (s ai aW l:ag) (m:Int) (v:V) (g:bN) (d:D) (rs:List (List Bool)) (bg:vs=[.ref s,v]) (al:l0 H s C ai aW m l rs) (aw:b7 c [] H g aW) (bq:kg hasAll g) (b4:bo g<=n) (eb:d4 H d v) (ij:oE d) (oj:rs.length<60) (pe:((b2 fh g d=au/\(bD dv g d).length<=15000000/\∃rest,rs=bD dv g d::rest/\Q (.aE au) (upd H l (.lst (c2 rest))))\/(b2 j7 g d=aA/\E (.ref eE) av H))):QG C eE c n vs H Q E
def QF(C eE:ag)(c:dF)(n:Nat):b0:=fun vs H Q E=>QG C eE c n vs H Q E
theorem Y8{f C:ag}(nb:dD mg)(T:my K C)(F:c1 K "take" "Shelf.take" AH f fd)(pM:wZ P w K mg base (2*n+5) "row" ["self","value"] (fJ c) (fun _=>zf eE c n)):cv P w K mg base (hJ P w) (2*n+6) f fd ["self","value"] (QF C eE c n):=by
 refine F.yS Ku (fun bl A _ s H vs Q E az h=>?_)
 obtain⟨p,ai,aW,l,m,v,g,d,rs,rfl,⟨aO,aC⟩,cW,aT,cS,hd,e8,aZ,q⟩:=h
 obtain⟨xQ,x1,aU,ba⟩:=b7.row g cW
 refine⟨_,(aP (bZ 2 Ku.bB (E6 pM az Iv.x (dw (af 0) I) (ao (af 1) aB) (hk':=by omega)))
  (aP (cz (xA Wt (af 2) (dw (af 0) rfl) (by with_unfolding_all rfl)) (aQ (bx gg)) cy)
  (aP (ih (jW PySem.F.plainAttrs_list PySem.F.slot_list_remove PySem.F.type_list_remove Yk (dw (af 0) rfl) (ao (af 2) aB)))
  (aQ (bx gg))))),?_⟩
 try dsimp only[cG,cH,cI,cJ]
 refine⟨_,I,p,C,ai,_,_,I,aO,T.cl,T.lN,CU ..,aW,slot g,xQ,x1,I,aU,ba,_,I,aW,g,v,d,I,cW,aT,cS,hd,e8,?_⟩
 rcases q with⟨al,cB,rest,Oe,cg⟩|⟨al,q⟩
 ·refine .inl ⟨al,cB,?_⟩
  generalize bD dv g d=r at cB Oe ⊢
  subst Oe
  have ay:r∈r::rest:=eI ..
  refine⟨_,I,_,I,p,C,ai,_,_,I,aO,T.cl,T.lO,mZ ..,l,c2 (r::rest),I,.inl (bF aC),I,A9 _,aA,(by rw[Bi,fu ay];rfl),dx ?_⟩
  refine⟨_,I,p,C,ai,_,_,I,aO,T.cl,T.lO,mZ ..,.inl ⟨I,_,bF aC⟩,_,I,l,r::rest,r,0,I,I,aC,I,(fun j cw=>absurd cw (Nat.not_lt_zero _)),by omega,?_⟩
  exact⟨_,SY aC,cg⟩
 .exact .inr ⟨al,H,.refl (cF _),q⟩
inductive PK(C eE:ag)(c:dF)(n:Nat)(vs:List V)(H:aq)(Q:bG)(E:bT):Prop where
 |mk (s ai aW l:ag) (m:Int) (v:V) (g:bN) (d:D) (rs:List (List Bool)) (bg:vs=[.ref s,v]) (al:l0 H s C ai aW m l rs) (aw:b7 c [] H g aW) (bq:kg hasAll g) (b4:bo g<=n) (eb:d4 H d v) (ij:oE d) (oj:((b2 fh g d=au/\(bD dv g d).length<=15000000/\Q (.aE (decide (bD dv g d∈rs))) H)\/(b2 j7 g d=aA/\E (.ref eE) av H))):PK C eE c n vs H Q E
def PJ(C eE:ag)(c:dF)(n:Nat):b0:=fun vs H Q E=>PK C eE c n vs H Q E
theorem Tn{f C:ag}(nb:dD mg)(T:my K C)(F:c1 K "has" "Shelf.has" AR f fd)(pM:wZ P w K mg base (2*n+5) "row" ["self","value"] (fJ c) (fun _=>zf eE c n)):cv P w K mg base (hJ P w) (2*n+6) f fd ["self","value"] (PJ C eE c n):=by
 refine F.yS Wq (fun bl A _ s H vs Q E az h=>?_)
 obtain⟨p,ai,aW,l,m,v,g,d,rs,rfl,⟨aO,aC⟩,cW,aT,cS,hd,e8,q⟩:=h
 obtain⟨xQ,x1,aU,ba⟩:=b7.row g cW
 refine⟨_,(aQ (bx (FW Fs (E6 pM az Iv.x (dw (af 0) I) (ao (af 1) aB) (hk':=by omega)) (dw (af 0) rfl) (by with_unfolding_all rfl)))),?_⟩
 try dsimp only[cG,cH,cI,cJ]
 refine⟨_,I,p,C,ai,_,_,I,aO,T.cl,T.lN,CU ..,aW,slot g,xQ,x1,I,aU,ba,_,I,aW,g,v,d,I,cW,aT,cS,hd,e8,?_⟩
 rcases q with⟨al,cB,q⟩|⟨al,q⟩
 ·refine .inl ⟨al,cB,?_⟩
  refine⟨_,I,p,C,ai,_,_,I,aO,T.cl,T.lO,mZ ..,l,c2 rs,I,.inl (bF aC),I,A9 rs,H,.refl (cF _),?_⟩
  rw[Bi];exact q
 .exact .inr ⟨al,H,.refl (cF _),q⟩
inductive Qv(C:ag)(vs:List V)(H:aq)(Q:bG)(E:bT):Prop where
 |mk (s ai aW l:ag) (m:Int) (rs:List (List Bool)) (bg:vs=[.ref s]) (al:l0 H s C ai aW m l rs) (aw:rs.length<=1000) (bq:Q (.int ((rs.length:Nat):Int)) H):Qv C vs H Q E
def I0(C:ag):b0:=fun vs H Q E=>Qv C vs H Q E
theorem Tj(nb:dD mg)(T:my K C)(F:c1 K "size" "Shelf.size" AI f fd):cv P w K mg base c8 1 f fd ["self"] (I0 C):=by
 refine F.fA VW (fun bl A _ s H vs Q E az h=>?_)
 obtain⟨p,ai,aW,l,m,rs,rfl,⟨aO,aC⟩,aZ,q⟩:=h
 refine⟨_,(aQ (bx (cx ep I nb.ec ef (ao (dw (af 0) I) aB)))),?_⟩
 try dsimp only[cG,cH,cI,cJ]
 refine⟨_,I,p,C,ai,_,_,I,aO,T.cl,T.lO,mZ ..,_,_,I,.inl ⟨_,bF aC,I⟩,H,.refl (cF _),?_⟩
 rw[i8];exact q
noncomputable def pC(st:List Bool)(b1:V)(r:List Bool):Bool:=!decide ((aR r).cps.toList<(aR st).cps.toList)&&BU r b1
noncomputable def Cw(st:List Bool)(b1:V):V->Bool
 |.str z=>!decide (z.cps.toList<(aR st).cps.toList)&&(match b1 with|.str e=>decide (z.cps.toList<e.cps.toList)|_=>au)
 |_=>aA
theorem Ln(st:List Bool)(b1:V)(r:List Bool):Cw st b1 (.str (aR r))=pC st b1 r:=by
 cases b1<;>rfl
theorem XK(st:List Bool)(b1:V)(g:D->List Bool)(aK:List D):List.map id (List.filter (Cw st b1) (c2 (aK.map g)))=c2 ((aK.filter fun d=>pC st b1 (g d)).map g):=by
 rw[List.map_id]
 unfold c2
 rw[fV,fV,List.filter_map,show(Cw st b1 ∘ ((fun r=>V.str (aR r)) ∘ g))=fun d=>pC st b1 (g d)from funext fun d=>Ln st b1 (g d)]
inductive QH(C:ag)(c:dF)(n:Nat)(vs:List V)(H:aq)(Q:bG)(E:bT):Prop where
 |mk (s ai aW l:ag) (m:Int) (g:bN) (aK:List D) (st:List Bool) (b1:V) (bg:vs=[.ref s,.str (aR st),b1]) (al:l0 H s C ai aW m l (aK.map (bD dv g))) (aw:b7 c [] H g aW) (bq:kg hasAll g) (b4:bo g<=n) (eb:(∀d,d∈aK->b2 fh g d=au/\(bD dv g d).length<=15000000)) (ij:aK.length<=60) (oj:(b1=.bc\/∃e,b1=.str (aR e))) (pe:∀r ws H',H r=av->Ext H H'->H' r=J (.lst ws)->cm (eP.of H) H' (aK.filter fun d=>pC st b1 (bD dv g d)) ws->Q (.ref r) H'):QH C c n vs H Q E
def I4(C:ag)(c:dF)(n:Nat):b0:=fun vs H Q E=>QH C c n vs H Q E
theorem Ti(nb:dD mg)(T:my K C)(F:c1 K "told" "Shelf.told" AG f fd)(DN:bp P w K mg base (2*n+6) "read_all" ["form","signs"] (Qj hasAll fh dv c n)):cv P w K mg base c8 (2*n+7) f fd ["self","start","end"] (I4 C c n):=by
 refine F.fA Kt (fun bl A _ s H vs Q E az h=>?_)
 obtain⟨p,ai,aW,l,m,g,aK,st,b1,rfl,⟨aO,aC⟩,cW,aT,cS,abX,aZ,abV,q⟩:=h
 refine⟨_,(aP (E5 (i:=3)  ["row"] [(1,"start"),(2,"end")] Kt.bB I I I (by decide+kernel) ⟨I,.inl I,I,.inl I,trivial⟩ (iT (dw (af 0) I)) (fun _ _ _ _ _=>(eo (i:=0) (show(["row","start","end"]:List ah).Nodup by decide+kernel))) (fun _ _ _ _ _=>(Mb (gi.pt (o4 (b6 aeS (af 1) (af 0)) (p8 (gi.pt (ks (b6 xH (af 2) mv) (lk (b6 ke (af 0) (af 2)))))))))) (fun _ _ _ _ _=>(af 0)))
  (aQ (bx (hZ ["row"] [(0,"self")] rfl (by decide+kernel) ⟨rfl,.inl rfl,trivial⟩ (iT (af 3)) (fun _ _ _ _ _=>(eo (i:=0) (show(["row","self"]:List ah).Nodup by decide+kernel))) (fun _ _ _ _ _=>hN) (fun _ _ _ _ _=>(bX DN az (ao (dw (af 1) rfl) (ao (af 0) aB)) (hk:=by omega))))))),?_⟩
 try dsimp only[cG,cH,cI,cJ]
 refine gU fun N cK =>.inl ⟨_,I,p,C,ai,_,_,I,aO,T.cl,T.lO,mZ ..,l,I,⟨_,bF aC⟩,fun dC e9=>?_⟩
 refine Xl (K:=K) (a:=l) (xs:=c2 (aK.map (bD dv g))) (Cw st b1) id (fun ae=>∃z,ae=[z,J (.str (aR st)),J b1]) (by rw[i8,cq];exact iE (by omega)) ⟨_,I⟩ e9 (bF aC) ?_ ?_
 ·rintro x ay bO H1 ⟨z,rfl⟩ d3 R kt b8
  obtain⟨r,rn,rfl⟩:=List.mem_map.mp ay
  have b8:=b8 [J (.str (aR r)),J (.str (aR st)),J b1] ⟨_,rfl⟩
  rw[Ln]at b8
  refine⟨_,I,_,I,.inr ⟨_,_,I,I,_,I,?_⟩⟩
  have aU:pC st b1 r=(!decide ((aR r).cps.toList<(aR st).cps.toList)&&BU r b1):=rfl
  cases al:(!decide ((aR r).cps.toList<(aR st).cps.toList))with
  |false =>
   rw[aU,al,Bool.false_and,if_neg (by decide)]at b8
   exact dx (dx b8)
  | true =>
   rw[aU,al,Bool.true_and]at b8
   refine eC ?_
   rcases abV with rfl|⟨e,rfl⟩
   ·rw[show BU r V.bc=au from rfl,if_pos rfl]at b8
    exact⟨_,I,I,_,I,hC I (eC ⟨_,I,b8⟩)⟩
   ·refine⟨_,I,I,_,I,fv (fun z=>nomatch z) ⟨_,I,_,I,.inr ⟨_,_,I,I,_,I,?_⟩⟩⟩
    have ba:BU r (V.str (aR e))=decide ((aR r).cps.toList<(aR e).cps.toList):=rfl
    rw[ba]at b8
    cases aw:decide ((aR r).cps.toList<(aR e).cps.toList)with
    |false =>
     rw[aw,if_neg (by decide)]at b8
     exact dx b8
    |true =>
     rw[aw,if_pos rfl]at b8
     exact eC ⟨_,I,b8⟩
 rw[XK]
 obtain⟨er,tq⟩:∃er,er=aK.filter fun d=>pC st b1 (bD dv g d):=⟨_,rfl⟩
 rw[<-tq]at q ⊢
 have abZ:∀d,d∈er->b2 fh g d=au/\(bD dv g d).length<=15000000:=fun d hd=>abX d (by rw[tq]at hd;exact(List.mem_filter.mp hd).1)
 have Ch:er.length<=60:=by rw[tq];exact dj (List.length_filter_le ..) aZ
 have ic:Ext H (upd H dC (.lst (c2 (er.map (bD dv g))))):=Ext.lst e9
 have Gk:upd H dC (.lst (c2 (er.map (bD dv g)))) dC=J (.lst (c2 (er.map (bD dv g)))):=aG
 generalize upd H dC (.lst (c2 (er.map (bD dv g))))=H1 at ic Gk ⊢
 refine cK _ _ (.inl ⟨_,I,dC,I,⟨_,bF Gk⟩,fun hq l8=>?_⟩)
 refine A4 (K:=K) (a:=dC) (xs:=c2 (er.map (bD dv g))) (fun i aN ax=>Ext H1 ax/\cm (eP.o5 hq (eP.of H)) ax (er.take i) aN) (fun ae=>∃z,ae=[z,J (.ref p)]) (by rw[i8,cq];omega) ⟨_,I⟩ ?_ ⟨Ext.lst l8,I⟩ ?_ ?_
 ·rintro i aN ax ⟨gj,_⟩
  exact bF (gj.s _ _ Gk)
 ·rintro i x ay aN bO ax ⟨z,rfl⟩ ⟨gj,et⟩ mH _ R b8
  obtain⟨d,hd,rfl⟩:∃d,er[i]?=J d/\x=V.str (aR (bD dv g d)):=by
   rw[e4,e4]at ay
   cases e:er[i]? with
   |none=>rw[e]at ay;cases ay
   |some d=>rw[e]at ay;exact⟨d,I,(gy ay).symm⟩
  obtain⟨f1,f2⟩:=abZ d (hY hd)
  have n8:=ic.trans gj
  refine⟨_,I,p,C,ai,_,_,I,n8.s _ _ aO,T.cl,T.lN,CU ..,_,I,aW,g,d,I,b7.keep (fun b u _ e=>n8.s b u e) g cW,aT,cS,f2,f1,fun v bJ ie b5=>?_⟩
  have nv:=ie.s _ _ mH
  refine b8 _ _ _ ⟨_,I⟩ nv ⟨Ext.set l8 (gj.trans ie) nv,?_⟩
  have kB:er.take (i+1)=er.take i++[d]:=by rw[lu,hd];rfl
  rw[kB]
  have k:∀b u,b∉(eP.o5 hq (eP.of H))->bJ b=J u->upd bJ hq (.lst (aN++[v])) b=J u:=fun b u nb e=>by
   rw[bt fun z=>nb (show b=hq\/b∈eP.of H from .inl z)];exact e
  exact cm.snoc (cQ.keep k _ (cQ.weak (X:=(eP.o5 hq (eP.of H))) (Y:=eP.of ax) (fun x ay=>(show x=hq\/x∈eP.of H from ay).elim (fun e=>by rw[e];exact⟨_,mH⟩) fun⟨o,e⟩=>⟨o,n8.s _ _ e⟩) _ b5)) _ (cm.keep k _ (cm.keep (fun b u _ e=>ie.s b u e) _ et))
 rintro aN ax mh abq ⟨gj,et⟩
 rw[i8,cq,List.take_length]at et
 exact⟨_,(ic.trans gj).sub,q hq aN ax (ic.s.free l8) (ic.trans gj) abq (cm.weak (fun x ay=>eP.eV ay) _ et)⟩
structure vb(rs:List (List Bool)):Prop where
 a:nT rs
 n:rs.length<=62
 b:(rs.map List.length).sum<=15000000
noncomputable def jO(n m:Nat):Nat:=(cO.Range.rangeSize 0 (n:Int) (m:Int)).toNat
noncomputable def chunk(rs:List (List Bool))(m i:Nat):List (List Bool):=(rs.drop (i*m)).take m
noncomputable def oF(rs:List (List Bool))(m:Nat):List (List Bool):=(List.range (jO rs.length m)).map fun i=>yW (chunk rs m i)
noncomputable def tM(n m:Nat):Nat:=(cO.Range.rangeSize (m:Int) (n:Int) (m:Int)).toNat
noncomputable def CQ(a b:List Bool):List Bool:=b.take (fP a b+1)
noncomputable def pA(rs:List (List Bool))(m:Nat):List (List Bool):=(List.range (tM rs.length m)).map fun i=>CQ (rs.getD (m+i*m-1) []) (rs.getD (m+i*m) [])
theorem MJ{n:Nat}(hm:0<m):i<jO n m↔i*m<n:=by
 unfold jO cO.Range.rangeSize
 rw[if_pos (by omega)]
 by_cases h:(0:Int)<(n:Int)
 ·rw[if_pos h]
  have e:((n:Int)-0-1)/(m:Int)=(((n-1)/m:Nat):Int):=by
   rw[show(n:Int)-0-1=((n-1:Nat):Int) by omega];exact(Int.natCast_ediv _ _).symm
  rw[e]
  have this:∀d:Nat,((d:Int)+1).toNat=d+1:=fun d=>by omega
  rw[this,Nat.lt_succ_iff,Nat.le_div_iff_mul_le hm]
  omega
 ·rw[if_neg h]
  have:n=0:=by omega
  subst this
  simp
theorem MH{n:Nat}(hm:0<m):i<tM n m↔m+i*m<n:=by
 unfold tM cO.Range.rangeSize
 rw[if_pos (by omega)]
 by_cases h:(m:Int)<(n:Int)
 ·rw[if_pos h]
  have e:((n:Int)-(m:Int)-1)/(m:Int)=(((n-m-1)/m:Nat):Int):=by
   rw[show(n:Int)-(m:Int)-1=((n-m-1:Nat):Int) by omega];exact(Int.natCast_ediv _ _).symm
  rw[e]
  have this:∀d:Nat,((d:Int)+1).toNat=d+1:=fun d=>by omega
  rw[this,Nat.lt_succ_iff,Nat.le_div_iff_mul_le hm]
  omega
 ·rw[if_neg h]
  constructor
  .intro z;exact absurd z (by simp)
  .intro z;omega
theorem F3{n:Nat}(hm:0<m):jO n m<=n:=by
 rcases hv n (jO n m)with z|z
 ·have:=(MJ hm).mp z
  have aw:=Nat.le_mul_of_pos_right n hm
  omega
 .exact z
theorem F2{n:Nat}(hm:0<m):tM n m<=n:=by
 rcases hv n (tM n m)with z|z
 ·have:=(MH hm).mp z
  have aw:=Nat.le_mul_of_pos_right n hm
  omega
 .exact z
theorem YE(rs:List (List Bool))(m i:Nat)(h:i*m<rs.length):o7 (c2 rs) (J ((i*m:Nat):Int)) (J (((i*m:Nat):Int)+(m:Int)))=c2 (chunk rs m i):=by
 unfold o7 chunk
 have al:el.fF (c2 rs).length 0 (J ((i*m:Nat):Int))=i*m:=by
  unfold el.fF
  dsimp only
  rw[if_neg (by omega),i8];omega
 have aw:el.fF (c2 rs).length (c2 rs).length (J (((i*m:Nat):Int)+(m:Int)))=min (i*m+m) rs.length:=by
  unfold el.fF
  dsimp only
  rw[if_neg (by omega),i8];omega
 rw[al,aw]
 unfold c2
 rw[<-List.map_drop,<-List.map_take]
 congr 1
 rcases Nat.le_total (i*m+m) rs.length with z|z
 .rw[Nat.min_eq_left z,Nat.add_sub_cancel_left]
 .rw[Nat.min_eq_right z,UV (by rw[kv];exact cE _),UV (by rw[kv];omega)]
theorem LA(rs:List (List Bool))(m i:Nat):(chunk rs m i).Sublist rs:=(List.take_sublist ..).trans (List.drop_sublist ..)
inductive P9(C:ag)(vs:List V)(H:aq)(Q:bG)(E:bT):Prop where
 |mk (s ai aW l:ag) (m:Nat) (rs:List (List Bool)) (bg:vs=[.ref s]) (al:l0 H s C ai aW ((m:Nat):Int) l rs) (aw:2<=m) (bq:m<=20) (b4:vb rs) (eb:∀D,H D=av->Q (.ref D) (upd H D (.lst (c2 (oF rs m))))):P9 C vs H Q E
def P8(C:ag):b0:=fun vs H Q E=>P9 C vs H Q E
inductive Qd(C:ag)(vs:List V)(H:aq)(Q:bG)(E:bT):Prop where
 |mk (s ai aW l:ag) (m:Nat) (rs:List (List Bool)) (bg:vs=[.ref s]) (al:l0 H s C ai aW ((m:Nat):Int) l rs) (aw:2<=m) (bq:m<=20) (b4:vb rs) (eb:∀D,H D=av->Q (.ref D) (upd H D (.lst (c2 (pA rs m))))):Qd C vs H Q E
def Qc(C:ag):b0:=fun vs H Q E=>Qd C vs H Q E
theorem Y9(nb:dD mg)(T:my K C)(F:c1 K "pages" "Shelf.pages" zY f fd)(DL:bp P w K mg base 4 "page_of" ["rows"] P6):cv P w K mg base c8 5 f fd ["self"] (P8 C):=by
 refine F.fA Vy (fun bl A _ s H vs Q E az h=>?_)
 obtain⟨p,ai,aW,l,m,rs,rfl,⟨aO,aC⟩,aw,j9,R,q⟩:=h
 have aZ:=R.n
 refine⟨_,(aQ (bx (hZ ["k"] [(0,"self")] I (by decide+kernel) ⟨I,.inl I,trivial⟩ (Lg I nb.lP (ao aD (ao (cx ep I nb.ec ef (ao (dw (af 0) I) aB)) (ao (dw (af 0) I) aB)))) (fun _ _ _ _ _=>(eo (i:=0) (show(["k","self"]:List ah).Nodup by decide+kernel))) (fun _ _ _ _ _=>hN) (fun _ _ _ _ _=>(bX DL az (ao (n6 oJ (dw (af 1) rfl) (nf (af 0)) (nf (aS ed (af 0) (dw (af 1) rfl)))) aB)))))),?_⟩
 try dsimp only[cG,cH,cI,cJ]
 refine⟨_,I,p,C,ai,_,_,I,aO,T.cl,T.lO,mZ ..,_,_,I,.inl ⟨_,bF aC,I⟩,?_⟩
 refine⟨_,I,p,C,ai,_,_,I,aO,T.cl,T.yN,CV ..,0,_,((m:Nat):Int),I,⟨by omega,by omega,by omega,by rw[i8];omega,by omega,by omega⟩,fun D c0=>?_⟩
 have b1:(cO.Range.rangeSize 0 (((c2 rs).length:Nat):Int) ((m:Nat):Int)).toNat=jO rs.length m:=by rw[i8];rfl
 rw[b1]
 have acs:=F3 (n:=rs.length) (m:=m) (by omega)
 refine Lz (fun i=>V.str (aR (yW (chunk rs m i)))) (fun ae=>∃z,ae=[z,J (.ref p)]) (by omega) ⟨_,I⟩ c0 ?_ ?_
 ·rintro i aJ bO H1 ⟨z,rfl⟩ d3 kt b8
  have ts:=(MJ (by omega)).mp aJ
  have j3:(0:Int)+((i:Nat):Int)*((m:Nat):Int)=((i*m:Nat):Int):=by rw[Int.zero_add];exact(Int.natCast_mul i m).symm
  rw[j3]
  have mP:=d3 _ _ aO
  have jx:=d3 _ _ aC
  refine⟨_,I,p,C,ai,_,_,I,mP,T.cl,T.lO,mZ ..,_,I,_,I,_,I,_,I,p,C,ai,_,_,I,mP,T.cl,T.yN,CV ..,.inl ⟨_,_,I,I,?_⟩⟩
  refine⟨_,I,.inl ⟨l,_,I,bF jx,fun cD yv=>?_⟩⟩
  rw[YE rs m i ts]
  have sub:=LA rs m i
  have mc:=sub.length_le
  refine⟨cD,chunk rs m i,I,aG,by omega,dj (L8 sub) R.b,BG.mpr ((BG.mp R.a).sublist sub),?_⟩
  exact b8 _ _ ⟨_,I⟩ (dc yv)
 ·intro H' jg ix
  have e:(List.range (jO rs.length m)).map (fun i=>V.str (aR (yW (chunk rs m i))))=c2 (oF rs m):=by unfold c2 oF;rw[fV];rfl
  rw[e]at ix
  exact⟨_,.new c0 jg ix trivial,q D c0⟩
theorem W5(nb:dD mg)(T:my K C)(F:c1 K "partings" "Shelf.partings" Aj f fd)(DM:bp P w K mg base 3 "parting_of" ["one","other"] Qa):cv P w K mg base c8 4 f fd ["self"] (Qc C):=by
 refine F.fA UJ (fun bl A _ s H vs Q E az h=>?_)
 obtain⟨p,ai,aW,l,m,rs,rfl,⟨aO,aC⟩,aw,j9,R,q⟩:=h
 have aZ:=R.n
 refine⟨_,(aQ (bx (hZ ["k"] [(0,"self")] I (by decide+kernel) ⟨I,.inl I,trivial⟩ (Lg I nb.lP (ao (dw (af 0) I) (ao (cx ep I nb.ec ef (ao (dw (af 0) I) aB)) (ao (dw (af 0) I) aB)))) (fun _ _ _ _ _=>(eo (i:=0) (show(["k","self"]:List ah).Nodup by decide+kernel))) (fun _ _ _ _ _=>hN) (fun _ _ _ _ _=>(bX DM az (ao (cV cX (dw (af 1) rfl) (aS gb (af 0) aD)) (ao (cV cX (dw (af 1) rfl) (af 0)) aB))))))),?_⟩
 try dsimp only[cG,cH,cI,cJ]
 refine⟨_,I,p,C,ai,_,_,I,aO,T.cl,T.yN,CV ..,_,I,p,C,ai,_,_,I,aO,T.cl,T.lO,mZ ..,_,_,I,.inl ⟨_,bF aC,I⟩,?_⟩
 refine⟨_,I,p,C,ai,_,_,I,aO,T.cl,T.yN,CV ..,((m:Nat):Int),_,((m:Nat):Int),I,⟨by omega,by omega,by omega,by rw[i8];omega,by omega,by omega⟩,fun D c0=>?_⟩
 have b1:(cO.Range.rangeSize ((m:Nat):Int) (((c2 rs).length:Nat):Int) ((m:Nat):Int)).toNat=tM rs.length m:=by rw[i8];rfl
 rw[b1]
 have acs:=F2 (n:=rs.length) (m:=m) (by omega)
 refine Lz (fun i=>V.str (aR (CQ (rs.getD (m+i*m-1) []) (rs.getD (m+i*m) [])))) (fun ae=>∃z,ae=[z,J (.ref p)]) (by omega) ⟨_,I⟩ c0 ?_ ?_
 ·rintro i aJ bO H1 ⟨z,rfl⟩ d3 kt b8
  have ts:=(MH (by omega)).mp aJ
  have j3:((m:Nat):Int)+((i:Nat):Int)*((m:Nat):Int)=((m+i*m:Nat):Int):=by rw[Int.natCast_add,Int.natCast_mul]
  rw[j3]
  have mP:=d3 _ _ aO
  have jx:=d3 _ _ aC
  generalize hk:m+i*m=k at ts b8 ⊢
  have ajW:0<k:=by omega
  have abG:=dz (xs:=c2 rs) (j:=k-1) (Kd (c4 (show k-1<rs.length by omega)))
  have abH:=dz (xs:=c2 rs) (j:=k) (Kd (c4 ts))
  have g1:rs.getD (k-1) []=rs[k-1]:=by simp[List.getD,c4 (show k-1<rs.length by omega)]
  have g2:rs.getD k []=rs[k]:=by simp[List.getD,c4 ts]
  rw[g1,g2]at b8
  have aaj:((k:Nat):Int)-1=((k-1:Nat):Int):=by omega
  have hz:=dj (vu (List.getElem_mem (show k-1<rs.length by omega))) R.b
  have e6:=dj (vu (List.getElem_mem ts)) R.b
  have lt:=List.pairwise_iff_getElem.mp (BG.mp R.a) (k-1) k (by omega) ts (by omega)
  refine⟨_,I,p,C,ai,_,_,I,mP,T.cl,T.lO,mZ ..,_,I,_,_,I,I,.inl (.inl ⟨_,_,_,_,I,I,bF jx,(by rw[aaj];exact abG),?_⟩)⟩
  refine⟨_,I,p,C,ai,_,_,I,mP,T.cl,T.lO,mZ ..,_,I,.inl (.inl ⟨_,_,_,_,I,I,bF jx,abH,rs[k-1],rs[k],I,by omega,by omega,lt,?_⟩)⟩
  exact b8 _ _ ⟨_,I⟩ (cF _)
 ·intro H' jg ix
  have e:(List.range (tM rs.length m)).map (fun i=>V.str (aR (CQ (rs.getD (m+i*m-1) []) (rs.getD (m+i*m) []))))=c2 (pA rs m):=by unfold c2 pA;rw[fV];rfl
  rw[e]at ix
  exact⟨_,.new c0 jg ix trivial,q D c0⟩
theorem YT(h:H l=J (.lst xs))(X:Ext (upd H l (.lst aN)) H'):cN.Sub H H' H':=by
 refine .all (fun b o e=>?_) fun c=>X.c fun a u e=>?_
 ·by_cases z:b=l
  .subst z;exact⟨_,X.s _ _ aG⟩
  .exact⟨o,X.s _ _ (by rw[bt z];exact e)⟩
 ·by_cases z:a=l
  .subst z;rw[aG]at e;cases e;trivial
  ·rw[bt z]at e
   exact Mf h (c a u e)
noncomputable def q9:List Bool:=[au,aA,aA,aA,aA,aA,aA,aA,aA,aA,au]
inductive Pj(cn:ag)(c:dF)(n:Nat)(vs:List V)(H:aq)(Q:bG)(E:bT):Prop where
 |mk (s ai aW l:ag) (m:Int) (v:V) (g:bN) (d:D) (rs:List (List Bool)) (oQ:Nat) (bg:vs=[.ref s,.int ((oQ:Nat):Int),v]) (al:oQ<3) (aw:l0 H s cn ai aW m l rs) (bq:b7 c [] H g aW) (b4:kg hasAll g) (eb:bo g<=n) (ij:d4 H d v) (oj:oE d) (pe:rs.length<60) (rf:((b2 j7 g d=aA/\∀r H',Ext H H'->H' r=J (.lst (q9.map V.aE))->Q (.ref r) H')\/ (b2 fh g d=au/\(bD dv g d).length<=15000000/\oQ≠1/\bD dv g d∈rs/\∀r H',Ext H H'->H' r=J (.lst [])->Q (.ref r) H')\/ (b2 fh g d=au/\(bD dv g d).length<=15000000/\oQ=1/\∃rest,rs=bD dv g d::rest/\∀r H',Ext (upd H l (.lst (c2 rest))) H'->H' r=J (.lst [])->Q (.ref r) H'))):Pj cn c n vs H Q E
def IH(cn:ag)(c:dF)(n:Nat):b0:=fun vs H Q E=>Pj cn c n vs H Q E
theorem VH{f:ag}{c:dF}{fd:ho}{n:Nat}(td:mg "RiseError"=J (.ref iH))(wO:ExcC K iH)(wQ:zt K (.ref iH)=J (.type "type"))(acn:pL K eE (.ref iH)=J au)(HZ:w8 K cs eE q9)(eg:ff K cn)
  (F:dS K mg "_law_asked" EX ["_law_shelf","_law_way","_law_value_here"] f fd) (zP:p1 P w K mg base (2*n+6) cn "put" ["self","value"] (IW cn eE c n)) (D4:p1 P w K mg base (2*n+6) cn "take" ["self","value"] (QF cn eE c n)) (D3:p1 P w K mg base (2*n+6) cn "has" ["self","value"] (PJ cn eE c n)) (uE:bp P w K mg base 1 "_law_kinds" ["_law_kept"] (IP K cs)) :
  bp P w K mg base (2*n+7) "_law_asked" ["_law_shelf","_law_way","_law_value_here"] (IH cn c n):=by
 refine F.ez AA (fun bl A _ s H vs Q E az h=>?_)
 obtain⟨bS,ai,aW,l,m,v,g,d,rs,oQ,rfl,hw,hs,cW,aT,cS,hd,e8,aZ,q⟩:=h
 obtain⟨qT,x3⟩:∃qT:St->bT,qT=fun ae Gf dd H'=>Gf=.ref eE/\dd=av/\H'=H/\ae=[J (.ref bS),J (.int ((oQ:Nat):Int)),J v,J .bc,av]/\∀r H',Ext H H'->H' r=J (.lst (q9.map V.aE))->Q (.ref r) H':=⟨_,rfl⟩
 refine⟨_,(aP (bZ 3 AA.bB mv)
  (aP (Mz (i:=4) (Eh:=qT) (fun _=>(aP (cz (b6 dk (af 1) aD) (aQ (ih (FF zP eg az A0 (af 0) (ao (af 2) aB) (hk':=by omega)))) cy)
   (aP (cz (b6 dk (af 1) aD) (aQ (ih (FF D4 eg az A0 (af 0) (ao (af 2) aB) (hk':=by omega)))) cy)
   (aQ (cz (b6 dk (af 1) aD) (aQ (ih (FF D3 eg az A0 (af 0) (ao (af 2) aB) (hk':=by omega)))) cy)))))
   (fun _ _=>(aQ (bZ 3 AA.bB (af 4)))) td wO wQ AA.bB)
  (aQ (bx (bX uE az (ao (af 3) aB) (hk:=by omega)))))),?_⟩
 try dsimp only[cG,cH,cI,cJ]
 refine gU fun Sn x7=>x7 _ _ ?_
 clear x7
 refine gU fun N cK=>⟨?_,fun bR rZ d' H' a pf bh=>?_⟩
 ·have good:(∀r H',Ext H H'->H' r=J (.lst [])->Q (.ref r) H')->N [J (.ref bS),J (.int ((oQ:Nat):Int)),J v,J .bc,av] H:=fun k=>cK _ _ ⟨_,rfl,.bc,rfl,.inl ⟨rfl,fun p aO=>⟨_,(Ext.lst aO).sub,k p _ (Ext.lst aO) aG⟩⟩⟩
  have bad:(∀r H',Ext H H'->H' r=J (.lst (q9.map V.aE))->Q (.ref r) H')->qT [J (.ref bS),J (.int ((oQ:Nat):Int)),J v,J .bc,av] (.ref eE) av H:=fun k=>by subst x3;exact⟨I,I,I,I,k⟩
  have ac2:oQ=0\/oQ=1\/oQ=2:=by omega
  rcases ac2 with rfl|rfl|rfl
  ·refine gU fun xd nw=>⟨_,I,I,_,I,hC I ⟨_,I,bS,ai,_,I,hs.1,oK ..,_,I,bS,ai,aW,l,m,v,g,d,rs,I,hs,cW,aT,cS,hd,e8,aZ,?_⟩⟩
   rcases q with⟨al,q⟩|⟨al,aw,_,gp,q⟩|⟨_,_,z,_⟩
   .exact .inr ⟨al,bad q⟩
   .exact .inl ⟨al,aw,fun _=>nw _ _ (gU fun JP x8=>⟨_,I,I,_,I,fv (fun z=>nomatch V.int.inj z) (x8 _ _ ⟨_,I,I,_,I,fv (fun z=>nomatch V.int.inj z) (good q)⟩)⟩),fun z=>absurd gp z⟩
   .cases z
  ·refine gU fun xd nw=>⟨_,I,I,_,I,fv (fun z=>nomatch V.int.inj z) (nw _ _ ?_)⟩
   refine gU fun JP x8=>⟨_,I,I,_,I,hC I ⟨_,I,bS,ai,_,I,hs.1,oK ..,_,I,bS,ai,aW,l,m,v,g,d,rs,I,hs,cW,aT,cS,hd,e8,aZ,?_⟩⟩
   rcases q with⟨al,q⟩|⟨_,_,z,_⟩|⟨al,aw,_,rest,rn,q⟩
   .exact .inr ⟨al,bad q⟩
   .exact absurd I z
   .refine .inl ⟨al,aw,rest,rn,x8 _ _ ⟨_,I,I,_,I,fv (fun z=>nomatch V.int.inj z) (cK _ _ ⟨_,I,.bc,I,.inl ⟨I,fun p aO=>⟨_,YT hs.2 (Ext.lst aO),q p _ (Ext.lst aO) aG⟩⟩⟩)⟩⟩
  ·refine gU fun xd nw=>⟨_,I,I,_,I,fv (fun z=>nomatch V.int.inj z) (nw _ _ ?_)⟩
   refine gU fun JP x8=>⟨_,I,I,_,I,fv (fun z=>nomatch V.int.inj z) (x8 _ _ ?_)⟩
   refine⟨_,I,I,_,I,hC I ⟨_,I,bS,ai,_,I,hs.1,oK ..,_,I,bS,ai,aW,l,m,v,g,d,rs,I,hs,cW,aT,cS,hd,e8,?_⟩⟩
   rcases q with⟨al,q⟩|⟨al,aw,_,gp,q⟩|⟨_,_,z,_⟩
   .exact .inr ⟨al,bad q⟩
   .exact .inl ⟨al,aw,good q⟩
   .cases z
 ·subst x3
  obtain⟨hc,rfl,rfl,rfl,q⟩:=pf
  injection hc with hc
  subst hc
  have gj:=Ext.exc (C:=rZ) (d:=av) bh
  refine⟨acn,_,I,cK _ _ ⟨_,I,.ref a,I,.inr ⟨a,rZ,av,q9,I,aG,.inl I,HZ,fun p aO=>⟨_,(gj.trans (Ext.lst aO)).sub,q p _ (gj.trans (Ext.lst aO)) aG⟩⟩⟩⟩
mutual
theorem qa:∀(f:bN)(d:D),gB f->b2 fh f d=au->oE d
 | .bare k,d,_,h=>by
  rw[sL]at h
  rcases xX k with rfl|rfl|rfl|rfl
  .cases d<;>first|trivial|cases h
  .cases d<;>first|trivial|cases h
  ·cases d with
   |int i =>
    have h:ib i:=lr h
    have al:=h.1
    have aw:=h.2
    show i.natAbs<2^390
    refine Nat.lt_of_le_of_lt (m:=2^255) ?_ (by decide+kernel)
    omega
   |_=>cases h
  ·have h:fh d=au:=by cases d<;>exact h
   obtain⟨p,q,rfl,al,aw,bq,b4,eb⟩:=xn h
   exact⟨bq.1,bq.2,trivial⟩
 | .sp a b,d,g,h=>by
  rw[b2]at h
  rw[gB]at g
  cases d with
  |int i =>
   have h:a<=i/\i<=b:=lr h
   have al:=h.1
   have aw:=h.2
   have g3:=g.2.2.1
   have tb:=g.2.2.2
   show i.natAbs<2^390
   refine Nat.lt_of_le_of_lt (m:=10^58) ?_ (by decide+kernel)
   omega
  |_=>cases h
 |.le s,d,_,h=>by
  rw[b2]at h
  cases d<;>first|trivial|cases h
 | .one k f,d,g,h=>by
  rw[b2]at h
  rw[gB]at g
  unfold Iq at h
  rcases vI k with rfl|rfl|rfl
  ·rw[if_pos rfl]at h
   unfold rA at h
   split at h
   .trivial
   .exact⟨qa f _ g h,trivial⟩
   .cases h
  ·rw[if_neg (by decide),if_pos rfl]at h
   unfold wq at h
   split at h
   ·rename_i ds
    have h:=nc.mp h
    exact Mg ds fun x ay=>qa f x g (i5.mp h.2 x ay)
   .cases h
  ·rw[if_neg (by decide),if_neg (by decide)]at h
   exact qa f d g h
 | .two k ns fs,d,g,h=>by
  rw[b2]at h
  rw[gB]at g
  by_cases z:k=0
  ·rw[if_pos z]at h
   cases d with
   |tup ds=>exact LW fs ds g.2.2 h
   |_=>cases h
  ·rw[if_neg z]at h
   unfold vG at h
   split at h
   .exact⟨trivial,LX fs ns _ _ g.2.2 h,trivial⟩
   .cases h
theorem LW:∀(fs:List bN)(ds:List D),ji fs->fy fh fs ds=au->rH ds
 |[],[],_,h=>trivial
 |[],d::ds,_,h=>by rw[fy]at h;cases h
 |f::fs,[],_,h=>trivial
 |f::fs,d::ds,g,h=>by
  rw[fy]at h
  rw[ji]at g
  have h:(b2 fh f d&&fy fh fs ds)=au:=h
  obtain⟨al,aw⟩:=nc.mp h
  exact⟨qa f d g.1 al,LW fs ds g.2 aw⟩
theorem LX:∀(fs:List bN)(ns:List ah)(n:ah)(x:D),ji fs->jv fh fs ns n x=au->oE x
 |[],ns,n,x,_,h=>by rw[jv]at h;cases h
 | f::fs,ns,n,x,g,h=>by
  rw[jv]at h
  rw[ji]at g
  by_cases z:ns.head?=J n
  ·rw[if_pos z]at h
   exact qa f x g.1 h
  ·rw[if_neg z]at h
   exact LX fs ns.tail n x g.2 h
end
noncomputable def vF:List Bool:=[aA,aA,aA,aA,au,aA,aA,aA,aA,aA,au]
def IY(oT C:ag):b0:=fun vs H _ E=>∃(p ai aW:ag)(m:Int),vs=[.ref p,.ref aW,.int m]/\H p=J (.ins C ai [])/\(m<2\/20<m)/\E (.ref oT) av H
theorem Xo{f C:ag}(Jr:Dt K oT qd "ValueError.__new__"=au)(B2:mg "NoForm"=J (.ref oT))(vK:ek mg "LEAST_ROOM" (.int 2))(vM:ek mg "MOST_ROOM" (.int 20))(T:my K C)(F:c1 K "__init__" "Shelf.__init__" AJ f fd):cv P w K mg base (hJ P w) 1 f fd ["self","form","room"] (IY oT C):=by
 refine F.yS Kv (fun bl A _ s H vs Q E az h=>?_)
 obtain⟨p,ai,aW,m,rfl,aO,hm,q⟩:=h
 refine⟨_,(aP (cz (gi.pt (ks (b6 ke (af 2) (hM vK)) (lk (b6 kY (af 2) (hM vM))))) (aQ (LM K6 Jr B2 az.hd (ao cT aB))) cy)
  (aP (hO (af 0) (af 1) rfl)
  (aP (hO (af 0) (af 2) rfl)
  (aQ (hO (af 0) (eJ aB) rfl))))),?_⟩
 try dsimp only[cG,cH,cI,cJ]
 by_cases aw:m<2
 .exact⟨_,I,.inl ⟨_,_,I,I,_,I,hC aw ⟨mw,H,.refl (cF _),q⟩⟩⟩
 .exact⟨_,I,.inl ⟨_,_,I,I,_,I,fv aw ⟨_,I,_,_,I,I,_,I,hC (by omega) ⟨mw,H,.refl (cF _),q⟩⟩⟩⟩
noncomputable def qC(m:Int):List Bool:=if 2<=m/\m<=20 then []else vF
inductive Qo(vs:List V)(H:aq)(Q:bG)(E:bT):Prop where
 |mk (o:ag) (m:Int) (bg:vs=[.ref o,.int m]) (al:∀r H',Ext H H'->H' r=J (.lst ((qC m).map V.aE))->Q (.ref r) H'):Qo  vs H Q E
def Qn:b0:=fun vs H Q E=>Qo  vs H Q E
theorem W8{f:ag}{fd:ho}(td:mg "RiseError"=J (.ref iH))(wO:ExcC K iH)(wQ:zt K (.ref iH)=J (.type "type"))(acm:pL K oT (.ref iH)=J au)(HX:w8 K cs oT vF)
  (F:dS K mg "_law_room" Fb ["_law_made_here","_law_room_here"] f fd) (u1:jl P w K mg base 1 "Shelf" cn ["self","form","room"] (IZ cn)) (D2:D9 P w K mg base 1 "Shelf" cn ["self","form","room"] (IY oT cn)) (uE:bp P w K mg base 1 "_law_kinds" ["_law_kept"] (IP K cs)) :
  bp P w K mg base 3 "_law_room" ["_law_made_here","_law_room_here"] Qn:=by
 refine F.ez AM (fun bl A _ s H vs Q E az h=>?_)
 obtain⟨o,m,rfl,q⟩:=h
 obtain⟨qT,x3⟩:∃qT:St->bT,qT=fun ae Gf dd H'=>Gf=.ref oT/\dd=av/\Ext H H'/\ae=[J (.ref o),J (.int m),J .bc,av]/\qC m=vF:=⟨_,rfl⟩
 refine⟨_,(aP (bZ 2 AM.bB mv)
  (aP (Mz (i:=3) (Eh:=qT) (fun _=>(aQ (ih (Yb u1 D2 az A0 (ao (af 0) (ao (af 1) aB))))))
   (fun _ _=>(aQ (bZ 2 AM.bB (af 3)))) td wO wQ AM.bB)
  (aQ (bx (bX uE az (ao (af 2) aB)))))),?_⟩
 try dsimp only[cG,cH,cI,cJ]
 refine gU fun Sn x7=>x7 _ _ ?_
 clear x7
 refine gU fun N cK=>⟨?_,fun bR rZ d' H' a pf bh=>?_⟩
 ·refine⟨_,I,_,I,fun y ai bV yg kc=>?_⟩
  by_cases hm:2<=m/\m<=20
  ·refine .inl ⟨y,ai,o,m,I,aG,hm.1,hm.2,fun l aC=>⟨I,cK _ _ ?_⟩⟩
   rw[fX]
   have rD:l≠y:=fun z=>by rw[z,aG]at aC;cases aC
   rw[bt rD]at aC
   have jx:upd (upd H ai (.own y)) y (.ins cn ai (iD o m l)) l=av:=by rw[bt rD];exact aC
   have jZ:=(Ext.made (C:=cn) (fs:=iD o m l) bV yg kc).trans (Ext.lst (xs:=[]) jx)
   exact⟨_,I,.bc,I,.inl ⟨I,fun p aO=>⟨_,(jZ.trans (Ext.lst aO)).sub,q p _ (jZ.trans (Ext.lst aO)) (by rw[aG,qC,if_pos hm];rfl)⟩⟩⟩
  ·refine .inr ⟨y,ai,o,m,I,aG,by omega,?_⟩
   subst x3
   exact⟨I,I,Ext.made bV yg kc,I,if_neg hm⟩
 ·subst x3
  obtain⟨hc,rfl,ic,rfl,M5⟩:=pf
  injection hc with hc
  subst hc
  have gj:=ic.trans (Ext.exc (C:=rZ) (d:=av) bh)
  refine⟨acm,_,I,cK _ _ ⟨_,I,.ref a,I,.inr ⟨a,rZ,av,vF,I,aG,.inl I,HX,fun p aO=>⟨_,(gj.trans (Ext.lst aO)).sub,q p _ (gj.trans (Ext.lst aO)) (by rw[aG,M5])⟩⟩⟩⟩
noncomputable def wA(rs:List (List Bool)):D :=.lst (rs.map fun r =>.str (aR r))
noncomputable def zi(rs:List (List Bool))(m:Nat):D :=.lst [.int ((rs.length:Nat):Int),wA (oF rs m),wA (pA rs m)]
inductive QD(C:ag)(vs:List V)(H:aq)(Q:bG)(E:bT):Prop where
 |mk (s ai aW l:ag) (m:Nat) (rs:List (List Bool)) (bg:vs=[.ref s]) (al:l0 H s C ai aW ((m:Nat):Int) l rs) (aw:2<=m) (bq:m<=20) (b4:vb rs) (eb:∀r H',Ext H H'->d4 H' (zi rs m) (.ref r)->Q (.ref r) H'):QD C vs H Q E
def I3(C:ag):b0:=fun vs H Q E=>QD C vs H Q E
theorem Ma{H:aq}:∀(rs:List (List Bool)),(∀r,r∈rs->r.length<=16000000)->dn H (rs.map fun r=>D.str (aR r)) (c2 rs)
 |[],_=>rfl
 |r::rs,h=>⟨_,_,rfl,⟨rfl,by rw[d8];exact h r (eI ..)⟩,Ma rs fun x ay=>h x (dP _ ay)⟩
theorem Mx{a:ag}(e:H a=J (.lst (c2 rs)))(h:∀r,r∈rs->r.length<=16000000)(aZ:rs.length<=1000):d4 H (wA rs) (.ref a):=⟨a,_,rfl,e,Ma rs h,by rw[i8];exact aZ⟩
theorem S8(R:vb rs):∀r,r∈oF rs m->r.length<=16000000:=fun r az=>by
 obtain⟨i,_,rfl⟩:=List.mem_map.mp az
 have sub:=LA rs m i
 have al:=sub.length_le
 have aw:=L8 sub
 have bq:=R.b
 have b4:=R.n
 have eb:=Lv (rs:=chunk rs m i) (fun x ay=>dj (vu ay) (by omega)) []
 have ij:=uQ (qc (n:=(chunk rs m i).length) (by omega))
 unfold yW
 rw[ee]
 omega
theorem Y5(R:vb rs):∀r,r∈pA rs m->r.length<=16000000:=fun r az=>by
 obtain⟨i,_,rfl⟩:=List.mem_map.mp az
 have bq:=R.b
 unfold CQ
 rw[jn]
 have:(rs.getD (m+i*m) []).length<=15000000:=by
  rw[eL]
  cases e:rs[m+i*m]? with
  |none=>exact UF _
  |some x=>exact dj (vu (hY e)) bq
 omega
theorem Wx{f:ag}{fd:ho}(F:dS K mg "_law_state" ES ["_law_shelf"] f fd)(T:my K cn)(eg:ff K cn)(u4:fZ P w K mg base 1 cn "size" ["self"] (I0 cn))(D7:fZ P w K mg base 5 cn "pages" ["self"] (P8 cn))(D8:fZ P w K mg base 4 cn "partings" ["self"] (Qc cn)):
  bp P w K mg base 6 "_law_state" ["_law_shelf"] (I3 cn):=by
 refine F.ez Wi (fun bl A _ s H vs Q E az h=>?_)
 obtain⟨bS,ai,aW,l,m,rs,rfl,hs,aw,j9,R,q⟩:=h
 have aZ:=R.n
 refine⟨_,(aQ (bx (eJ (ao (ig u4 eg az (af 0)) (ao (ig D7 eg az (af 0)) (ao (ig D8 eg az (af 0)) aB)))))),?_⟩
 try dsimp only[cG,cH,cI,cJ]
 refine⟨_,I,bS,ai,_,I,hs.1,oK ..,bS,ai,aW,l,_,rs,I,hs,by omega,?_⟩
 refine⟨_,I,bS,ai,_,I,hs.1,oK ..,bS,ai,aW,l,m,rs,I,hs,aw,j9,R,fun dC e9=>?_⟩
 have ic:=Ext.lst (xs:=c2 (oF rs m)) e9
 have d3:l0 (upd H dC (.lst (c2 (oF rs m)))) bS cn ai aW ((m:Nat):Int) l rs:=⟨ic.s _ _ hs.1,ic.s _ _ hs.2⟩
 refine⟨_,I,bS,ai,_,I,d3.1,oK ..,bS,ai,aW,l,m,rs,I,d3,aw,j9,R,fun hq l8=>?_⟩
 have gj:=Ext.lst (xs:=c2 (pA rs m)) l8
 refine⟨Bc,fun p aO=>?_⟩
 have ie:=Ext.lst (xs:=[V.int ((rs.length:Nat):Int),V.ref dC,V.ref hq]) aO
 have X:=(ic.trans gj).trans ie
 have dE:(oF rs m).length<=1000:=by unfold oF;rw[cq,kx];have:=F3 (n:=rs.length) (m:=m) (by omega);omega
 have dM:(pA rs m).length<=1000:=by unfold pA;rw[cq,kx];have:=F2 (n:=rs.length) (m:=m) (by omega);omega
 refine⟨_,X.sub,q p _ X ⟨p,_,I,aG,⟨_,_,I,I,_,_,I,Mx ((gj.trans ie).s _ _ aG) (S8 R) dE,_,_,I,Mx (ie.s _ _ aG) (Y5 R) dM,I⟩,(by show 3<=1000;decide)⟩⟩
theorem L7(H:aq):∀bs:List Bool,dn H (bs.map D.aE) (bs.map V.aE)
 |[]=>rfl
 |_::bs=>⟨_,_,rfl,rfl,L7 H bs⟩
theorem o1{a:ag}{bs:List Bool}(h:H a=J (.lst (bs.map V.aE)))(aC:bs.length<=1000):d4 H (.lst (bs.map D.aE)) (.ref a):=⟨a,_,rfl,h,L7 H bs,by rw[cq];exact aC⟩
theorem xC(bs:List Bool):eG (.lst (bs.map D.aE))<=60:=by
 rw[eG]
 have:∀bs:List Bool,fi (bs.map D.aE)<=1:=fun bs=>by
  induction bs with
  |nil=>rw[List.map_nil,fi];omega
  |cons b bs bQ=>rw[gF,fi,eG];omega
 have:=this bs
 omega
theorem MO(rs:List (List Bool))(m:Nat):eG (zi rs m)<=60:=by
 have this:∀rs:List (List Bool),fi (rs.map fun r=>D.str (aR r))<=1:=fun rs=>by
  induction rs with
  |nil=>rw[List.map_nil,fi];omega
  |cons b bs bQ=>rw[gF,fi,eG];omega
 have a:=this (oF rs m)
 have b:=this (pA rs m)
 rw[zi,eG,fi,fi,fi,fi,wA,wA,eG,eG,eG]
 omega
theorem L2:∀(ds:List D),(∀d,d∈ds->eG d<=6)->fi ds<=6
 |[],_=>by rw[fi];omega
 |d::ds,h=>by
  rw[fi]
  have:=h d (eI ..)
  have:=L2 ds fun x ay=>h x (dP _ ay)
  omega
theorem Mt(r:List Bool):pC [] .bc r=au:=by
 show(!decide ((aR r).cps.toList<[])&&au)=au
 rw[gd (List.not_lt_nil _)];rfl
structure xj(cn:ag)(c:dF)(H:aq)(bS ai aW:ag)(m:Nat)(l:ag)(g:bN)(aK:List D):Prop where
 s:l0 H bS cn ai aW ((m:Nat):Int) l (aK.map (bD dv g))
 f:b7 c [] H g aW
 o:gB g
 h:bo g<=3
 v:∀d,d∈aK->b2 fh g d=au/\(bD dv g d).length<=15000000
 d:∀d,d∈aK->eG d<=6
 n:aK.length<=10
 r:vb (aK.map (bD dv g))
 a:2<=m
 b:m<=20
theorem xj.ext{c:dF}{bS ai:ag}{aK:List D}(S:xj cn c H bS ai aW m l g aK)(X:Ext H H'):xj cn c H' bS ai aW m l g aK:=⟨⟨X.s _ _ S.s.1,X.s _ _ S.s.2⟩,b7.keep (fun b u _ e=>X.s b u e) _ S.f,S.o,S.h,S.v,S.d,S.n,S.r,S.a,S.b⟩
inductive Qm(cn:ag)(c:dF)(vs:List V)(H:aq)(Q:bG)(E:bT):Prop where
 |mk (bS ai aW l L:ag) (m:Nat) (g:bN) (aK gH:List D) (ws:List V) (bg:vs=[.ref bS,.ref aW,.ref L]) (al:xj cn c H bS ai aW m l g aK) (aw:H L=J (.lst ws)) (bq:dn H gH ws) (b4:rH gH) (eb:∀H',Ext H H'->Q (.aE au) H'):Qm cn c vs H Q E
def Ql(cn:ag)(c:dF):b0:=fun vs H Q E=>Qm cn c vs H Q E
set_option maxHeartbeats 4000000 in
theorem VG{f:ag}(nb:dD mg)(F:dS K mg "_law_refuses" EB ["_law_shelf","_law_made_here","_law_some"] f fd)(T:my K cn)(eg:ff K cn)(sv:fZ P w K mg base 13 cn "told" ["self","start","end"] (I4 cn c 3))(sf:bp P w K mg base 6 "_law_state" ["_law_shelf"] (I3 cn))(qM:bp P w K mg base 13 "_law_asked" ["_law_shelf","_law_way","_law_value_here"] (IH cn c 3))(uG:bp P w K mg base 13 "_law_same" ["_law_found","_law_due"] (C1 12))
  (jU:hT P w K mg base 10 "fits" ["self","value"] (fJ c) (jy hasAll j7 c 3)):bp P w K mg base 14 "_law_refuses" ["_law_shelf","_law_made_here","_law_some"] (Ql cn c):=by
 refine F.ez xk (fun bl A _ s H vs Q E az h=>?_)
 obtain⟨bS,ai,aW,l,L,m,g,aK,gH,ws,rfl,S,s6,et,e8,q⟩:=h
 refine⟨_,(aP (bZ 3 xk.bB (sJ sv eg az (af 0) (ao cT (ao mv aB))))
  (aP (bZ 4 xk.bB (bX sf az (ao (af 0) aB)))
  (aP (ll h5.never rfl (iT (af 2)) (eo (i:=5) xk.bB rfl (by exact Or.inl I))
   (aQ (cz (b6 Te (jq jU az (af 1) (ao (af 5) aB)) gg) (aQ (ll h5.never rfl (ob rfl nb.lP (ao aD aB)) (eo (i:=6) xk.bB rfl (by exact Or.inl I))
     (aP (cz (b6 (rG (qD az)) (bX qM az (ao (af 0) (ao (af 6) (ao (af 5) aB)))) (aS rF (aS rF (eJ (ao gg aB)) (aS Ip (eJ (ao gg aB)) aD)) (eJ (ao gg aB)))) (aQ (bx gg)) cy)
     (aQ (cz (b6 (rG (qD az)) (bX sf az (ao (af 0) aB)) (af 4)) (aQ (bx gg)) cy))))) cy)))
  (aQ (bx (i7 (bX uG az (ao (sJ sv eg az (af 0) (ao cT (ao mv aB))) (ao (af 3) aB))) (ky (bX uG az (ao (cV cX (af 4) aD) (ao (cx ep rfl nb.ec ef (ao (af 3) aB)) aB)))))))))),?_⟩
 try dsimp only[cG,cH,cI,cJ]
 have aT:=Bu _ S.o
 have BR:aK.filter (fun d=>pC [] .bc (bD dv g d))=aK:=List.filter_eq_self.mpr fun d _=>Mt _
 refine gU fun N cK=>⟨_,I,bS,ai,_,I,S.s.1,oK ..,bS,ai,aW,l,_,g,aK,[],.bc,(by rw[y2];rfl),S.s,S.f,aT,S.h,S.v,by have:=S.n;omega,.inl rfl,fun cd ui H1 _ ic rn jw=>cK _ _ ?_⟩
 rw[BR]at jw
 have jw:=cm.at _ jw
 clear cK
 have gD:=S.ext ic
 refine gU fun N cK=>⟨_,I,bS,ai,aW,l,m,_,I,gD.s,gD.a,gD.b,gD.r,fun dB ax gj jM=>cK _ _ ?_⟩
 clear cK
 have n8:=ic.trans gj
 have M6:=n8.s _ _ s6
 refine gU fun N cK =>.inl ⟨_,I,L,I,⟨_,bF M6⟩,Bk (K:=K) (a:=L) (xs:=ws) (fun i ae bJ=>Ext ax bJ/\∃z w,ae=[J (.ref bS),J (.ref aW),J (.ref L),J (.ref cd),J (.ref dB),z,w]) ⟨⟨cF _,fun c=>c⟩,_,_,I⟩ (fun i ae bJ _ h=>bF (h.1.s _ _ M6)) ?_ ?_⟩
 ·rintro i x ae bJ ay ⟨ie,z,w,rfl⟩
  obtain⟨d,hd,rr⟩:=dn.get gH et ay
  have Nq:=Bg gH e8 hd
  have Au:=n8.trans ie
  have h8:=S.ext Au
  have tn:=d4.same Au.s _ rr
  obtain⟨f6,f9,eR,li⟩:=b7.fits g h8.f
  refine⟨_,I,aW,slot g,f6,f9,I,eR,li,_,I,aW,g,x,d,I,I,h8.f,aT,h8.h,tn,Nq,_,I,I,_,I,?_⟩
  cases Ha:b2 j7 g d with
  |true=>exact dx ⟨ie,_,_,I⟩
  |false =>
   refine eC ⟨_,I,by decide,by decide,?_⟩
   refine qW (fun j ae gv=>Ext ax gv/\∃w,ae=[J (.ref bS),J (.ref aW),J (.ref L),J (.ref cd),J (.ref dB),J x,w]) ⟨ie,_,I⟩ ?_ ?_
   rotate_left
   .rintro ae gv ⟨jo,Jl,rfl⟩;exact⟨jo,_,_,I⟩
   rintro j ae gv cw ⟨jo,Jl,rfl⟩
   have cw:j<3:=cw
   rw[Int.zero_add]
   have Ep:=n8.trans jo
   have jY:=S.ext Ep
   refine⟨_,I,_,I,_,I,bS,ai,aW,l,_,x,g,d,_,j,I,cw,jY.s,jY.f,aT,jY.h,d4.same Ep.s _ rr,Nq,by rw[cq];have:=jY.n;omega,.inl ⟨Ha,fun qA fB gG Hy=>?_⟩⟩
   have wM:=Ep.trans gG
   refine⟨mw,fun cg k1=>⟨mw,fun cj k2 =>.inr ⟨cj,9,_,I,I,aG,by decide,by decide,(by show 1*9<=bU;decide),fun eN k3=>?_⟩⟩⟩
   have gc:=Ext.lst (xs:=[V.aE au]) k1
   have dt:=Ext.lst (xs:=[V.aE aA]) k2
   have qK:=Ext.lst (xs:=(List.replicate (9:Int).toNat [V.aE aA]).flatten) k3
   refine .inr ⟨cg,eN,_,_,I,I,qK.s _ _ (dt.s _ _ aG),aG,(by show 1+9<=bU;decide),fun rM tD=>⟨mw,fun mi k5=>?_⟩⟩
   have Dg:=Ext.lst (xs:=[V.aE au]++(List.replicate (9:Int).toNat [V.aE aA]).flatten) tD
   have wN:=Ext.lst (xs:=[V.aE au]) k5
   refine .inr ⟨rM,mi,_,_,I,I,wN.s _ _ aG,aG,(by show 10+1<=bU;decide),fun qz ry=>?_⟩
   have zk:=Ext.lst (xs:=([V.aE au]++(List.replicate (9:Int).toNat [V.aE aA]).flatten)++[V.aE au]) ry
   have QW:=((((gc.trans dt).trans qK).trans Dg).trans wN).trans zk
   refine .inr ⟨_,_,o1 (bs:=q9) (QW.s _ _ Hy) (by decide),o1 (bs:=q9) aG (by decide),xC _,_,I,?_⟩
   rw[qX]
   refine dx ?_
   have jZ:=jo.trans (gG.trans QW)
   have sz:=S.ext (n8.trans jZ)
   generalize upd _ qz _=d5 at jZ sz ⊢
   refine⟨_,I,bS,ai,aW,l,m,_,I,sz.s,sz.a,sz.b,sz.r,fun OX jj J8 acS=>?_⟩
   refine⟨_,I,.inr ⟨_,_,acS,d4.same (jZ.trans J8).s _ jM,MO _ _,_,I,?_⟩⟩
   rw[qX]
   exact dx ⟨jZ.trans J8,_,I⟩
 ·rintro ae bJ ⟨ie,z,w,rfl⟩
  refine cK _ _ ?_
  have Au:=n8.trans ie
  have h8:=S.ext Au
  refine⟨_,I,bS,ai,_,I,h8.s.1,oK ..,bS,ai,aW,l,_,g,aK,[],.bc,(by rw[y2];rfl),h8.s,h8.f,aT,h8.h,h8.v,by have:=h8.n;omega,.inl rfl,fun t8 Jl gv _ jo tw nB=>?_⟩
  rw[BR]at nB
  have nB:=cm.at _ nB
  have Av:=ie.trans jo
  have sF:=gj.trans Av
  have ln:aK.length<=10:=S.n
  have abN:eG (D.lst aK)<=12:=by rw[eG];have:=L2 aK S.d;omega
  refine⟨_,I,_,_,.lst aK,I,⟨t8,Jl,I,tw,nB,by rw[dn.len aK nB];omega⟩,⟨cd,ui,rfl,sF.s _ _ rn,dn.same sF.s _ jw,by rw[dn.len aK jw];omega⟩,abN,?_⟩
  obtain⟨a2,v2,ba,eT,dQ,_⟩:=jM
  injection ba with ba
  subst ba
  obtain⟨dR,iX,rfl,rfl,_⟩:=dQ
  refine⟨_,I,eC ⟨_,I,.inl (.inl ⟨_,_,_,_,I,I,bF (Av.s _ _ eT),dz (j:=0) I,_,I,_,_,I,.inl ⟨_,bF (sF.s _ _ rn),I⟩,_,_,.int ((aK.length:Nat):Int),I,(by rw[cq];rfl),(by rw[dn.len aK jw];rfl),(by rw[eG];omega),?_⟩)⟩⟩
  exact⟨_,(n8.trans Av).sub,q _ (n8.trans Av)⟩
inductive Qq(vs:List V)(H:aq)(Q:bG)(E:bT):Prop where
 |mk (o:ag) (k:Int) (bg:vs=[.ref o,.int k]) (al:∀H',Ext H H'->Q (.aE au) H'):Qq  vs H Q E
def Qp:b0:=fun vs H Q E=>Qq  vs H Q E
theorem Wz(nb:dD mg)(F:dS K mg "_law_rooms" EU ["_law_made_here","_law_far"] f fd)(DI:bp P w K mg base 3 "_law_room" ["_law_made_here","_law_room_here"] Qn):bp P w K mg base 4 "_law_rooms" ["_law_made_here","_law_far"] Qp:=by
 refine F.ez Ay (fun bl A _ s H vs Q E az h=>?_)
 obtain⟨o,k,rfl,q⟩:=h
 refine⟨_,(aP (ll h5.never I (iT (eJ (ao aD (ao aD (ao aD (ao (lD ly aD) (ao (aS rF aD (af 1)) (ao (aS gb aD (af 1)) (ao aD (ao aD aB)))))))))) (eo (i:=2) Ay.bB I (by exact Or.inl rfl))
   (aP (bZ 3 Ay.bB (aS rF (aS rF (aS rF (aS Ip (eJ (ao gg aB)) aD) (eJ (ao gg aB))) (aS Ip (eJ (ao gg aB)) aD)) (eJ (ao gg aB))))
   (aP (cz (gi.pt (o4 (b6 CJ (af 2) aD) (p8 (b6 tP (af 2) aD)))) (aQ (bZ 3 Ay.bB (eJ aB))) cy)
   (aQ (cz (b6 (rG (qD az)) (bX DI az (ao (af 0) (ao (af 2) aB))) (af 3)) (aQ (bx gg)) cy)))))
  (aQ (bx gg))),?_⟩
 try dsimp only[cG,cH,cI,cJ]
 refine gU fun N cK =>.inl ⟨_,I,_,I,.inl (.inl ⟨_,_,I,I,_,I,_,_,I,I,(by show 8<=bU;decide),fun L iQ=>⟨L,I,⟨_,bF aG⟩,?_⟩⟩)⟩
 refine Bk (K:=K) (xs:=([1,21,0,-1,21+k,0-k,2,20]:List Int).map V.int) (fun i ae ax=>Ext H ax/\ax L=J (.lst (([1,21,0,-1,21+k,0-k,2,20]:List Int).map V.int))/\∃z w,ae=[J (.ref o),J (.int k),z,w]) ⟨Ext.lst iQ,aG,_,_,I⟩ (fun i ae ax _ h=>bF h.2.1) ?_ ?_
 ·rintro i x ae ax ay ⟨gj,s6,z,w,rfl⟩
  rw[e4]at ay
  obtain⟨m,_,rfl⟩:=Uf.mp ay
  refine gU fun xd nw=>⟨mw,fun cg k1 =>.inr ⟨cg,4,_,I,I,aG,by decide,by decide,(by show 1*4<=bU;decide),fun cj k2=>⟨mw,fun eN k3=>?_⟩⟩⟩
  have gc:=Ext.lst (xs:=[V.aE aA]) k1
  have dt:=Ext.lst (xs:=(List.replicate (4:Int).toNat [V.aE aA]).flatten) k2
  have qK:=Ext.lst (xs:=[V.aE au]) k3
  refine .inr ⟨cj,eN,_,_,I,I,qK.s _ _ aG,aG,(by show 4+1<=bU;decide),fun rM tD=>⟨mw,fun mi k5 =>.inr ⟨mi,5,_,I,I,aG,by decide,by decide,(by show 1*5<=bU;decide),fun qz ry=>?_⟩⟩⟩
  have Dg:=Ext.lst (xs:=(List.replicate (4:Int).toNat [V.aE aA]).flatten++[V.aE au]) tD
  have wN:=Ext.lst (xs:=[V.aE aA]) k5
  have zk:=Ext.lst (xs:=(List.replicate (5:Int).toNat [V.aE aA]).flatten) ry
  refine .inr ⟨rM,qz,_,_,I,I,zk.s _ _ (wN.s _ _ aG),aG,(by show 5+5<=bU;decide),fun mW HU=>⟨mw,fun Iz HV=>?_⟩⟩
  have Q5:=Ext.lst (xs:=((List.replicate (4:Int).toNat [V.aE aA]).flatten++[V.aE au])++(List.replicate (5:Int).toNat [V.aE aA]).flatten) HU
  have u8:=Ext.lst (xs:=[V.aE au]) HV
  refine .inr ⟨mW,Iz,_,_,I,I,u8.s _ _ aG,aG,(by show 10+1<=bU;decide),fun wz HW=>?_⟩
  have Q6:=Ext.lst (xs:=(((List.replicate (4:Int).toNat [V.aE aA]).flatten++[V.aE au])++(List.replicate (5:Int).toNat [V.aE aA]).flatten)++[V.aE au]) HW
  have ie:=gj.trans ((((((((gc.trans dt).trans qK).trans Dg).trans wN).trans zk).trans Q5).trans u8).trans Q6)
  have M7:=((((((((gc.trans dt).trans qK).trans Dg).trans wN).trans zk).trans Q5).trans u8).trans Q6).s _ _ s6
  refine nw _ _ ?_
  generalize vP:upd _ wz _=bJ at ie M7 ⊢
  have rb:bJ wz=J (.lst (vF.map V.aE)):=by rw[<-vP];exact aG
  clear vP
  clear nw
  refine gU fun xd nw=>?_
  have cY:∀r gv,Ext bJ gv->gv r=J (.lst ((qC m).map V.aE))->xd [J (.ref o),J (.int k),J (.int m),J (.ref r)] gv:=fun r gv jo tw=>by
   refine nw _ _ ⟨_,I,_,I,o,m,I,fun qA fB gG Hy=>⟨_,I,.inr ⟨_,_,o1 Hy (by unfold qC;split<;>decide),o1 (gG.s _ _ tw) (by unfold qC;split<;>decide),xC _,_,I,?_⟩⟩⟩
   rw[qX]
   exact dx ⟨ie.trans (jo.trans gG),(jo.trans gG).s _ _ M7,_,_,I⟩
  by_cases al:2<=m
  ·by_cases aw:m<=20
   .refine⟨_,I,_,_,I,I,_,I,hC al ⟨_,I,_,_,I,I,_,I,hC aw ⟨UF _,fun r az=>cY r _ (Ext.lst az) (by rw[aG,qC,if_pos ⟨al,aw⟩];rfl)⟩⟩⟩
   .exact⟨_,I,_,_,I,I,_,I,hC al ⟨_,I,_,_,I,I,_,I,fv aw (cY wz _ ⟨cF _,fun c=>c⟩ (by rw[rb,qC,if_neg (by omega)]))⟩⟩
  .exact⟨_,I,_,_,I,I,_,I,fv al (cY wz _ ⟨cF _,fun c=>c⟩ (by rw[rb,qC,if_neg (by omega)]))⟩
 ·rintro ae bJ ⟨ie,_,z,w,rfl⟩
  exact cK _ _ ⟨_,ie.sub,q _ ie⟩
mutual
theorem cQ.vA{X:List ag}{H:aq}{l C ai:ag}{fs:List (ah×V)}(aC:H l=J (.ins C ai fs)):∀(d:D){v:V},cQ X H d v->cQ (l::X) H d v
 |.bc,v,h=>h
 |.aE b,v,h=>h
 |.int i,v,h=>h
 |.str t,v,h=>h
 |.tup ds,v,h=>by
  obtain⟨a,vs,e,n,fj,q,z⟩:=h
  exact⟨a,vs,e,fun m=>(cR.mp m).elim (fun y=>by rw[y,aC]at fj;cases fj) n,fj,cm.vA aC ds q,z⟩
 |.lst ds,v,h=>by
  obtain⟨a,vs,e,n,fj,q,z⟩:=h
  exact⟨a,vs,e,fun m=>(cR.mp m).elim (fun y=>by rw[y,aC]at fj;cases fj) n,fj,cm.vA aC ds q,z⟩
theorem cm.vA{X:List ag}{H:aq}{l C ai:ag}{fs:List (ah×V)}(aC:H l=J (.ins C ai fs)):∀(ds:List D){vs:List V},cm X H ds vs->cm (l::X) H ds vs
 |[],vs,h=>h
 |d::ds,vs,h=>by
  obtain⟨v,r,e,q,cj⟩:=h
  exact⟨v,r,e,cQ.vA aC d q,cm.vA aC ds cj⟩
end
theorem tH{s x:ag}(h:x∈[p,s,l]):x=p\/x=s\/x=l:=by
 rcases cR.mp h with h|h
 .exact .inl h
 ·rcases cR.mp h with h|h
  .exact .inr (.inl h)
  .exact .inr (.inr (ft.mp h))
structure i1(cn:ag)(c:dF)(hh H:aq)(p bS ai aW l L:ag)(m:Nat)(v:V)(g:bN)(rs:List (List Bool))(gH:List D)(ws:List V):Prop where
 q:kr p H
 s:l0 H bS cn ai aW ((m:Nat):Int) l rs
 d:cQ [p,bS,l] H (gA g) v
 f:b7 c [p,bS,l] H g aW
 k:H L=J (.lst ws)
 n:L∉[p,bS,l]
 w:cm [p,bS,l] H gH ws
 e:∀r,r∈rs->∃d,r=bD dv g d/\b2 fh g d=au/\eG d<=6
 o:rs.Pairwise pY
 u:rs.Nodup
 z:d7 hh H
 a:hh p=av/\hh bS=av/\hh l=av
 b:p≠l
theorem i1.jN{c:dF}{bS ai:ag}(aa:i1 cn c hh H p bS ai aW l L m v g rs gH ws)(k:∀b u,b∉[p,bS,l]->H b=J u->H' b=J u)(aO:kr p H')(hs:l0 H' bS cn ai aW ((m:Nat):Int) l rs):i1 cn c hh H' p bS ai aW l L m v g rs gH ws :=
 ⟨aO,hs,cQ.keep k _ aa.d,b7.keep k _ aa.f,k _ _ aa.n aa.k,aa.n,cm.keep k _ aa.w,aa.e,aa.o,aa.u,fun b u e=>k b u (fun z=>(tH z).elim (eB e aa.a.1) fun z=>z.elim (eB e aa.a.2.1) (eB e aa.a.2.2)) (aa.z b u e),aa.a,aa.b⟩
theorem kr.ext(h:kr p H)(X:Ext H H'):kr p H':=by obtain⟨ns,e,n⟩:=h;exact⟨ns,X.s _ _ e,n⟩
theorem i1.ext{c:dF}{bS ai:ag}(aa:i1 cn c hh H p bS ai aW l L m v g rs gH ws)(X:Ext H H'):i1 cn c hh H' p bS ai aW l L m v g rs gH ws:=aa.jN (fun b u _ e=>X.s b u e) (kr.ext aa.q X) ⟨X.s _ _ aa.s.1,X.s _ _ aa.s.2⟩
theorem i1.ne{c:dF}{bS ai:ag}(aa:i1 cn c hh H p bS ai aW l L m v g rs gH ws):p≠bS/\bS≠l:=by
 obtain⟨ns,e,_⟩:=aa.q
 exact⟨(fun z=>by rw[z,aa.s.1]at e;cases e),(fun z=>by have:=aa.s.2;rw[<-z,aa.s.1]at this;cases this)⟩
theorem i1.grow{c:dF}{bS ai:ag}(aa:i1 cn c hh H p bS ai aW l L m v g rs gH ws)(G:es p H H'):i1 cn c hh H' p bS ai aW l L m v g rs gH ws :=
 aa.jN (fun b u n e=>G.k b u (fun z=>n (by rw[z];exact eI ..)) e) G.l ⟨G.k _ _ (d1 aa.ne.1) aa.s.1,G.k _ _ (d1 aa.b) aa.s.2⟩
theorem i1.put{c:dF}{bS ai gq:ag}{ss:List (List Bool)}{d:D}(aa:i1 cn c hh H p bS ai aW l L m v g rs gH ws)(aC:H gq=av)(aZ:bD dv g d∉rs)(aL:ss.Pairwise pY)(aO:ss.Perm (rs++[bD dv g d]))(aH:b2 fh g d=au)(fb:eG d<=6):i1 cn c hh (upd (upd H bS (.ins cn ai (iD aW ((m:Nat):Int) gq))) gq (.lst (c2 ss))) p bS ai aW gq L m v g ss gH ws:=by
 have rD:gq≠bS:=(eB aa.s.1 aC).symm
 obtain⟨ns,fK,acI⟩:=aa.q
 have OJ:gq≠p:=(eB fK aC).symm
 have OF:L≠gq:=eB aa.k aC
 have k:∀b u,b∉[p,bS,gq]->H b=J u->upd (upd H bS (.ins cn ai (iD aW ((m:Nat):Int) gq))) gq (.lst (c2 ss)) b=J u:=fun b u n e=>by
  rw[bt (eB e aC),bt fun z=>n (by rw[z];exact dP _ (eI ..))];exact e
 have ur:∀x,x∈[p,bS,gq]->x∈gq::[p,bS,l]:=fun x ay=>by
  rcases tH ay with rfl|rfl|rfl
  .exact dP _ (eI ..)
  .exact dP _ (dP _ (eI ..))
  .exact eI ..
 have HK:(rs++[bD dv g d]).Nodup:=List.nodup_append.mpr ⟨aa.u,List.nodup_cons.mpr ⟨List.not_mem_nil,List.nodup_nil⟩,fun x ay y bV e=>aZ (by rw[ft.mp bV]at e;rw[<-e];exact ay)⟩
 refine⟨⟨ns,by rw[bt (d1 OJ),bt aa.ne.1];exact fK,acI⟩,⟨by rw[bt (d1 rD)];exact aG,aG⟩,cQ.keep k _ (cQ.weak ur _ (cQ.add aC _ aa.d)),b7.keep k _ (b7.weak ur _ (b7.add aC _ aa.f)),?_,?_,cm.keep k _ (cm.weak ur _ (cm.add aC _ aa.w)),fun r az=>?_,aL,aO.nodup_iff.mpr HK,fun b u e=>?_,⟨aa.a.1,aa.a.2.1,?_⟩,d1 OJ⟩
 .rw[bt OF,bt fun z=>aa.n (by rw[z];exact dP _ (eI ..))];exact aa.k
 ·intro z
  rcases tH z with z|z|z
  .exact aa.n (by rw[z];exact eI ..)
  .exact aa.n (by rw[z];exact dP _ (eI ..))
  .exact OF z
 ·rcases List.mem_append.mp (aO.mem_iff.mp az)with z|z
  .exact aa.e r z
  .exact⟨d,ft.mp z,aH,fb⟩
 ·have aU:=aa.z b u e
  rw[bt (eB aU aC),bt (eB e aa.a.2.1)];exact aU
 ·cases e:hh gq with
  |none=>rfl
  |some u=>rw[aa.z _ _ e]at aC;cases aC
theorem LJ{g:bN}:∀(rs:List (List Bool)),(∀r,r∈rs->∃d,r=bD dv g d/\b2 fh g d=au/\eG d<=6)->∃aK:List D,rs=aK.map (bD dv g)/\∀d,d∈aK->b2 fh g d=au/\eG d<=6
 |[],_=>⟨[],rfl,fun d h=>nomatch h⟩
 |r::rs,h=>by
  obtain⟨d,e,f⟩:=h r (eI ..)
  obtain⟨aK,ba,f2⟩:=LJ rs fun x ay=>h x (dP _ ay)
  exact⟨d::aK,by rw[e,ba];rfl,fun x ay=>(cR.mp ay).elim (fun z=>by rw[z];exact f) (f2 x)⟩
theorem i1.IF{c:dF}{bS ai:ag}(aa:i1 cn c hh H p bS ai aW l L m v g rs gH ws)(aL:gB g)(fb:bo g<=3)(aw:2<=m)(j9:m<=20)(aZ:rs.length<=10)(aj:(rs.map List.length).sum<=15000000):∃aK:List D,rs=aK.map (bD dv g)/\xj cn c H bS ai aW m l g aK:=by
 obtain⟨aK,e,f⟩:=LJ rs aa.e
 refine⟨aK,e,⟨e ▸ aa.s,b7.weak (fun x(ay:x∈([]:List ag))=>nomatch ay) _ aa.f,aL,fb,fun d hd=>⟨(f d hd).1,dj (vu (e ▸ List.mem_map_of_mem hd)) aj⟩,fun d hd=>(f d hd).2,by rw[e,cq]at aZ;exact aZ,?_,aw,j9⟩⟩
 rw[<-e]
 exact⟨BG.mpr ((List.Pairwise.and aa.o aa.u).imp fun{a b}h=>by rcases MG a b with x|x|x;exact x;exact absurd x h.2;exact absurd x h.1),by omega,aj⟩
theorem i1.ZS{c:dF}{bS ai:ag}(aa:i1 cn c hh H p bS ai aW l L m v g rs gH ws)(k:∀b u,b≠l->H b=J u->H' b=J u)(aC:H' l=J (.lst (c2 []))):i1 cn c hh H' p bS ai aW l L m v g [] gH ws:=by
 obtain⟨ns,e,aZ⟩:=aa.q
 have k3:∀b u,b∉[p,bS,l]->H b=J u->H' b=J u:=fun b u n e=>k b u (fun z=>n (by rw[z];exact dP _ (dP _ (eI ..)))) e
 exact⟨⟨ns,k _ _ aa.b e,aZ⟩,⟨k _ _ aa.ne.2 aa.s.1,aC⟩,cQ.keep k3 _ aa.d,b7.keep k3 _ aa.f,k3 _ _ aa.n aa.k,aa.n,cm.keep k3 _ aa.w,(fun r h=>nomatch h),.nil,List.nodup_nil,fun b u e=>k b u (eB e aa.a.2.2) (aa.z b u e),aa.a,aa.b⟩
theorem cv.Ii{sp:b0}(F:cv P w K mg base (hJ P w) k f fd aI sp):cv P w K mg base c8 k f fd aI (fun vs H Q _=>sp vs H Q fun _ _ _=>False) :=
 ⟨fun vs H Q _ h=>F.len vs H Q _ h,fun A outer s H args us vs Q E az he aj b5 hs=>m3 (F.run A outer s H args us vs Q _ az he aj b5 hs) fun r aX h=>by
  cases r with
  |ok x=>cases x<;>exact h
  |error e=>obtain⟨_,_,_,_,_,_,_,_,_,_,_,_,_,_,_,z⟩:=h;exact z.elim⟩
theorem p1.Ii{C:ag}{m:ah}{sp:b0}(h:p1 P w K mg base k C m aI sp):fZ P w K mg base k C m aI (fun vs H Q _=>sp vs H Q fun _ _ _=>False):=by
 obtain⟨f,fd,F,a,b⟩:=h
 exact⟨f,fd,cv.Ii F,a,b⟩
inductive PT(K:bK)(vs:List V)(H:aq)(Q:bG)(E:bT):Prop where
 |mk (a:ag) (ns:List Int) (bg:vs=[.ref a]) (al:c3 K H a (ns.map V.int)) (aw:ns.length<=63) (bq:∀H',Q (.aE au) H'):PT K vs H Q E
def CZ(K:bK):b0:=fun vs H Q E=>PT K vs H Q E
theorem He{gD hW h8 jY R:eW}{D:Ends}(h:∀kt:eW,(∀ae H,R D ae H->kt D ae H)->mj gD (mj hW (mj h8 (mj jY kt))) D ae H):mj gD (mj hW (mj h8 (mj jY R))) D ae H:=h R fun _ _ z=>z
def aho(cn eE:ag)(c:dF)(n:Nat):b0:=fun vs H Q _=>IW cn eE c n vs H Q fun _ _ _=>False
theorem ads{a b:V}(h:a=b)(k:B):if(!decide (a=b))=au then A else B:=by
 rw[fu h];exact k
theorem abb{a b:Int}(h:k<2):e5 [V.int a,V.int b] ((k:Nat):Int)=J (.int (if k=0 then a else b)):=by
 match k,h with
 |0,_=>exact dz (j:=0) I
 |1,_=>exact dz (j:=1) I
set_option maxHeartbeats 4000000 in
theorem Za{f:ag}{c:dF}{fd:ho}(nb:dD mg)(T:my K cn)(eg:ff K cn)(F:c1 K "law" "law" F9 f fd)
  (DH:bp P w K mg base 1 "_law_pool" ["_law_script"] (Qg K)) (iJ:bp P w K mg base 1 "_law_next" ["_law_pool_here"] zd) (sd:bp P w K mg base 6 "_law_form" ["_law_pool_here","_law_deep"] (CY 3)) (pR:bp P w K mg base 10 "_law_made" ["_law_form_here"] (C0 c 3)) (oX:bp P w K mg base 6 "_law_value" ["_law_pool_here","_law_form_here"] (C4 3))
  (u1:jl P w K mg base 1 "Shelf" cn ["self","form","room"] (IZ cn)) (Sm:fZ P w K mg base 12 cn "put" ["self","value"] (aho cn eE c 3)) (sv:fZ P w K mg base 13 cn "told" ["self","start","end"] (I4 cn c 3)) (u4:fZ P w K mg base 1 cn "size" ["self"] (I0 cn)) (sf:bp P w K mg base 6 "_law_state" ["_law_shelf"] (I3 cn)) (qM:bp P w K mg base 13 "_law_asked" ["_law_shelf","_law_way","_law_value_here"] (IH cn c 3))
  (w3:bp P w K mg base 14 "_law_refuses" ["_law_shelf","_law_made_here","_law_some"] (Ql cn c)) (DJ:bp P w K mg base 4 "_law_rooms" ["_law_made_here","_law_far"] Qp):cv P w K mg base c8 15 f fd ["_law_script"] (CZ K):=by
 refine F.fA oc (fun bl A _ s H vs Q E az h=>?_)
 obtain⟨a,aeP,rfl,c9,aC,q⟩:=h
 refine⟨_,(aP (bZ 1 oc.bB (bX DH az (ao (af 0) aB) (hk:=by omega)))
  (aP (bZ 2 oc.bB (bX iJ az (ao (af 1) aB) (hk:=by omega)))
  (aP (bZ 3 oc.bB (bX sd az (ao (af 1) (ao (aS d2 (af 2) aD) aB)) (hk:=by omega)))
  (aP (bZ 4 oc.bB (bX pR az (ao (af 3) aB) (hk:=by omega)))
  (aP (bZ 5 oc.bB (pW u1 az (ao (af 4) (ao (aS ed aD (aS d2 (aS hx (af 2) aD) (cV cX (eJ (ao aD (ao aD aB))) (aS d2 (aS hx (af 2) aD) aD)))) aB)) (hk:=by omega)))
  (aP (bZ 6 oc.bB (eJ (ao (bX oX az (ao (af 1) (ao (bX sd az (ao (af 1) (ao (aS d2 (aS hx (af 2) aD) aD) aB)) (hk:=by omega)) aB)) (hk:=by omega)) (ao mv (ao cT (ao (js aB) (ao (eJ (ao gg aB)) (ao (js (ao cT (ao aD aB))) aB))))))))
  (aP (cz (i6 (hy (bX w3 az (ao (af 5) (ao (af 4) (ao (af 6) aB))) (hk:=by omega)))) (aQ (bx gg)) cy)
  (aP (ll h5.never rfl (ob rfl nb.lP (ao (aS ed aD (aS d2 (aS hx (af 2) aD) aD)) aB)) (eo (i:=7) oc.bB rfl (by exact Or.inl I))
   (aQ (ih (sJ Sm eg az (af 5) (ao (bX oX az (ao (af 1) (ao (af 3) aB)) (hk:=by omega)) aB) (hk:=by omega)))))
  (aP (cz (i6 (hy (bX w3 az (ao (af 5) (ao (af 4) (ao (af 6) aB))) (hk:=by omega)))) (aQ (bx gg)) cy)
  (aP (bZ 8 oc.bB (sJ sv eg az (af 5) (ao cT (ao mv aB)) (hk:=by omega)))
  (aP (ll h5.never rfl (iT (af 8)) (eo (i:=9) oc.bB rfl (by exact Or.inl I))
   (aQ (cz (gi.pt (ks (b6 (rG (qD az)) (bX qM az (ao (af 5) (ao aD (ao (af 9) aB))) (hk:=by omega)) (eJ aB)) (lk (b6 (rG (qD az)) (bX qM az (ao (af 5) (ao aD (ao (af 9) aB))) (hk:=by omega)) (eJ aB))))) (aQ (bx gg)) cy)))
  (aP (ll h5.never rfl (iT (af 8)) (eo (i:=9) oc.bB rfl (by exact Or.inl I))
   (aQ (cz (b6 (rG (qD az)) (bX qM az (ao (af 5) (ao aD (ao (af 9) aB))) (hk:=by omega)) (eJ aB)) (aQ (bx gg)) cy)))
  (aP (cz (gi.pt (ks (b6 (rG (qD az)) (ig u4 eg az (af 5) (hk:=by omega)) aD) (ks (b6 (rG (qD az)) (bX sf az (ao (af 5) aB) (hk:=by omega)) (eJ (ao aD (ao (eJ aB) (ao (eJ aB) aB))))) (lk (i6 (hy (bX w3 az (ao (af 5) (ao (af 4) (ao (af 6) aB))) (hk:=by omega)))))))) (aQ (bx gg)) cy)
  (aQ (bx (bX DJ az (ao (af 4) (ao (aS d2 (bX iJ az (ao (af 1) aB) (hk:=by omega)) (aS vx aD aD)) aB)) (hk:=by omega))))))))))))))))),?_⟩
 try dsimp only[cG,cH,cI,cJ]
 refine He fun JT ri=>?_
 refine gU fun N cK=>⟨_,I,a,aeP,I,c9,aC,fun p ms aO hm=>cK _ _ ?_⟩
 have z6:=dc (o:=cZ.lst (ms.map V.int)) aO
 have Ca:kr p (upd H p (.lst (ms.map V.int))):=⟨ms,aG,hm⟩
 generalize upd H p (.lst (ms.map V.int))=H1 at z6 Ca ⊢
 have OV:p∈[p]:=ft.mpr rfl
 have Cc:∀H',es p H1 H'->d7 H H':=fun H' G b u e=>G.k _ _ (eB e aO) (z6 _ _ e)
 have H5:∀H',es p H1 H'->m8 [p] H':=fun H' G x ay=>by rw[ft.mp ay];obtain⟨n,e,_⟩:=G.l;exact⟨_,e⟩
 refine gU fun N cK=>⟨_,I,p,I,Ca,fun dA ew qr=>cK _ _ ?_⟩
 have cp:=es.pop (ns:=ew) Ca qr
 generalize upd H1 p (.lst (ew.map V.int))=ax at cp ⊢
 obtain⟨l4,NL,Gm⟩:=jH dA 3 (by decide)
 have Gm:dA%3=((l4:Nat):Int):=Gm
 refine gU fun N cK=>⟨_,I,_,I,_,_,I,I,(by show(0:Int)<3;decide),p,l4,[p],by rw[<-Gm];rfl,NL,cp.l,OV,H5 _ cp,fun v bJ g fx cc=>cK _ _ ?_⟩
 have aT:=cc.o
 have cS:bo g<=3:=dj cc.h NL
 have g7:dI g<=41:=dj cc.s (by omega)
 have DS:=cp.trans fx
 have has:∀H',es p H1 H'->km [p] H':=fun H' G x ay=>by obtain⟨l,e⟩:=H5 _ G x ay;exact⟨_,e⟩
 refine gU fun N cK=>⟨_,I,v,g,[p],I,has _ DS,cc.d,aT,cS,fun aW gv uK Nu=>cK _ _ (ri _ _ ?_)⟩
 clear ri cK
 have nB:=cQ.same uK.s cc.d
 have zz:=DS.ext uK
 have jY:=Cc _ zz
 refine He fun JT ri=>?_
 obtain⟨k2,ou,xU⟩:=jH (dA/57) 2 (by decide)
 have xU:dA/57%2=((k2:Nat):Int):=xU
 have Hw:(0:Int)<(if k2=0 then 3 else 19):=by split<;>decide
 obtain⟨yJ,N4,aao⟩:∃yJ:Nat,yJ<=18/\dA/3%(if k2=0 then 3 else 19)=((yJ:Nat):Int):=by
  have al:=hu (dA/3) (Int.ne_of_gt Hw)
  have aw:=hL (dA/3) Hw
  have bq:(if k2=0 then(3:Int)else 19)<=19:=by split<;>decide
  exact⟨(dA/3%(if k2=0 then 3 else 19)).toNat,by omega,by omega⟩
 refine gU fun N cK=>⟨_,I,_,I,_,_,I,I,⟨by decide,by decide⟩,lz,fun cg k1=>⟨_,rfl,_,_,rfl,rfl,⟨by decide,by decide⟩,_,_,rfl,rfl,(by show(0:Int)<2;decide),?_⟩⟩
 dsimp only
 rw[xU]
 refine .inl (.inl ⟨_,_,_,_,I,I,bF aG,abb ou,_,_,I,I,Hw,?_⟩)
 dsimp only
 rw[aao]
 refine .inl ⟨_,_,I,I,fun bS ai wx wu CE=>?_⟩
 refine⟨bS,ai,aW,_,I,aG,by omega,by omega,fun l lJ=>⟨rfl,cK _ _ ?_⟩⟩
 clear cK
 rw[fX]
 have gG:=Ext.lst (xs:=[V.int 3,V.int 19]) k1
 generalize upd gv cg (.lst [V.int 3,V.int 19])=fB at gG wx wu lJ ⊢
 have rD:l≠bS:=fun z=>by rw[z,aG]at lJ;cases lJ
 rw[bt rD]at lJ
 obtain⟨m,hm⟩:∃m:Nat,m=2+yJ:=⟨_,rfl⟩
 have em:(2:Int)+((yJ:Nat):Int)=((m:Nat):Int):=by omega
 rw[em]
 have jx:upd (upd fB ai (.own bS)) bS (.ins cn ai (iD aW ((m:Nat):Int) l)) l=av:=by rw[bt rD];exact lJ
 have jZ:=(Ext.made (C:=cn) (fs:=iD aW ((m:Nat):Int) l) wx wu CE).trans (Ext.lst (xs:=[]) jx)
 have ph:l0 (upd (upd (upd fB ai (.own bS)) bS (.ins cn ai (iD aW ((m:Nat):Int) l))) l (.lst [])) bS cn ai aW ((m:Nat):Int) l []:=⟨by rw[bt (d1 rD)];exact aG,aG⟩
 have yO:fB l=av:=by
  by_cases z:l=ai
  .rw[z];exact wu
  .rw[bt z]at lJ;exact lJ
 generalize upd (upd (upd fB ai (.own bS)) bS (.ins cn ai (iD aW ((m:Nat):Int) l))) l (.lst [])=d5 at jZ ph ⊢
 have J7:=gG.trans jZ
 have zA:=zz.ext J7
 obtain⟨aeM,BV,Oa⟩:=zA.l
 have CG:p≠l:=fun z=>by
  obtain⟨OE,f7,_⟩:=zz.l
  have:=gG.s _ _ f7
  rw[z,yO]at this;cases this
 have ur:∀x,x∈[p,bS,l]->x∈l::bS::[p]:=fun x ay=>by
  rcases tH ay with rfl|rfl|rfl
  .exact dP _ (dP _ (eI ..))
  .exact dP _ (eI ..)
  .exact eI ..
 have Nv:b7 c [p,bS,l] d5 g aW:=b7.keep (fun b u _ e=>jZ.s b u e) _ (b7.weak ur _ (b7.add yO _ (b7.add wx _ (b7.keep (fun b u _ e=>gG.s b u e) _ Nu))))
 have NI:cQ [p,bS,l] d5 (gA g) v:=cQ.same jZ.s (cQ.weak ur _ (cQ.add yO _ (cQ.add wx _ (cQ.same gG.s nB))))
 have sz:=Cc _ zA
 have yK:H p=av/\H bS=av/\H l=av:=⟨aO,(jY.trans gG.s).free wx,(jY.trans gG.s).free yO⟩
 clear Nu nB gG jZ J7 lJ jx CE wu wx yO zz DS cp fx cc uK Ca jY
 obtain⟨M1,Cg,Gn⟩:=jH (dA/60) 3 (by decide)
 have Gn:dA/60%3=((M1:Nat):Int):=Gn
 have Ow:m8 [p,l] d5:=fun x ay=>by
  rcases cR.mp ay with rfl|ay
  .exact⟨_,BV⟩
  .rw[ft.mp ay];exact⟨_,ph.2⟩
 refine gU fun N cK=>⟨_,I,_,I,_,I,_,_,I,I,⟨by decide,by decide⟩,_,_,rfl,rfl,(by show(0:Int)<3;decide),p,M1,[p,l],(by rw[<-Gn];rfl),Cg,⟨aeM,BV,Oa⟩,eI ..,Ow,fun v2 jj g2 uM oo=>?_⟩
 have Im:p≠bS:=fun z=>by have:=ph.1;rw[<-z,BV]at this;cases this
 have HD:=uM.k _ _ (d1 Im) ph.1
 refine⟨p,v2,g2,[bS,p,l],I,dP _ (eI ..),uM.l,?_,cQ.vA HD _ oo.d,oo.o,dj oo.h Cg,dj oo.s (by omega),fun x0 ja zD zB yA NP ab7 _=>?_⟩
 ·intro x ay
  rcases tH ay with rfl|rfl|rfl
  .exact⟨_,HD⟩
  .obtain⟨qy,ZZ,_⟩:=uM.l;exact⟨_,ZZ⟩
  .exact⟨_,uM.k _ _ (d1 CG) ph.2⟩
 refine⟨UF _,fun t1 H0=>⟨mw,fun gV H2=>⟨lz,fun t3 H3=>⟨(by show 6<=bU;decide),fun L HY=>cK _ _ ?_⟩⟩⟩⟩
 clear cK
 have sj:=uM.trans zB
 have OP:=qa g2 ja oo.o NP
 have vh:=Ext.tup (xs:=[]) H0
 have vi:=Ext.lst (xs:=[V.aE au]) H2
 have vj:=Ext.tup (xs:=[V.str (ah.ofString "a"),V.int 0]) H3
 have vk:=Ext.lst (xs:=[x0,.bc,.str (ah.ofString "a"),.ref t1,.ref gV,.ref t3]) HY
 have bq:∀{H':aq}{t:ag},Ext zD H'->H' t=av->t∉[p,bS,l]:=fun{H' t}X e z=>by
  have xS:=X.s.free e
  rcases tH z with rfl|rfl|rfl
  .obtain⟨Ia,e,_⟩:=zB.l;rw[xS]at e;cases e
  .rw[sj.k _ _ (d1 Im) ph.1]at xS;cases xS
  .rw[sj.k _ _ (d1 CG) ph.2]at xS;cases xS
 have ew:=bq (Ext.refl _) H0
 have dZ:=bq vh H2
 have tI:=bq (vh.trans vi) H3
 have mS:=bq ((vh.trans vi).trans vj) HY
 have Rb:∀x,x∈[p,bS,l]->x∈[bS,p,l]:=fun x ay=>by
  rcases tH ay with rfl|rfl|rfl
  .exact dP _ (eI ..)
  .exact eI ..
  .exact dP _ (dP _ (eI ..))
 have aU:=(vi.trans (vj.trans vk)).s _ _ (aG (H:=zD) (a:=t1) (o :=.tup []))
 have Oh:cQ [p,bS,l] _ ja x0:=cQ.same (vh.trans (vi.trans (vj.trans vk))).s (cQ.weak Rb _ yA)
 have aa:i1 cn c H _ p bS ai aW l L m v g [] [ja,.bc,.str (ah.ofString "a"),.tup [],.lst [.aE au],.tup [.str (ah.ofString "a"),.int 0]] [x0,.bc,.str (ah.ofString "a"),.ref t1,.ref gV,.ref t3] :=
  have xl:=vh.trans (vi.trans (vj.trans vk))
  have ry:∀b u,b∉[p,bS,l]->d5 b=J u->_:=fun b u n e=>xl.s b u (sj.k b u (fun z=>n (by rw[z];exact eI ..)) e)
  ⟨kr.ext zB.l xl,⟨xl.s _ _ (sj.k _ _ (d1 Im) ph.1),xl.s _ _ (sj.k _ _ (d1 CG) ph.2)⟩,cQ.keep ry _ NI,b7.keep ry _ Nv,aG,mS,
   ⟨_,_,rfl,Oh,_,_,rfl,rfl,_,_,rfl,⟨rfl,by decide⟩,_,_,rfl,⟨t1,_,rfl,ew,aU,rfl,by decide⟩,_,_,rfl,⟨gV,_,rfl,dZ,(vj.trans vk).s _ _ aG,⟨_,_,rfl,rfl,rfl⟩,by decide⟩,_,_,rfl,⟨t3,_,rfl,tI,vk.s _ _ aG,⟨_,_,rfl,⟨rfl,by decide⟩,_,_,rfl,rfl,rfl⟩,by show 2<=1000;decide⟩,rfl⟩,
   (fun r h=>nomatch h),.nil,List.nodup_nil,Cc _ ((zA.trans sj).ext xl),yK,CG⟩
 have CM:rH [ja,.bc,.str (ah.ofString "a"),.tup [],.lst [.aE au],.tup [.str (ah.ofString "a"),.int 0]]:=⟨OP,trivial,trivial,trivial,⟨trivial,trivial⟩,⟨trivial,(by show(0:Int).natAbs<2^390;decide+kernel),trivial⟩,trivial⟩
 generalize upd _ L _=DW at aa ⊢
 generalize [ja,.bc,.str (ah.ofString "a"),.tup [],.lst [.aE au],.tup [.str (ah.ofString "a"),.int 0]]=gH at aa CM
 generalize [x0,.bc,.str (ah.ofString "a"),.ref t1,.ref gV,.ref t3]=ws at aa
 clear Oh aU ew dZ tI mS Rb bq vh vi vj vk sj OP yA NP ab7 zB uM oo HD Ow ur Nv NI ph sz has H5 Cc OV zA BV Oa yK H0 H2 H3 HY
 have aw:2<=m:=by omega
 have j9:m<=20:=by omega
 have yu:=Bu _ aT
 obtain⟨aax,_,Sq⟩:=aa.IF aT cS aw j9 (by decide) (by decide)
 refine gU fun N cK=>⟨_,I,_,I,_,I,bS,ai,aW,l,L,m,g,aax,gH,ws,I,Sq,aa.k,cm.at _ aa.w,CM,fun aji SE=>⟨_,I,dx (cK _ _ ?_)⟩⟩
 clear cK
 have aa:=aa.ext SE
 obtain⟨eK,NX,BS⟩:=jH (dA/180) 10 (by decide)
 have BS:dA/180%10=((eK:Nat):Int):=BS
 refine gU fun N cK=>⟨_,I,_,_,I,I,⟨by decide,by decide⟩,_,_,rfl,rfl,(by show(0:Int)<10;decide),.inl ⟨_,_,rfl,rfl,1+dA/180%10,rfl,by omega,by omega,?_⟩⟩
 refine qW (fun i ae ax=>∃z l rs,ae=[J (.ref a),J (.ref p),J (.int dA),J v,J (.ref aW),J (.ref bS),J (.ref L),z,av,av]/\i1 cn c H ax p bS ai aW l L m v g rs gH ws/\rs.length<=i/\(rs.map List.length).sum<=150000*(90-pl ax p)+12300*i) ?_ ?_ ?_
 .exact⟨_,l,[],I,aa,cE _,UF _⟩
 ·rintro i ae ax aJ ⟨z,l,rs,rfl,aa,aZ,aj⟩
  have aJ:i<10:=by omega
  refine⟨_,I,bS,ai,_,I,aa.s.1,oK ..,_,I,_,I,p,v,g,[p],I,ft.mpr I,aa.q,(fun x ay=>by rw[ft.mp ay];obtain⟨n,e,_⟩:=aa.q;exact⟨_,e⟩),cQ.weak (fun x ay=>by rw[ft.mp ay];exact eI ..) _ aa.d,aT,cS,by omega,fun x d bJ hg ay aH fb b8=>?_⟩
  have gM:=aa.grow hg
  have aj7:pl ax p<=90:=by obtain⟨n,e,aZ⟩:=aa.q;rw[vy e,cq];exact aZ
  obtain⟨ajJ,ajK⟩:=b8
  refine⟨bS,ai,aW,l,_,x,g,d,rs,I,gM.s,b7.weak (fun x(ay:x∈([]:List ag))=>nomatch ay) _ gM.f,yu,cS,cQ.at _ ay,qa g d aT aH,by omega,.inl ⟨aH,by omega,fun gp=>?_,fun acw gq ss yr HE Hv=>?_⟩⟩
  .exact⟨_,l,rs,I,gM,by omega,by omega⟩
  ·have lh:=gM.put yr acw HE Hv aH (by omega)
   have aaq:pl (upd (upd bJ bS (.ins cn ai (iD aW ((m:Nat):Int) gq))) gq (.lst (c2 ss))) p=pl bJ p:=by
    obtain⟨tI,eM,_⟩:=gM.q
    unfold pl
    rw[bt (eB eM yr),bt gM.ne.1]
   have HG:=(Hv.map List.length).sum_nat
   rw[gf,List.sum_append,gF,List.map_nil,List.sum_cons,List.sum_nil]at HG
   exact⟨_,gq,ss,I,lh,by rw[Hv.length_eq,ee];show rs.length+1<=_;omega,by rw[aaq];omega⟩
 rintro ae ajj ⟨z,l,rs,rfl,aa,aZ,aj⟩
 have aZ:rs.length<=10:=by omega
 have aj:(rs.map List.length).sum<=15000000:=by omega
 refine cK _ _ (ri _ _ ?_)
 clear cK ri
 refine He fun JT ri=>?_
 obtain⟨aK,aaw,S⟩:=aa.IF aT cS aw j9 aZ aj
 subst aaw
 refine gU fun N cK=>⟨_,I,_,I,_,I,bS,ai,aW,l,L,m,g,aK,gH,ws,I,S,aa.k,cm.at _ aa.w,CM,fun JG J5=>⟨_,I,dx (cK _ _ ?_)⟩⟩
 clear cK
 have aa:=aa.ext J5
 have S:=S.ext J5
 have BR:aK.filter (fun d=>pC [] .bc (bD dv g d))=aK:=List.filter_eq_self.mpr fun d _=>Mt _
 refine gU fun N cK=>⟨_,I,bS,ai,_,I,S.s.1,oK ..,bS,ai,aW,l,_,g,aK,[],.bc,(by rw[y2];rfl),S.s,S.f,yu,S.h,S.v,by have:=S.n;omega,.inl rfl,fun t9 rU Sd aeN J6 Hz mL=>cK _ _ ?_⟩
 clear cK
 rw[BR]at mL
 have gM:=aa.ext J6
 have h8:=S.ext J6
 have ad3:=dn.len aK (cm.at _ mL)
 have akk:=S.n
 refine gU fun N cK =>.inl ⟨_,I,t9,I,⟨_,bF Hz⟩,Bk (K:=K) (a:=t9) (xs:=rU) (fun i ae ax=>Ext Sd ax/\∃y,ae=[J (.ref a),J (.ref p),J (.int dA),J v,J (.ref aW),J (.ref bS),J (.ref L),z,J (.ref t9),y]) ?_ (fun i ae ax _ h=>bF (h.1.s _ _ Hz)) ?_ ?_⟩
 .exact⟨Ext.refl _,_,I⟩
 ·rintro i x ae ax ay ⟨gj,y,rfl⟩
  obtain⟨d,hd,rr⟩:=dn.get aK (cm.at _ mL) ay
  obtain⟨hB,cB⟩:=S.v d (hY hd)
  have CL:=qa g d aT hB
  have gp:bD dv g d∈aK.map (bD dv g):=List.mem_map_of_mem (hY hd)
  have hW:=h8.ext gj
  have hle:(aK.map (bD dv g)).length<60:=by rw[cq];omega
  refine⟨_,I,_,I,bS,ai,aW,l,_,x,g,d,_,2,I,by decide,hW.s,hW.f,yu,cS,d4.same gj.s _ rr,CL,hle,.inr (.inl ⟨hB,cB,by decide,gp,fun t8 gv jo tw=>⟨UF _,fun f7 yh =>.inr ⟨_,_,o1 (bs:=[]) ((Ext.lst yh).s _ _ tw) (by decide),o1 (bs:=[]) aG (by decide),xC _,_,rfl,?_⟩⟩⟩)⟩
  rw[qX]
  have gG:=gj.trans (jo.trans (Ext.lst (xs:=[]) yh))
  generalize upd gv f7 _=fB at gG ⊢
  have z7:=h8.ext gG
  refine dx ⟨_,I,_,I,bS,ai,aW,l,_,x,g,d,_,0,I,by decide,z7.s,z7.f,yu,cS,d4.same gG.s _ rr,CL,hle,.inr (.inl ⟨hB,cB,by decide,gp,fun IB d5 jZ acL=>⟨UF _,fun M4 NO =>.inr ⟨_,_,o1 (bs:=[]) ((Ext.lst NO).s _ _ acL) (by decide),o1 (bs:=[]) aG (by decide),xC _,_,rfl,?_⟩⟩⟩)⟩
  rw[qX]
  exact dx ⟨gG.trans (jZ.trans (Ext.lst (xs:=[]) NO)),_,I⟩
 rintro ae DV ⟨sF,y,rfl⟩
 refine cK _ _ ?_
 clear cK
 have lh:=gM.ext sF
 have Od:=sF.s _ _ Hz
 have abO:=cm.same sF.s mL
 have aeO:t9≠l:=(eB aa.s.2 aeN).symm
 refine gU fun N cK =>.inl ⟨_,I,t9,I,⟨_,bF Od⟩,Bk (K:=K) (a:=t9) (xs:=rU) (fun i ae ax=>(∀b u,b≠l->DV b=J u->ax b=J u)/\ax l=J (.lst (c2 ((aK.drop i).map (bD dv g))))/\∃y,ae=[J (.ref a),J (.ref p),J (.int dA),J v,J (.ref aW),J (.ref bS),J (.ref L),z,J (.ref t9),y]) ?_ (fun i ae ax _ h=>bF (h.1 _ _ aeO Od)) ?_ ?_⟩
 .exact⟨fun _ _ _ e=>e,lh.s.2,_,I⟩
 ·rintro i x ae ax ay ⟨k,gR,y,rfl⟩
  have eK:∀b u,b∉eP.of JG->DV b=J u->ax b=J u:=fun b u n e=>k b u (fun z=>n (by rw[z];exact(show ∃o,JG l=J o from⟨_,aa.s.2⟩))) e
  obtain⟨d,hd,rr⟩:=dn.get aK (cm.at _ (cm.keep eK _ abO)) ay
  obtain⟨hB,cB⟩:=S.v d (hY hd)
  have CL:=qa g d aT hB
  have j2:aK.drop i=d::aK.drop (i+1):=by
   obtain⟨aJ,e⟩:=i4.mp hd
   rw[<-e];exact q4 aJ
  have k3:∀b u,b∉[p,bS,l]->DV b=J u->ax b=J u:=fun b u n e=>k b u (fun z=>n (by rw[z];exact dP _ (dP _ (eI ..)))) e
  refine⟨_,I,_,I,bS,ai,aW,l,_,x,g,d,_,1,I,by decide,⟨k _ _ lh.ne.2 lh.s.1,gR⟩,b7.weak (fun x(ay:x∈([]:List ag))=>nomatch ay) _ (b7.keep k3 _ lh.f),yu,cS,rr,CL,(by rw[cq,kv];omega),.inr (.inr ⟨hB,cB,rfl,(aK.drop (i+1)).map (bD dv g),by rw[j2];rfl,fun t8 gv jo tw=>⟨UF _,fun f7 yh =>.inr ⟨_,_,o1 (bs:=[]) ((Ext.lst yh).s _ _ tw) (by decide),o1 (bs:=[]) aG (by decide),xC _,_,rfl,?_⟩⟩⟩)⟩
  rw[qX]
  have gG:=jo.trans (Ext.lst (xs:=[]) yh)
  exact dx ⟨fun b u n e=>gG.s b u (by rw[bt n];exact k b u n e),gG.s _ _ aG,_,I⟩
 rintro ae ajk ⟨k,NZ,iX,rfl⟩
 rw[ad3,List.drop_length,List.map_nil]at NZ
 have kn:=lh.ZS k NZ
 refine cK _ _ (ri _ _ ?_)
 clear cK ri
 obtain⟨aay,_,z7⟩:=kn.IF aT cS aw j9 (by decide) (by decide)
 have Na:zi [] m=.lst [.int 0,.lst [],.lst []]:=by
  have aU:=F3 (n:=0) (m:=m) (by omega)
  have ba:=F2 (n:=0) (m:=m) (by omega)
  unfold zi wA oF pA
  rw[show([]:List (List Bool)).length=0 from rfl,Nat.le_zero.mp aU,Nat.le_zero.mp ba];rfl
 refine gU fun N cK=>⟨_,I,bS,ai,_,I,kn.s.1,oK ..,bS,ai,aW,l,_,[],I,kn.s,by decide,.inl ⟨rfl,_,rfl,ads rfl ⟨_,rfl,bS,ai,aW,l,m,[],rfl,kn.s,aw,j9,⟨trivial,by decide,by decide⟩,fun IB ajl SF jM=>⟨UF _,fun gc adR=>⟨UF _,fun dt adS=>⟨Bc,fun qK adT=>?_⟩⟩⟩⟩⟩⟩
 rw[Na]at jM
 have J4:=Ext.lst (xs:=[]) adR
 have Eo:=Ext.lst (xs:=[]) adS
 have Ac:=Ext.lst (xs:=[V.int 0,V.ref gc,V.ref dt]) adT
 have Er:=SF.trans (J4.trans (Eo.trans Ac))
 refine .inr ⟨_,.lst [.int 0,.lst [],.lst []],d4.same (J4.trans (Eo.trans Ac)).s _ jM,⟨qK,_,I,aG,⟨_,_,I,I,_,_,I,⟨gc,_,I,(Eo.trans Ac).s _ _ aG,I,by decide⟩,_,_,rfl,⟨dt,_,rfl,Ac.s _ _ aG,rfl,by decide⟩,rfl⟩,by show 3<=1000;decide⟩,(by rw[<-Na];exact MO _ _),_,rfl,?_⟩
 rw[qX]
 generalize upd _ qK _=ajm at Er ⊢
 have lj:=kn.ext Er
 refine dx ⟨_,I,_,I,_,I,bS,ai,aW,l,L,m,g,aay,gH,ws,I,z7.ext Er,lj.k,cm.at _ lj.w,CM,fun ajn SG=>⟨_,I,dx (cK _ _ ?_)⟩⟩
 clear cK
 have m7:=lj.ext SG
 refine⟨_,I,_,I,p,I,m7.q,fun g0 dZ me=>?_⟩
 have G:=es.pop (ns:=dZ) m7.q me
 have rL:w0 10 59:=by refine⟨?_,?_,?_⟩<;>decide
 refine⟨_,_,I,I,rL,_,_,I,I,(by show(0:Int)<10^Int.toNat 59;decide+kernel),aW,_,I,fun ajo SH=>⟨H,.refl ?_,q _⟩⟩
 exact((m7.grow G).ext SH).z
def uB(x q:ah)(st:bz)(aI:List ah):Prop:=∀(gK doc pm:ar)(an:Option ag)(bl ct:ar)(us:List ar),us.length=aI.length->bindArgs (oS x q (pa st) (kA st) (bI st) .none gK doc pm an bl ct) ⟨us,[]⟩=pure (aI.zip us)
theorem gk{x a:ah}{st:bz}(h:∀(gK doc pm:ar)(an:Option ag)(bl ct u:ar),bindArgs (oS x q (pa st) (kA st) (bI st) .none gK doc pm an bl ct) ⟨[u],[]⟩=pure [(a,u)]:=by intros;rfl):uB x q st [a]:=fun _ _ _ _ _ _ us aC=>by
 rcases us with _|⟨_,_|⟨_,_⟩⟩<;>first|exact h .. |cases aC
theorem c5{x a b:ah}{st:bz}(h:∀(gK doc pm:ar)(an:Option ag)(bl ct u v:ar),bindArgs (oS x q (pa st) (kA st) (bI st) .none gK doc pm an bl ct) ⟨[u,v],[]⟩=pure [(a,u),(b,v)]:=by intros;rfl):uB x q st [a,b]:=fun _ _ _ _ _ _ us aC=>by
 rcases us with _|⟨_,_|⟨_,_|⟨_,_⟩⟩⟩<;>first|exact h .. |cases aC
theorem sY{x a b c:ah}{st:bz}(h:∀(gK doc pm:ar)(an:Option ag)(bl ct u v y:ar),bindArgs (oS x q (pa st) (kA st) (bI st) .none gK doc pm an bl ct) ⟨[u,v,y],[]⟩=pure [(a,u),(b,v),(c,y)]:=by intros;rfl):uB x q st [a,b,c]:=fun _ _ _ _ _ _ us aC=>by
 rcases us with _|⟨_,_|⟨_,_|⟨_,_|⟨_,_⟩⟩⟩⟩<;>first|exact h .. |cases aC
structure lg(K:bK)(x:ah)(C:ag):Prop where
 a:fq K ei x=J (J (.ref C))
 cl:ff K C
 wo:zr K C=au
 wd:pJ K (.ref C)=au
theorem cpMk{K:bK}{x:ah}{C:ag}(a:fq K ei x=J (J (.ref C)))(dm:Dv K C ah.empty=au)(cD:Jv K C=au)(It:PySem.W.plainOver K C=au)(yU:e2 K (.ref C) "__setattr__"=J (J (.builtin "object.__setattr__")))(aeY:zr K C=au)(aeZ:pJ K (.ref C)=au):lg K x C:=⟨a,⟨dm,cD,It,yU⟩,aeY,aeZ⟩
def dh(K:bK)(C:ag)(x q:ah)(st:bz):Prop:=∃f fd,c1 K x q st f fd/\sx K C x f
def ej(K:bK)(x:ah)(st:bz):Prop:=∃f fd,c1 K x x st f fd/\fq K ei x=J (J (.ref f))
theorem mpMk{K:bK}{C f:ag}{x:ah}{st:bz}{gK:ar}(a:e2 K (.ref C) x=J (J (.ref f)))(i:Jw K (.ref f)=au)(l:K.lookup f=J ⟨iB,od,.func (oS x q (pa st) (kA st) (bI st) .none gK doc pm an bl ct),mV⟩)(c:Ds K bl q=au)(k:pJ K (.ref f)=au):dh K C x q st:=⟨f,_,MK l c k,a,i,k⟩
theorem fpMk{K:bK}{f:ag}{x:ah}{st:bz}{gK:ar}(a:fq K ei x=J (J (.ref f)))(l:K.lookup f=J ⟨iB,od,.func (oS x x (pa st) (kA st) (bI st) .none gK doc pm an bl ct),mV⟩)(c:Ds K bl x=au)(k:pJ K (.ref f)=au):ej K x st:=⟨f,_,MK l c k,a⟩
theorem dh.at{K:bK}{C:ag}{x:ah}{st:bz}(p:dh K C x q st)(cl:ff K C)(b:uB x q st aI):MethAt K C x q st aI:=by
 obtain⟨f,fd,F,m⟩:=p
 exact⟨⟨f,fd,F,F.binds b,m⟩,cl⟩
theorem ej.at{K:bK}{x:ah}{st:bz}{mg:ah->Option ar}(X:K.In h)(G:h.Ns ei mg)(p:ej K x st)(b:uB x x st aI):∃f fd,dS K mg x st aI f fd:=by
 obtain⟨f,fd,F,a⟩:=p
 exact⟨f,fd,F,F.binds b,fN X G a⟩
theorem dh.mk{x:ah}{C:ag}{st:bz}{sp:b0}(p:dh K C "__init__" q st)(c:lg K x C)(m:mg x=J (.ref C))(b:uB "__init__" q st aI)(h:∀f fd,c1 K "__init__" q st f fd->cv P w K mg base c8 k f fd aI sp):jl P w K mg base k x C aI sp:=by
 obtain⟨f,fd,F,gr⟩:=p
 exact⟨f,fd,⟨c.wo,gr.at_,gr.fn,c.wd⟩,h f fd F,F.binds b,m⟩
set_option maxHeartbeats 16000000 in
theorem Xdw{l:PySem.W.OpenLaw}{w:cM}{K:bK}{mg:ah->Option ar}(X:K.In h)(G:h.Ns ei mg)(abY:mg "law"=J (.ref fa))
  {kK pO pP pQ pN nW m4 oV oU oW nV nU iI hp r5 r7 r2 hf r3 r4 r0 r6 r1:ag} {aii:Tok} {aih:Tok} {ail:Tok} {aif:Tok} {aim:Tok} {aij:Tok} {aie:Tok} {aic:Tok} {aik:Tok} {ain:Tok} {aid:Tok}
  (t2:lg K "Source" kK)
  (tY:lg K "Nothing" pO)
  (t5:lg K "Truth" pP)
  (t7:lg K "Whole" pQ)
  (tV:lg K "Fraction" pN)
  (t4:lg K "Span" nW)
  (rK:lg K "Letters" m4)
  (tX:lg K "Maybe" oV)
  (tW:lg K "Many" oU)
  (t6:lg K "Turned" oW)
  (tZ:lg K "Record" nV)
  (tU:lg K "Choice" nU)
  (nJ:lg K "Shelf" iI)
  (ZE:fq K ei "RiseError"=J (J (.ref iH)))
  (ZA:fq K ei "NoFit"=J (J (.ref hp)))
  (ZF:fq K ei "Short"=J (J (.ref r5)))
  (ZH:fq K ei "Wrong"=J (J (.ref r7)))
  (Zz:fq K ei "Left"=J (J (.ref r2)))
  (ZB:fq K ei "NoForm"=J (J (.ref hf)))
  (ZC:fq K ei "NoText"=J (J (.ref r3)))
  (ZD:fq K ei "NotAhead"=J (J (.ref r4)))
  (Zx:fq K ei "BadPage"=J (J (.ref r0)))
  (ZG:fq K ei "Twice"=J (J (.ref r6)))
  (Zy:fq K ei "Lacking"=J (J (.ref r1)))
  (aew:e2 K (.ref kK) "signs"=J av)
  (aev:e2 K (.ref kK) "place"=J av)
  (aex:e2 K (.ref kK) "turned"=J av)
  (aeu:e2 K (.ref kK) "endless"=J av)
  (aey:e2 K (.ref kK) "wished"=J av)
  (afN:dh K kK "__init__" "Source.__init__" EF)
  (afM:dh K kK "draw" "Source.draw" zX)
  (afP:dh K kK "turn" "Source.turn" zW)
  (afQ:dh K kK "wish" "Source.wish" zV)
  (afO:dh K kK "refuse" "Source.refuse" Kk)
  (adb:e2 K (.ref pO) "__init__"=J (J (.builtin "object.__init__")))
  (afx:dh K pO "fits" "Nothing.fits" zI)
  (afz:dh K pO "written" "Nothing.written" Ag)
  (afw:dh K pO "draw" "Nothing.draw" zJ)
  (afy:dh K pO "row" "Form.row" kR)
  (ade:e2 K (.ref pP) "__init__"=J (J (.builtin "object.__init__")))
  (afX:dh K pP "fits" "Truth.fits" AE)
  (afZ:dh K pP "written" "Truth.written" Ap)
  (afW:dh K pP "draw" "Truth.draw" AF)
  (afY:dh K pP "row" "Form.row" kR)
  (adf:e2 K (.ref pQ) "__init__"=J (J (.builtin "object.__init__")))
  (af6:dh K pQ "fits" "Whole.fits" AB)
  (af8:dh K pQ "written" "Whole.written" Ao)
  (af5:dh K pQ "draw" "Whole.draw" AD)
  (af7:dh K pQ "row" "Form.row" kR)
  (ada:e2 K (.ref pN) "__init__"=J (J (.builtin "object.__init__")))
  (afd:dh K pN "fits" "Fraction.fits" Ar)
  (aff:dh K pN "written" "Fraction.written" Ax)
  (afc:dh K pN "draw" "Fraction.draw" As)
  (afe:dh K pN "row" "Form.row" kR)
  (aeA:e2 K (.ref nW) "low"=J av)
  (aez:e2 K (.ref nW) "high"=J av)
  (afT:dh K nW "__init__" "Span.__init__" E2)
  (afS:dh K nW "fits" "Span.fits" AO)
  (afV:dh K nW "written" "Span.written" zH)
  (afR:dh K nW "draw" "Span.draw" AP)
  (afU:dh K nW "row" "Form.row" kR)
  (aem:e2 K (.ref m4) "signs"=J av)
  (afi:dh K m4 "__init__" "Letters.__init__" Ez)
  (afh:dh K m4 "fits" "Letters.fits" zL)
  (afl:dh K m4 "written" "Letters.written" Ah)
  (afg:dh K m4 "draw" "Letters.draw" zM)
  (afj:dh K m4 "places" "Letters.places" Al)
  (afk:dh K m4 "row" "Form.row" kR)
  (aeo:e2 K (.ref oV) "inner"=J av)
  (aft:dh K oV "__init__" "Maybe.__init__" EP)
  (afs:dh K oV "fits" "Maybe.fits" AK)
  (afv:dh K oV "written" "Maybe.written" Aq)
  (afr:dh K oV "draw" "Maybe.draw" AL)
  (afu:dh K oV "row" "Form.row" kR)
  (aen:e2 K (.ref oU) "inner"=J av)
  (afo:dh K oU "__init__" "Many.__init__" E3)
  (afn:dh K oU "fits" "Many.fits" AS)
  (afq:dh K oU "written" "Many.written" zK)
  (afm:dh K oU "draw" "Many.draw" AU)
  (afp:dh K oU "row" "Form.row" kR)
  (aeB:e2 K (.ref oW) "inner"=J av)
  (af2:dh K oW "__init__" "Turned.__init__" EE)
  (af1:dh K oW "fits" "Turned.fits" zT)
  (af4:dh K oW "written" "Turned.written" Ai)
  (af0:dh K oW "draw" "Turned.draw" zU)
  (af3:dh K oW "row" "Form.row" kR)
  (aeq:e2 K (.ref nV) "names"=J av)
  (aep:e2 K (.ref nV) "forms"=J av)
  (afC:dh K nV "__init__" "Record.__init__" EG)
  (afB:dh K nV "fits" "Record.fits" zZ)
  (afE:dh K nV "written" "Record.written" Ak)
  (afA:dh K nV "draw" "Record.draw" z0)
  (afD:dh K nV "row" "Form.row" kR)
  (ael:e2 K (.ref nU) "names"=J av)
  (aek:e2 K (.ref nU) "forms"=J av)
  (ae9:dh K nU "__init__" "Choice.__init__" EH)
  (ae8:dh K nU "fits" "Choice.fits" z1)
  (afb:dh K nU "written" "Choice.written" Am)
  (ae7:dh K nU "draw" "Choice.draw" z2)
  (afa:dh K nU "row" "Form.row" kR)
  (aer:e2 K (.ref iI) "form"=J av)
  (aes:e2 K (.ref iI) "room"=J av)
  (aet:e2 K (.ref iI) "rows"=J av)
  (OW:dh K iI "__init__" "Shelf.__init__" AJ)
  (afI:dh K iI "put" "Shelf.put" AQ)
  (afK:dh K iI "take" "Shelf.take" AH)
  (afF:dh K iI "has" "Shelf.has" AR)
  (afJ:dh K iI "size" "Shelf.size" AI)
  (afG:dh K iI "pages" "Shelf.pages" zY)
  (afH:dh K iI "partings" "Shelf.partings" Aj)
  (afL:dh K iI "told" "Shelf.told" AG)
  (zo:Dt K hp qd "ValueError.__new__"=au)
  (Jr:Dt K hf qd "ValueError.__new__"=au)
  (adD:fp K (.ref hp) (.ref r5)=J aA)
  (adG:fp K (.ref hp) (.ref r7)=J aA)
  (adz:fp K (.ref hp) (.ref r2)=J aA)
  (adA:fp K (.ref hp) (.ref hf)=J aA)
  (adB:fp K (.ref hp) (.ref r3)=J aA)
  (adC:fp K (.ref hp) (.ref r4)=J aA)
  (adx:fp K (.ref hp) (.ref r0)=J aA)
  (adE:fp K (.ref hp) (.ref r6)=J aA)
  (ady:fp K (.ref hp) (.ref r1)=J aA)
  (adF:fp K (.ref hp) (.type "ValueError")=J au)
  (adK:fp K (.ref hf) (.ref hp)=J aA)
  (adN:fp K (.ref hf) (.ref r5)=J aA)
  (adQ:fp K (.ref hf) (.ref r7)=J aA)
  (adJ:fp K (.ref hf) (.ref r2)=J aA)
  (adL:fp K (.ref hf) (.ref r3)=J aA)
  (adM:fp K (.ref hf) (.ref r4)=J aA)
  (adH:fp K (.ref hf) (.ref r0)=J aA)
  (adO:fp K (.ref hf) (.ref r6)=J aA)
  (adI:fp K (.ref hf) (.ref r1)=J aA)
  (adP:fp K (.ref hf) (.type "ValueError")=J au)
  (aiI:e2 K (.ref iH) "__getattribute__"=J (J (.builtin "BaseException.__getattribute__")))
  (aiL:e2 K (.ref iH) "__getattr__"=J av)
  (aiF:e2 K (.ref iH) "__class__"=J (J (.builtin "object.__class__")))
  (aiR:pL K iH (.type "object")=J au)
  (aiA:pL K iH (.type "BaseException")=J au)
  (aiO:PySem.W.isClsIn K iH=au)
  (Jq:PySem.W.specialIn K (.builtin "object.__class__") "__get__"=J (J (.builtin "getset_descriptor.__get__")))
  (Js:PySem.W.takesIn K (.builtin "object.__class__")=J au)
  (wQ:zt K (.ref iH)=J (.type "type"))
  (aiG:e2 K (.ref hp) "__getattribute__"=J (J (.builtin "BaseException.__getattribute__")))
  (aiJ:e2 K (.ref hp) "__getattr__"=J av)
  (aiD:e2 K (.ref hp) "__class__"=J (J (.builtin "object.__class__")))
  (aiP:pL K hp (.type "object")=J au)
  (aiy:pL K hp (.type "BaseException")=J au)
  (aiM:PySem.W.isClsIn K hp=au)
  (akv:zt K (.ref hp)=J (.type "type"))
  (aiH:e2 K (.ref hf) "__getattribute__"=J (J (.builtin "BaseException.__getattribute__")))
  (aiK:e2 K (.ref hf) "__getattr__"=J av)
  (aiE:e2 K (.ref hf) "__class__"=J (J (.builtin "object.__class__")))
  (aiQ:pL K hf (.type "object")=J au)
  (aiz:pL K hf (.type "BaseException")=J au)
  (aiN:PySem.W.isClsIn K hf=au)
  (akw:zt K (.ref hf)=J (.type "type"))
  (aef:pL K hp (.ref iH)=J au)
  (aeg:pL K hf (.ref iH)=J au)
  (agU:ej K "turned_row" EI)
  (agL:ej K "lower_digits" Ew)
  (ago:ej K "is_count" Ff)
  (agn:ej K "has_whole_row" An)
  (agc:ej K "count_row" E0)
  (agW:ej K "whole_row" ER)
  (agk:ej K "fixed_row" EZ)
  (agg:ej K "draw_lower_digits" Wp)
  (agd:ej K "draw_count" EO)
  (agh:ej K "draw_whole" EM)
  (age:ej K "draw_fixed" EN)
  (agT:ej K "steps_of" E8)
  (af9:ej K "are_steps" E1)
  (agl:ej K "fraction_of" ED)
  (agb:ej K "common_divisor" DZ)
  (agp:ej K "is_fraction" EC)
  (agm:ej K "has_fraction_row" DY)
  (agR:ej K "row_of_steps" Eu)
  (agf:ej K "draw_fraction" Eg)
  (agr:ej K "is_number" EY)
  (agM:ej K "made_of" Fn)
  (agq:ej K "is_name" Fo)
  (agN:ej K "names_of" Fa)
  (agV:ej K "value_of" E7)
  (agQ:ej K "read_all" E9)
  (agj:ej K "first_unlike" Ey)
  (agS:ej K "shared_signs" Et)
  (agP:ej K "parting_of" EJ)
  (agi:ej K "entry_of" Fg)
  (aga:ej K "ascend" FD)
  (agO:ej K "page_of" Fm)
  (agB:ej K "_law_pool" Fc)
  (agA:ej K "_law_next" Fd)
  (agH:ej K "_law_signs" ET)
  (agy:ej K "_law_names" EV)
  (agI:ej K "_law_simple" EK)
  (agu:ej K "_law_form" AY)
  (agx:ej K "_law_made" AX)
  (agz:ej K "_law_near" Fe)
  (agG:ej K "_law_signed" EL)
  (agv:ej K "_law_fraction" Ex)
  (agK:ej K "_law_value" AN)
  (agw:ej K "_law_kinds" EW)
  (agF:ej K "_law_same" AW)
  (agt:ej K "_law_asked" EX)
  (agD:ej K "_law_room" Fb)
  (agJ:ej K "_law_state" ES)
  (agC:ej K "_law_refuses" EB)
  (agE:ej K "_law_rooms" EU)
  (ags:ej K "law" F9)
  (ai3:fq K ei "len"=J av)
  (ai6:fq K ei "range"=J av)
  (ai1:fq K ei "int"=J av)
  (aja:fq K ei "str"=J av)
  (aiZ:fq K ei "bool"=J av)
  (ajb:fq K ei "tuple"=J av)
  (ai2:fq K ei "isinstance"=J av)
  (ai5:fq K ei "min"=J av)
  (ai4:fq K ei "list"=J av)
  (aiY:fq K ei "all"=J av)
  (ai7:fq K ei "reversed"=J av)
  (ai0:fq K ei "enumerate"=J av)
  (ajc:fq K ei "zip"=J av)
  (ai8:fq K ei "set"=J av)
  (ai9:fq K ei "sorted"=J av)
  (aiX:fq K ei "abs"=J av)
  (aiW:fq K ei "ValueError"=J av)
  (aaV:fq K ei "MOST_DIGITS"=J (J (.int 255 aii)))
  (aaU:fq K ei "MOST_AHEAD"=J (J (.int 7 aih)))
  (aaY:fq K ei "MOST_SIGNS"=J (J (.int 60 ail)))
  (aaT:fq K ei "LONGEST_TEXT"=J (J (.int 200 aif)))
  (aaZ:fq K ei "MOST_VALUES"=J (J (.int 60 aim)))
  (aaW:fq K ei "MOST_PARTS"=J (J (.int 20 aij)))
  (aaS:fq K ei "LONGEST_NAME"=J (J (.int 12 aie)))
  (aaQ:fq K ei "LEAST_ROOM"=J (J (.int 2 aic)))
  (aaX:fq K ei "MOST_ROOM"=J (J (.int 20 aik)))
  (aa0:fq K ei "SMALL_LETTERS"=J (J (.str "abcdefghijklmnopqrstuvwxyz" ain)))
  (aaR:fq K ei "LETTERS_AND_FIGURES"=J (J (.str "abcdefghijklmnopqrstuvwxyzABCDEFGHIJKLMNOPQRSTUVWXYZ0123456789" aid)))
  : ∃fd:ho,(∀(s:aM)(v:ar),BindsTo s fd ⟨[v],[]⟩ [("_law_script",v)])/\∀base:br,K.In base->base.Ns ei mg->cv l.prog w K mg base c8 15 fa fd ["_law_script"] (CZ K):=by
 obtain⟨_,fd,JF,ZI⟩:=ags
 have e:=abY.symm.trans (fN X G ZI)
 cases e
 have Gl:=JF.ex
 have aea:=fN X G t2.a
 have wj:=fN X G tY.a
 have wk:=fN X G t5.a
 have wm:=fN X G t7.a
 have wi:=fN X G tV.a
 have aeb:=fN X G t4.a
 have ad6:=fN X G rK.a
 have ad8:=fN X G tX.a
 have ad7:=fN X G tW.a
 have aec:=fN X G t6.a
 have ad9:=fN X G tZ.a
 have ad5:=fN X G tU.a
 have OB:=fN X G nJ.a
 have td:=fN X G ZE
 have ajB:ek mg "RiseError" (.ref iH):=⟨_,td,rfl⟩
 have vN:=fN X G ZA
 have GI:ek mg "NoFit" (.ref hp):=⟨_,vN,rfl⟩
 have abi:=fN X G ZF
 have GN:ek mg "Short" (.ref r5):=⟨_,abi,rfl⟩
 have abk:=fN X G ZH
 have GP:ek mg "Wrong" (.ref r7):=⟨_,abk,rfl⟩
 have abf:=fN X G Zz
 have GH:ek mg "Left" (.ref r2):=⟨_,abf,rfl⟩
 have B2:=fN X G ZB
 have GJ:ek mg "NoForm" (.ref hf):=⟨_,B2,rfl⟩
 have abg:=fN X G ZC
 have GK:ek mg "NoText" (.ref r3):=⟨_,abg,rfl⟩
 have abh:=fN X G ZD
 have GL:ek mg "NotAhead" (.ref r4):=⟨_,abh,rfl⟩
 have abd:=fN X G Zx
 have GD:ek mg "BadPage" (.ref r0):=⟨_,abd,rfl⟩
 have abj:=fN X G ZG
 have GO:ek mg "Twice" (.ref r6):=⟨_,abj,rfl⟩
 have abe:=fN X G Zy
 have GF:ek mg "Lacking" (.ref r1):=⟨_,abe,rfl⟩
 have ah3:MethAt K kK "draw" "Source.draw" zX ["self"]:=afM.at t2.cl gk
 have ah5:MethAt K kK "turn" "Source.turn" zW ["self"]:=afP.at t2.cl gk
 have ah6:MethAt K kK "wish" "Source.wish" zV ["self","sign"]:=afQ.at t2.cl c5
 have ah4:MethAt K kK "refuse" "Source.refuse" Kk ["self"]:=afO.at t2.cl gk
 have uT:lZ K pO:=⟨tY.wo,adb,tY.wd⟩
 have uU:lZ K pP:=⟨t5.wo,ade,t5.wd⟩
 have uV:lZ K pQ:=⟨t7.wo,adf,t7.wd⟩
 have uS:lZ K pN:=⟨tV.wo,ada,tV.wd⟩
 have ahV:MethAt K m4 "places" "Letters.places" Al ["self","text"]:=afj.at rK.cl c5
 have ahZ:MethAt K iI "put" "Shelf.put" AQ ["self","value"]:=afI.at nJ.cl c5
 have ah1:MethAt K iI "take" "Shelf.take" AH ["self","value"]:=afK.at nJ.cl c5
 have ahW:MethAt K iI "has" "Shelf.has" AR ["self","value"]:=afF.at nJ.cl c5
 have ah0:MethAt K iI "size" "Shelf.size" AI ["self"]:=afJ.at nJ.cl gk
 have ahX:MethAt K iI "pages" "Shelf.pages" zY ["self"]:=afG.at nJ.cl gk
 have ahY:MethAt K iI "partings" "Shelf.partings" Aj ["self"]:=afH.at nJ.cl gk
 have ah2:MethAt K iI "told" "Shelf.told" AG ["self","start","end"]:=afL.at nJ.cl sY
 have wO:ExcC K iH:=⟨aiI,aiL,aiF,aiR,aiA,aiO,Jq,Js⟩
 have aiB:ExcC K hp:=⟨aiG,aiJ,aiD,aiP,aiy,aiM,Jq,Js⟩
 have aiC:ExcC K hf:=⟨aiH,aiK,aiE,aiQ,aiz,aiN,Jq,Js⟩
 obtain⟨_,_,R9⟩:=agU.at X G gk
 obtain⟨_,_,R0⟩:=agL.at X G c5
 obtain⟨_,_,RE⟩:=ago.at X G gk
 obtain⟨_,_,JE⟩:=agn.at X G gk
 obtain⟨_,_,Rt⟩:=agc.at X G gk
 obtain⟨_,_,Sb⟩:=agW.at X G gk
 obtain⟨_,_,RB⟩:=agk.at X G c5
 obtain⟨_,_,Rx⟩:=agg.at X G c5
 obtain⟨_,_,Ru⟩:=agd.at X G gk
 obtain⟨_,_,Ry⟩:=agh.at X G gk
 obtain⟨_,_,Rv⟩:=age.at X G c5
 obtain⟨_,_,R8⟩:=agT.at X G gk
 obtain⟨_,_,Rp⟩:=af9.at X G gk
 obtain⟨_,_,RC⟩:=agl.at X G gk
 obtain⟨_,_,Rr⟩:=agb.at X G c5
 obtain⟨_,_,RF⟩:=agp.at X G gk
 obtain⟨_,_,RD⟩:=agm.at X G gk
 obtain⟨_,_,R6⟩:=agR.at X G gk
 obtain⟨_,_,Rw⟩:=agf.at X G gk
 obtain⟨_,_,RH⟩:=agr.at X G gk
 obtain⟨_,_,R1⟩:=agM.at X G c5
 obtain⟨_,_,RG⟩:=agq.at X G gk
 obtain⟨_,_,R2⟩:=agN.at X G gk
 obtain⟨_,_,Sa⟩:=agV.at X G c5
 obtain⟨_,_,R5⟩:=agQ.at X G c5
 obtain⟨_,_,RA⟩:=agj.at X G c5
 obtain⟨_,_,R7⟩:=agS.at X G c5
 obtain⟨_,_,R4⟩:=agP.at X G c5
 obtain⟨_,_,Rz⟩:=agi.at X G c5
 obtain⟨_,_,Rq⟩:=aga.at X G gk
 obtain⟨_,_,R3⟩:=agO.at X G gk
 obtain⟨_,_,RQ⟩:=agB.at X G gk
 obtain⟨_,_,RP⟩:=agA.at X G gk
 obtain⟨_,_,RW⟩:=agH.at X G gk
 obtain⟨_,_,RN⟩:=agy.at X G c5
 obtain⟨_,_,RX⟩:=agI.at X G c5
 obtain⟨_,_,RJ⟩:=agu.at X G c5
 obtain⟨_,_,RM⟩:=agx.at X G gk
 obtain⟨_,_,RO⟩:=agz.at X G gk
 obtain⟨_,_,RV⟩:=agG.at X G gk
 obtain⟨_,_,RK⟩:=agv.at X G c5
 obtain⟨_,_,RZ⟩:=agK.at X G c5
 obtain⟨_,_,RL⟩:=agw.at X G gk
 obtain⟨_,_,RU⟩:=agF.at X G c5
 obtain⟨_,_,RI⟩:=agt.at X G sY
 obtain⟨_,_,RS⟩:=agD.at X G c5
 obtain⟨_,_,RY⟩:=agJ.at X G gk
 obtain⟨_,_,RR⟩:=agC.at X G sY
 obtain⟨_,_,RT⟩:=agE.at X G c5
 have nb:dD mg:=⟨ku X G ai3,ku X G ai6,ku X G ai1,ku X G aja,ku X G aiZ,ku X G ajb,ku X G ai2,ku X G ai5,ku X G ai4,ku X G aiY,ku X G ai7,ku X G ai0,ku X G ajc,ku X G ai8,ku X G ai9,ku X G aiX⟩
 have Ie:=ku X G aiW
 have Gz:ek mg "MOST_DIGITS" (.int 255):=⟨_,fN X G aaV,⟨_,rfl⟩⟩
 have vL:ek mg "MOST_AHEAD" (.int 7):=⟨_,fN X G aaU,⟨_,rfl⟩⟩
 have GB:ek mg "MOST_SIGNS" (.int 60):=⟨_,fN X G aaY,⟨_,rfl⟩⟩
 have pb:ek mg "LONGEST_TEXT" (.int 200):=⟨_,fN X G aaT,⟨_,rfl⟩⟩
 have pd:ek mg "MOST_VALUES" (.int 60):=⟨_,fN X G aaZ,⟨_,rfl⟩⟩
 have GA:ek mg "MOST_PARTS" (.int 20):=⟨_,fN X G aaW,⟨_,rfl⟩⟩
 have Gy:ek mg "LONGEST_NAME" (.int 12):=⟨_,fN X G aaS,⟨_,rfl⟩⟩
 have vK:ek mg "LEAST_ROOM" (.int 2):=⟨_,fN X G aaQ,⟨_,rfl⟩⟩
 have vM:ek mg "MOST_ROOM" (.int 20):=⟨_,fN X G aaX,⟨_,rfl⟩⟩
 have GC:ek mg "SMALL_LETTERS" (.str kp):=⟨_,fN X G aa0,⟨_,rfl⟩⟩
 have Gx:ek mg "LETTERS_AND_FIGURES" (.str pX):=⟨_,fN X G aaR,⟨_,rfl⟩⟩
 refine⟨fd,fun s v=>?_,fun base _ _=>?_⟩
 ·obtain⟨_,_,_,_,_,_,_,_,_,rfl,_⟩:=Gl
  exact .of_eq I
 have T:ve K kK:=⟨t2.cl,aew,aev,aex,aeu,aey⟩
 have n0:=V0 (P:=l.prog) (w:=w) (base:=base) R9
 have sg:=Vi (P:=l.prog) (w:=w) (base:=base) nb R0
 have nY:=WC RB sg
 have m5:=Xb (P:=l.prog) (w:=w) (base:=base) Gz RE
 have sb:=U1 JE m5
 have Rn:=UM JE m5
 have lW:=WD vL Rt m5 sg
 have qO:=Wu Sb lW n0
 have qN:=W0 (P:=l.prog) (w:=w) (base:=base) R8
 have uC:=WE (P:=l.prog) (w:=w) (base:=base) nb Rp
 have DE:=VJ nb RC uC
 have DB:=UN (P:=l.prog) (w:=w) (base:=base) Rr
 have DF:=VI RF DB
 have w2:=UC nb RD DF qN sb m5
 have w4:=Vh nb R6 qO lW n0
 have gN:=(fg (P:=l.prog) (w:=w) (mg:=mg) (base:=base) ah3 fun _ _ G=>To nb T G).1
 have lY:=(fg (P:=l.prog) (w:=w) (mg:=mg) (base:=base) ah5 fun _ _ G=>Th T G).1
 have zQ:=(fg (P:=l.prog) (w:=w) (mg:=mg) (base:=base) ah6 fun _ _ G=>Tg T G).1
 have lX:=(fg (P:=l.prog) (w:=w) (mg:=mg) (base:=base) (k:=1) (sp:=ue) ah4 fun _ _ _=>Ux).1
 have D6:=afN.mk (P:=l.prog) (w:=w) (base:=base) t2 aea (sY fun _ _ _ _ _ _ _ _ _=>rfl) fun _ _ G=>W2 T G
 have zx:=UA nb T.cl Rx gN
 have sa:=V9 vL T.cl Ru gN zx
 have qL:=V7 T.cl Ry gN lY sa
 have nX:=V8 nb T.cl Rv gN lX
 have w1:=U2 nb T.cl Rw gN lY zQ lX qL sa uC DE
 have m6:=V6 (P:=l.prog) (w:=w) (base:=base) nb RH
 have nZ:=XE (P:=l.prog) (w:=w) (base:=base) nb R1
 have DG:=XF nb Gy GC RG nZ
 have uI:=W6 nb GA R2 DG
 have eW:vd K nW:=⟨t4.cl,aeA,aez⟩
 have El:su K m4:=⟨rK.cl,aem⟩
 have Sz:n3 K nV:=⟨tZ.cl,aeq,aep⟩
 have Sx:n3 K nU:=⟨tU.cl,ael,aek⟩
 have Sy:kN K oV:=⟨tX.cl,aeo⟩
 have SA:kN K oU:=⟨tW.cl,aen⟩
 have gO:kN K oW:=⟨t6.cl,aeB⟩
 have u2:=afT.mk (P:=l.prog) (w:=w) (base:=base) t4 aeb (sY fun _ _ _ _ _ _ _ _ _=>rfl) fun _ _ G=>Wv eW G
 have uX:=afi.mk (P:=l.prog) (w:=w) (base:=base) rK ad6 (c5 fun _ _ _ _ _ _ _ _=>rfl) fun _ _ G=>W7 nb GB Gx El G nZ
 have u0:=afC.mk (P:=l.prog) (w:=w) (base:=base) tZ ad9 (c5 fun _ _ _ _ _ _ _ _=>rfl) fun _ _ G=>W3 nb Sz G uI
 have uW:=ae9.mk (P:=l.prog) (w:=w) (base:=base) tU ad5 (c5 fun _ _ _ _ _ _ _ _=>rfl) fun _ _ G=>Xd nb Sx G uI
 have uZ:=aft.mk (P:=l.prog) (w:=w) (base:=base) tX ad8 (c5 fun _ _ _ _ _ _ _ _=>rfl) fun _ _ G=>V2 Sy G
 have uY:=afo.mk (P:=l.prog) (w:=w) (base:=base) tW ad7 (c5 fun _ _ _ _ _ _ _ _=>rfl) fun _ _ G=>Ww SA G
 have u3:=af2.mk (P:=l.prog) (w:=w) (base:=base) t6 aec (c5 fun _ _ _ _ _ _ _ _=>rfl) fun _ _ G=>VF gO G
 obtain⟨c,hc⟩:∃c:dF,c=⟨fun k=>[pO,pP,pQ,pN][k],nW,m4,fun k=>[oV,oU,oW][k],fun k=>[nV,nU][k]⟩:=⟨_,rfl⟩
 have Z9:c.b 0=pO:=by rw[hc];rfl
 have aac:c.b 1=pP:=by rw[hc];rfl
 have aae:c.b 2=pQ:=by rw[hc];rfl
 have Z5:c.b 3=pN:=by rw[hc];rfl
 have aab:c.s=nW:=by rw[hc]
 have Z6:c.l=m4:=by rw[hc]
 have Z8:c.o 0=oV:=by rw[hc];rfl
 have Z7:c.o 1=oU:=by rw[hc];rfl
 have aad:c.o 2=oW:=by rw[hc];rfl
 have aaa:c.t 0=nV:=by rw[hc];rfl
 have Z4:c.t 1=nU:=by rw[hc];rfl
 clear hc
 subst Z9
 subst aac
 subst aae
 subst Z5
 subst aab
 subst Z6
 subst Z8
 subst Z7
 subst aad
 subst aaa
 subst Z4
 have Ek:z9 K c:=⟨eW,El,fun k=>by rcases vI k with rfl|rfl|rfl<;>assumption,fun k=>by rcases BZ k with rfl|rfl<;>assumption⟩
 have Ss:qY K c "fits" FZ F5 ["self","value"]:=sQ (p:=fun i=>MethAt K (fJ c i) "fits" (FZ i) (F5 i) ["self","value"]) (afx.at tY.cl c5) (afX.at t5.cl c5) (af6.at t7.cl c5) (afd.at tV.cl c5) (afS.at t4.cl c5) (afh.at rK.cl c5) (afs.at tX.cl c5) (afn.at tW.cl c5) (af1.at t6.cl c5) (afB.at tZ.cl c5) (ae8.at tU.cl c5)
 have Sv:qY K c "written" Fq Fy ["self","value"]:=sQ (p:=fun i=>MethAt K (fJ c i) "written" (Fq i) (Fy i) ["self","value"]) (afz.at tY.cl c5) (afZ.at t5.cl c5) (af8.at t7.cl c5) (aff.at tV.cl c5) (afV.at t4.cl c5) (afl.at rK.cl c5) (afv.at tX.cl c5) (afq.at tW.cl c5) (af4.at t6.cl c5) (afE.at tZ.cl c5) (afb.at tU.cl c5)
 have Sr:qY K c "draw" F0 F6 ["self","source"]:=sQ (p:=fun i=>MethAt K (fJ c i) "draw" (F0 i) (F6 i) ["self","source"]) (afw.at tY.cl c5) (afW.at t5.cl c5) (af5.at t7.cl c5) (afc.at tV.cl c5) (afR.at t4.cl c5) (afg.at rK.cl c5) (afr.at tX.cl c5) (afm.at tW.cl c5) (af0.at t6.cl c5) (afA.at tZ.cl c5) (ae7.at tU.cl c5)
 have Su:qY K c "row" (fun _=>"Form.row") (fun _=>kR) ["self","value"]:=sQ (p:=fun i=>MethAt K (fJ c i) "row" ("Form.row") (kR) ["self","value"]) (afy.at tY.cl c5) (afY.at t5.cl c5) (af7.at t7.cl c5) (afe.at tV.cl c5) (afU.at t4.cl c5) (afk.at rK.cl c5) (afu.at tX.cl c5) (afp.at tW.cl c5) (af3.at t6.cl c5) (afD.at tZ.cl c5) (afa.at tU.cl c5)
 have xb:=(fg (P:=l.prog) (w:=w) (mg:=mg) (base:=base) ahV fun _ _ G=>UR El G).1
 have jU:=YL (P:=l.prog) (w:=w) (base:=base) nb Ek Ss pd pb m6 Rn nZ w2 3
 have la:=Xp nb Ek Sv xb qO nY n0 qN w4 3
 have lU:=SP nb Ek Sr T.cl pd pb gN lY lX nX qL w1 3
 have pM:=SO zo vN Su jU la
 have DO:=WZ nb T Sa lU
 have DN:=W4 R5 D6 DO
 have DH:=W9 (P:=l.prog) (w:=w) (base:=base) nb RQ
 have JB:=WA (P:=l.prog) (w:=w) (base:=base) nb RP
 have iJ:=bp.less JB fun _ _ _ _ h=>Yj h
 have DK:=Wy (P:=l.prog) (w:=w) (base:=base) nb RW
 have uF:=WB (P:=l.prog) (w:=w) (base:=base) nb RN
 have uH:=V3 RX iJ DK
 have sd:=Kr nb RJ iJ uF uH 3
 have pR:=Kq nb RM uT wj uU wk uV wm uS wi u2 uX u0 uW uZ uY u3 3
 have zy:=Xa (P:=l.prog) (w:=w) (base:=base) nb RO
 have se:=V4 RV zy
 have uD:=Vj (P:=l.prog) (w:=w) (base:=base) nb RK
 have oX:=Kl nb RZ JB se uD 3
 have uG:=KD (P:=l.prog) (w:=w) (base:=base) nb RU 12
 have So:JQ mg ⟨hp,r5,r7,r2,hf,r3,r4,r0,r6,r1⟩:=⟨GI,GN,GP,GH,GJ,GK,GL,GD,GO,GF⟩
 have HZ:w8 K ⟨hp,r5,r7,r2,hf,r3,r4,r0,r6,r1⟩ hp q9:=⟨aiB,_,_,_,_,_,_,_,_,_,_,rfl,FN ..,adD,adG,adz,adA,adB,adC,adx,adE,ady,adF⟩
 have HX:w8 K ⟨hp,r5,r7,r2,hf,r3,r4,r0,r6,r1⟩ hf vF:=⟨aiC,_,_,_,_,_,_,_,_,_,_,rfl,adK,adN,adQ,adJ,FN ..,adL,adM,adH,adO,adI,adP⟩
 have uE:=V5 (P:=l.prog) (w:=w) (base:=base) nb Ie So RL
 have DD:=Vk (P:=l.prog) (w:=w) (base:=base) nb RA
 have uJ:=Vg R7 DD
 have DM:=V1 R4 uJ
 have DC:=Xc nb Rz uJ lW
 have DA:=Yg (P:=l.prog) (w:=w) (base:=base) nb Rq
 have DL:=XD nb R3 DA DC lW
 have kP:my K iI:=⟨nJ.cl,aer,aes,aet⟩
 have u1:=OW.mk (P:=l.prog) (w:=w) (base:=base) nJ OB (sY fun _ _ _ _ _ _ _ _ _=>rfl) fun _ _ G=>XC vK vM kP G
 have D2:D9 l.prog w K mg base 1 "Shelf" iI ["self","form","room"] (IY hf iI):=by
  obtain⟨f,fd,F,gr⟩:=OW
  exact⟨f,fd,⟨nJ.wo,gr.at_,gr.fn,nJ.wd⟩,Xo Jr B2 vK vM kP F,F.binds (sY fun _ _ _ _ _ _ _ _ _=>I),OB⟩
 have zP:=(Bw (P:=l.prog) (w:=w) (mg:=mg) (base:=base) ahZ fun _ _ G=>Tl nb kP G pM).1
 have D4:=(Bw (P:=l.prog) (w:=w) (mg:=mg) (base:=base) ah1 fun _ _ G=>Y8 nb kP G pM).1
 have D3:=(Bw (P:=l.prog) (w:=w) (mg:=mg) (base:=base) ahW fun _ _ G=>Tn nb kP G pM).1
 have sv:=(fg (P:=l.prog) (w:=w) (mg:=mg) (base:=base) ah2 fun _ _ G=>Ti nb kP G DN).1
 have u4:=(fg (P:=l.prog) (w:=w) (mg:=mg) (base:=base) ah0 fun _ _ G=>Tj nb kP G).1
 have D7:=(fg (P:=l.prog) (w:=w) (mg:=mg) (base:=base) ahX fun _ _ G=>Y9 nb kP G DL).1
 have D8:=(fg (P:=l.prog) (w:=w) (mg:=mg) (base:=base) ahY fun _ _ G=>W5 nb kP G DM).1
 have qM:=VH td wO wQ aef HZ kP.cl RI zP D4 D3 uE
 have DI:=W8 td wO wQ aeg HX RS u1 D2 uE
 have sf:=Wx RY kP kP.cl u4 D7 D8
 have w3:=VG nb RR kP kP.cl sv sf qM uG jU
 have DJ:=Wz nb RT DI
 exact Za nb kP kP.cl JF DH iJ sd pR oX u1 (p1.Ii zP) sv u4 sf qM w3 DJ
theorem walk{l:PySem.W.OpenLaw}{q:c6}{d:DefRec}{K:Params->bK}(aZ:l.most=J 63)(ye:d.params.defaults=[])
  (G0:∀(w:cM)(h:br),q5 w h->(K w.params).In h)
  (F:∀(w:cM)(mg:ah->Option ar)(fa:ag)(h:br),(K w.params).In h->h.Ns ei mg->mg d.name=J (.ref fa)->
   ∃fd:ho,(∀(s:aM)(u:ar),BindsTo s fd ⟨[u],[]⟩ [("_law_script",u)])/\∀base:br,(K w.params).In base->base.Ns ei mg->cv l.prog w (K w.params) mg base c8 15 fa fd ["_law_script"] (CZ (K w.params))) :
  PySem.W.WalkO q loose vg q5 l.row.toRowW d [] (fun f vs=>PySem.call f vs) :=
 cN.SW (n:=63) (k:=15) (x:="_law_script") (CX:=fun _=>c8) (sp:=fun w=>CZ (K w.params)) aZ (by decide) ye ⟨rfl,by decide,by decide⟩ G0 F (fun _ _ a ns aC _ c9=>⟨a,ns,rfl,c9,aC,fun _=>rfl⟩) fun _ _ _ _ _ z=>z
end
end KR
end
open PySem PySem.W PyProof.Rows
set_option maxRecDepth 100000 in
set_option maxHeartbeats 0 in
theorem PySem.Challenge.cw_keyrise_k73_refused_values_holds : PySem.Challenge.rw_keyrise_k73_refused_values.Holds := by
 refine KR.GG.2 ?_
 delta KR.GG
 dsimp only
 k_fill
 refine KR.walk (l:=PySem.Challenge.rw_keyrise_k73_refused_values) rfl rfl (fun w h Y=>PySem.W.kIn_of Y) ?F
 case F =>
  intro w mg fa h KX G hmg
  refine' KR.Xdw KX G hmg ?a0 ?a1 ?a2 ?a3 ?a4 ?a5 ?a6 ?a7 ?a8 ?a9 ?a10 ?a11 ?a12 ?a13 ?a14 ?a15 ?a16 ?a17 ?a18 ?a19 ?a20 ?a21 ?a22 ?a23 ?a24 ?a25 ?a26 ?a27 ?a28 ?a29 ?a30 ?a31 ?a32 ?a33 ?a34 ?a35 ?a36 ?a37 ?a38 ?a39 ?a40 ?a41 ?a42 ?a43 ?a44 ?a45 ?a46 ?a47 ?a48 ?a49 ?a50 ?a51 ?a52 ?a53 ?a54 ?a55 ?a56 ?a57 ?a58 ?a59 ?a60 ?a61 ?a62 ?a63 ?a64 ?a65 ?a66 ?a67 ?a68 ?a69 ?a70 ?a71 ?a72 ?a73 ?a74 ?a75 ?a76 ?a77 ?a78 ?a79 ?a80 ?a81 ?a82 ?a83 ?a84 ?a85 ?a86 ?a87 ?a88 ?a89 ?a90 ?a91 ?a92 ?a93 ?a94 ?a95 ?a96 ?a97 ?a98 ?a99 ?a100 ?a101 ?a102 ?a103 ?a104 ?a105 ?a106 ?a107 ?a108 ?a109 ?a110 ?a111 ?a112 ?a113 ?a114 ?a115 ?a116 ?a117 ?a118 ?a119 ?a120 ?a121 ?a122 ?a123 ?a124 ?a125 ?a126 ?a127 ?a128 ?a129 ?a130 ?a131 ?a132 ?a133 ?a134 ?a135 ?a136 ?a137 ?a138 ?a139 ?a140 ?a141 ?a142 ?a143 ?a144 ?a145 ?a146 ?a147 ?a148 ?a149 ?a150 ?a151 ?a152 ?a153 ?a154 ?a155 ?a156 ?a157 ?a158 ?a159 ?a160 ?a161 ?a162 ?a163 ?a164 ?a165 ?a166 ?a167 ?a168 ?a169 ?a170 ?a171 ?a172 ?a173 ?a174 ?a175 ?a176 ?a177 ?a178 ?a179 ?a180 ?a181 ?a182 ?a183 ?a184 ?a185 ?a186 ?a187 ?a188 ?a189 ?a190 ?a191 ?a192 ?a193 ?a194 ?a195 ?a196 ?a197 ?a198 ?a199 ?a200 ?a201 ?a202 ?a203 ?a204 ?a205 ?a206 ?a207 ?a208 ?a209 ?a210 ?a211 ?a212 ?a213 ?a214 ?a215 ?a216 ?a217 ?a218 ?a219 ?a220 ?a221 ?a222 ?a223 ?a224 ?a225 ?a226 ?a227 ?a228 ?a229 ?a230 ?a231 ?a232 ?a233 ?a234 ?a235
  (case a0 | a1 | a2 | a3 | a4 | a5 | a6 | a7 | a8 | a9 | a10 | a11 | a12=>apply KR.cpMk<;>k_is)
  (case a13 | a14 | a15 | a16 | a17 | a18 | a19 | a20 | a21 | a22 | a23 | a24 | a25 | a26 | a27 | a28=>k_is)
  (case a29 | a30 | a31 | a32 | a33=>apply KR.mpMk<;>k_is)
  (case a34=>k_is)
  (case a35 | a36 | a37 | a38=>apply KR.mpMk<;>k_is)
  (case a39=>k_is)
  (case a40 | a41 | a42 | a43=>apply KR.mpMk<;>k_is)
  (case a44=>k_is)
  (case a45 | a46 | a47 | a48=>apply KR.mpMk<;>k_is)
  (case a49=>k_is)
  (case a50 | a51 | a52 | a53=>apply KR.mpMk<;>k_is)
  (case a54 | a55=>k_is)
  (case a56 | a57 | a58 | a59 | a60=>apply KR.mpMk<;>k_is)
  (case a61=>k_is)
  (case a62 | a63 | a64 | a65 | a66 | a67=>apply KR.mpMk<;>k_is)
  (case a68=>k_is)
  (case a69 | a70 | a71 | a72 | a73=>apply KR.mpMk<;>k_is)
  (case a74=>k_is)
  (case a75 | a76 | a77 | a78 | a79=>apply KR.mpMk<;>k_is)
  (case a80=>k_is)
  (case a81 | a82 | a83 | a84 | a85=>apply KR.mpMk<;>k_is)
  (case a86 | a87=>k_is)
  (case a88 | a89 | a90 | a91 | a92=>apply KR.mpMk<;>k_is)
  (case a93 | a94=>k_is)
  (case a95 | a96 | a97 | a98 | a99=>apply KR.mpMk<;>k_is)
  (case a100 | a101 | a102=>k_is)
  (case a103 | a104 | a105 | a106 | a107 | a108 | a109 | a110=>apply KR.mpMk<;>k_is)
  (case a111 | a112=>k_exc)
  (case a113 | a114 | a115 | a116 | a117 | a118 | a119 | a120 | a121 | a122 | a123 | a124 | a125 | a126 | a127 | a128 | a129 | a130 | a131 | a132=>kit_is)
  (case a133 | a134 | a135 | a136 | a137 | a138 | a139 | a140 | a141 | a142 | a143 | a144 | a145 | a146 | a147 | a148 | a149 | a150 | a151 | a152 | a153 | a154 | a155 | a156 | a157=>k_is)
  (case a158 | a159 | a160 | a161 | a162 | a163 | a164 | a165 | a166 | a167 | a168 | a169 | a170 | a171 | a172 | a173 | a174 | a175 | a176 | a177 | a178 | a179 | a180 | a181 | a182 | a183 | a184 | a185 | a186 | a187 | a188 | a189 | a190 | a191 | a192 | a193 | a194 | a195 | a196 | a197 | a198 | a199 | a200 | a201 | a202 | a203 | a204 | a205 | a206 | a207=>apply KR.fpMk<;>k_is)
  (case a208 | a209 | a210 | a211 | a212 | a213 | a214 | a215 | a216 | a217 | a218 | a219 | a220 | a221 | a222 | a223 | a224 | a225 | a226 | a227 | a228 | a229 | a230 | a231 | a232 | a233 | a234 | a235=>k_is)
