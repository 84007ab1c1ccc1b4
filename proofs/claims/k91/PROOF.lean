import PyProof.Rows.All
import Wide.Line
import Wide.Once
import Wide.FinOn
import OpenK.KLine
import OpenK.KOwn
import Open.Pieces
import KE.RegKIsAll
import KE.KIntText
import KE.KFromBytes
import KE.KItem
import KE.KxBytes
import KE.KRevIter
import KE.KUnpack
import KE.KIsAll
import KE.BitLaws
import PyProof.EqAt
import PyProof.EqKinds
import PyProof.TupleCall
import PyProof.Rows.SortStr
import PySem.Challenge.RW_keyrise_k91_whole_values_in_order
set_option Elab.async false
set_option linter.all false
section KRGG
namespace PySem.W.Fast
def tw6034421294495436054:=0
def tw11254048944045585714:=0
def tw1785202854388307361:=0
def tw5497800362559160020:=0
def tw2809278097526884950:=0
def tw4377796739810814904:=0
def tw7598465103738674496:=0
def tw3719888233041684198:=0
def tw613775184283291144:=0
def tw33302114698400231:=0
def tw5139744171035345670:=0
def tw15086960929366060980:=0
def tw12706320474352016639:=0
def tw15310927558261971453:=0
def tw9752715208664976440:=0
def tw8310144365994637341:=0
def tw1810377461874654782:=0
def tw13959715836948417854:=0
def tw17856779483299158900:=0
def tw62422007759038272:=0
def tw17722493905744866683:=0
def tw167458290919640474:=0
def tw2748281033721510175:=0
def tw17250912240178406716:=0
def tw15649782568387086513:=0
def tw13705492605490133140:=0
def tw5174226388960520170:=0
def tw12486050373300252547:=0
def tw5726110170074747193:=0
def tw9127171928593226861:=0
def tw9324831258327993595:=0
def tw8776824803471081383:=0
def tw8048256627542002252:=0
def tw11541354546285360923:=0
def tw17464368548865840442:=0
def tw11690558159589711114:=0
def tw8801640265643156679:=0
def tw16036781868990451057:=0
def tw17410833354666351251:=0
def tw227117518314937570:=0
def tw16711357431634272400:=0
def tw5945974089522883900:=0
def tw10875623266463304686:=0
def tw1222820690535720149:=0
def tw2639176877781519259:=0
def tw15700541486314458362:=0
def tw6536589625293585739:=0
def tw5461989250408482226:=0
def tw17486098396366939970:=0
def tw17736870672931732487:=0
def tw13696873391494668344:=0
def tw17364153854445751430:=0
def tw4790876236763424128:=0
def tw13028857157572905579:=0
def tw3444120816966035124:=0
def tw6488823462650155774:=0
def tw14699727114102623467:=0
def tw2810738922951890913:=0
def tw7548830797250411997:=0
def tw12281327414900869528:=0
def tw18210239727384044819:=0
def tw3713199337739589195:=0
def tw8033886909201710677:=0
def tw12452486559427167814:=0
def tw11010843956153857259:=0
def tw1796814095769308259:=0
def tw14851997194278260083:=0
def tw648222273322864865:=0
def tw2492982428449182523:=0
def tw4576315731270293460:=0
def tw14306685698001382889:=0
def tw399178502347227471:=0
def tw10958296393637166776:=0
def tw8765759557641022639:=0
def tw9643504594763753455:=0
def tw13955121062881812861:=0
def tw6560831341857405188:=0
def tw15930860360838967179:=0
def tw17205514910333071596:=0
def tw8241414290369838734:=0
def tw17936558795385769533:=0
def tw11607834733144295098:=0
def tw18032614307211788961:=0
def tw14005404188008954277:=0
def tw15713461617544865694:=0
def tw6723318066146181642:=0
def tw7274716971740867674:=0
def tw3301051832626021737:=0
def tw9538854906552997656:=0
def tw15164148665579101172:=0
def tw4606617000839895423:=0
def tw9566490970318289016:=0
def tw11028326114988807621:=0
def tw2163135332870726879:=0
def tw8276171030340466950:=0
def tw7648998327836558644:=0
def tw11687903995813581332:=0
def tw4450300415296243983:=0
def tw16301991351855385982:=0
def tw6098659767726216361:=0
def tw7988552534536481677:=0
def tw4976572293424302378:=0
def tw5719801896669120749:=0
def tw7217249279796847936:=0
def tw18371701374689127766:=0
def tw11315769273325084300:=0
def tw4528507398883909647:=0
def tw1236443528441221254:=0
def tw816734528976144541:=0
def tw3324379312574851677:=0
def tw7308547379783275242:=0
def tw12176634488416654693:=0
def tw14242560256056461168:=0
def tw5482354944553638106:=0
def tw4590552824526937601:=0
def tw3008913778080488652:=0
def tw10066683132498034009:=0
def tw11898332335971079515:=0
def tw6970778866998757877:=0
def tw9350186808880309483:=0
def tw11954994729660938501:=0
def tw9883805332369111915:=0
def tw11133438181240629187:=0
def tw10734544981950097117:=0
def tw10513268369172877236:=0
def tw1275257110926951038:=0
def tw12013260607624027416:=0
def tw4409281312679245962:=0
def tw4234601287735525715:=0
def tw12121202963626943655:=0
def tw15095628436726586926:=0
def tw3881348749417455218:=0
def tw13873384114991516754:=0
def tw13681822730537243968:=0
def tw15200566140566403525:=0
def tw17299388237897513563:=0
def tw14129595898752064969:=0
def tw9223557606921253002:=0
def tw1380846671116394420:=0
def tw6886812593756787288:=0
def tw13662227704465424337:=0
def tw6552876503142814833:=0
def tw261391271351757251:=0
def tw1824554848002302309:=0
def tw17386352565408714812:=0
def tw14999110250244190938:=0
def tw4158743221575600396:=0
def tw7641655053804212922:=0
def tw10927012228346408387:=0
def tw7268284582052399196:=0
def tw15979864177956746166:=0
def tw11168179901394604869:=0
def tw14132983388448412922:=0
def tw16259544666408414002:=0
def tw4190311713925731062:=0
def tw11666594686286070809:=0
def tw787527674274854660:=0
def tw13921122628923294719:=0
def tw5905286947574413289:=0
def tw11517462308131404032:=0
def tw17369970315105767659:=0
def tw16280733232347729296:=0
def tw2215496166454336605:=0
def tw934981296982665880:=0
def tw12280679657130569303:=0
def tw8412283242119140128:=0
def tw688874846632351730:=0
def tw7434740097610887572:=0
def tw5374606955664723296:=0
def tw6183741488026450974:=0
def tw15572265305415586925:=0
def tw7681541826314050604:=0
def tw13012126095992161836:=0
def tw13307943328657033795:=0
def tw10802145475942141591:=0
def tw12885064040608234305:=0
def tw8386617910859450585:=0
def tw3760283479024261750:=0
def tw600790827939664006:=0
def tw9597278942339295915:=0
def tw11515028507161587030:=0
def tw16472916588937435213:=0
def tw16713315506801229507:=0
def tw2828588286600598667:=0
def tw13618166362764249593:=0
def tw5208765011438694238:=0
def tw7493996154002994169:=0
def tw387827332641408909:=0
def tw1003149137011667297:=0
def tw2580812005349252490:=0
def tw1182114722231220499:=0
def tw11402974833285460077:=0
def tw4320472122146082050:=0
def tw7141624208154999189:=0
def tw5010497432521878995:=0
def tw8330085448033618806:=0
def tw14286331109891190077:=0
def tw9803114728891638789:=0
def tw2718285584478994749:=0
def tw15574360059542611966:=0
def tw13125263547112173446:=0
def tw11415511744346681687:=0
def tw2267757314702565020:=0
def tw6367764892505456789:=0
def tw13386955181772860724:=0
def tw9579416360768656751:=0
def tw1007139262186109004:=0
def tw1925500340575136261:=0
def tw14351083566645532565:=0
def tw10027675449354998160:=0
def tw363084935823045115:=0
def tw1581829270864062712:=0
def tw17687470107077593908:=0
def tw100798088378390084:=0
def tw2680865047131953590:=0
def tw15907615452006418787:=0
def tw12266725156936384947:=0
def tw17871124736394266738:=0
def tw6397855274030963072:=0
def tw2910005244558282157:=0
def tw5926326500719080359:=0
def tw1984902579716283286:=0
def tw2230059553479939978:=0
def tw5997419971334671823:=0
def tw15353138383827554243:=0
def tw5527007624980673823:=0
def tw5966552685120622305:=0
def tw3004425059709038798:=0
def tw918859620620758905:=0
def tw6561266733053125175:=0
def tw2755113537372302902:=0
def tw4063228840226174193:=0
def tw15844524063230519634:=0
def tw12290359231426205268:=0
def tw5571704247451501893:=0
def tw13801390525527750239:=0
def tw4068944919111353596:=0
def tw12098585196044787596:=0
def tw2611257597888772518:=0
def tw15592975627571476468:=0
def tw1744729047450273221:=0
def tw9676900826163330547:=0
def tw14410754344454446675:=0
def tw7451852833576886472:=0
def tw13032363166590408091:=0
def tw5426791105708701701:=0
def tw2247836410817055445:=0
def tw2905062541629164978:=0
def tw6571058021895290940:=0
def tw8296829768672560329:=0
def tw1952033518263371900:=0
def tw2286051356005181801:=0
def tw3967614042749497994:=0
def tw8083762859954685763:=0
def tw15622618165169982945:=0
def tw7932843739563104406:=0
def tw865383717961641771:=0
def tw13490777638504345508:=0
def tw6554162301221471647:=0
def tw1474368504577347151:=0
def tw14320370996805796159:=0
def tw15038175829335665188:=0
def tw13506178423422554491:=0
def tw10459804482560722591:=0
def tw17794944637469181668:=0
def tw15978971795092297532:=0
def tw10686885503460674277:=0
def tw10250282241524925770:=0
def tw17086452943708960654:=0
def tw8077606180856153581:=0
def tw7173941513611111938:=0
def tw545694091170230544:=0
def tw6338767469802934988:=0
def tw14138171971726270798:=0
def tw5409529122524549651:=0
def tw15684369583256266333:=0
def tw14419435886017763111:=0
def tw12508157939111785315:=0
def tw291883690986630965:=0
def tw5868471191974999324:=0
def tw18355946215966688087:=0
def tw10598918385338248321:=0
def tw16471510534332624313:=0
def tw5738836393526004031:=0
def tw3410883945061593800:=0
def tw11391988462347972600:=0
def tw9905309056465499203:=0
def tw16881965283324733064:=0
def tw2339302741944197588:=0
def tw5876046195037782208:=0
def tw12819475122750050310:=0
def tw3324397886060182399:=0
def tw4622184844143317426:=0
def tw4003167498065272914:=0
def tw12096954280704111516:=0
def tw4298174458395044136:=0
def tw12852211231737579384:=0
def tw11784968669742351399:=0
def tw1450804371557022064:=0
def tw14262057899353484803:=0
def tw409204755122330365:=0
def tw8742077665212701409:=0
def tw12556626980593034391:=0
def tw4996744375845929692:=0
def tw8654350408903477306:=0
def tw7556898640887410492:=0
def tw16765117239207161346:=0
def tw5659045528833179970:=0
def tw3004133718110596237:=0
def tw10476848886335871533:=0
def tw18198497722935045927:=0
def tw8538783234635623263:=0
def tw9548098706868647723:=0
def tw156149520175217139:=0
def tw2615724900306367522:=0
def tw11507553843131028154:=0
def tw6875064437359988900:=0
def tw2792372825127618613:=0
def tw9408438521046710718:=0
def tw8511000120112713901:=0
def tw13211948107722105406:=0
def tw12726062070055045554:=0
def tw4891695780009816298:=0
def tw5560505710024145231:=0
def tw3111434803037931979:=0
def tw3293145905512392544:=0
def tw2738364485347043913:=0
def tw16028206069690098778:=0
def tw8162471356493224114:=0
def tw1916459097956072484:=0
def tw13129246335879660292:=0
def tw15786042982653418144:=0
def tw11947710737887398020:=0
def tw17043298291359783371:=0
def tw2534874433586660358:=0
def tw5105101979040554145:=0
def tw5226184809074623592:=0
def tw6914595462004973149:=0
def tw580893211566620740:=0
def tw8388922687962770720:=0
def tw10133578096267568170:=0
def tw7094372049483544385:=0
def tw9144377942991122172:=0
def tw8589798970158192905:=0
def tw9821073994449887618:=0
def tw17315321091432428424:=0
def tw16648134937706268778:=0
def tw1583299925969838091:=0
def tw10563427844632195498:=0
def tw12680321045046194154:=0
def tw11632591965471361294:=0
def tw515031825258718592:=0
def tw15667407400155148432:=0
def tw3798184086160737800:=0
def tw12864075598428839544:=0
def tw11700902543329996500:=0
def tw4756286275375306377:=0
def tw7522298405516248640:=0
def tw4189817837058066142:=0
def tw14604035597513782624:=0
def tw9231317475302567606:=0
def tw8357224964843339691:=0
def tw5572739267495530028:=0
def tw10100761419291335208:=0
def tw16698154747235377169:=0
def tw4361216740525674223:=0
def tw12386321794889271764:=0
def tw8965731466663043249:=0
def tw14912787431195292559:=0
def tw654576482797278260:=0
def tw17260468763849885766:=0
def tw2548765905597629124:=0
def tw14571174642705885520:=0
def tw15131063527250869514:=0
def tw17579133096032489793:=0
def tw17892211389895572022:=0
def tw14591530160086093369:=0
def tw14012168891128000251:=0
def tw7913979102552151966:=0
def tw9800307579766259036:=0
def tw1573561428423211625:=0
def tw7446499572085334658:=0
def tw13441299419454870634:=0
def tw17760997704772306159:=0
def tw10112532522902597213:=0
def tw3735632711852036394:=0
def tw4857428018390631631:=0
def tw4570569716603781997:=0
def tw7917629199457908180:=0
def tw9437761156204692261:=0
def tw11859305212891956925:=0
def tw904113871397063810:=0
def tw17530066289364983234:=0
def tw464401457136662524:=0
def tw9833077695379936569:=0
def tw12516718328659653990:=0
def tw1463621254008839983:=0
def tw2456828797039359063:=0
def tw14459743502021417964:=0
def tw277910453597672830:=0
def tw14333587435439405887:=0
def tw9452316223650021748:=0
def tw5392502780500250490:=0
def tw8912673900658571059:=0
def tw17716783065658325425:=0
def tw10278444759952635615:=0
def tw12054435875594549233:=0
def tw14207206061555126573:=0
def tw17995487649970216013:=0
def tw7654539787312603059:=0
def tw1280781523901410495:=0
def tw13519223870425673645:=0
def tw3786836310519754435:=0
def tw7542359177645088717:=0
def tw17634687179499029151:=0
def tw570536188666196964:=0
def tw3167699181428549264:=0
def tw12558306636185774339:=0
def tw18230730500156482402:=0
def tw6286770148483206755:=0
def tw4007702977611917601:=0
def tw15413484284285294293:=0
def tw6657910795696698815:=0
def tw1060067606563671668:=0
def tw15109539390990265211:=0
def tw16458165087540219119:=0
def tw7040511210672361547:=0
def tw12876523117734376790:=0
def tw4929986449012584819:=0
def tw2067323549077388404:=0
def tw224699819037663685:=0
def tw6998213161938522900:=0
def tw4326610084274348958:=0
def tw5805848659672292634:=0
def tw2590524081261994668:=0
def tw500264313278707665:=0
def tw4734801814590566819:=0
def tw6738352071283815821:=0
def tw15413663042336620902:=0
def tw10200059993226286397:=0
def tw14078468628056549199:=0
def tw15493487831443393472:=0
def tw17982380966025259097:=0
def tw17283275499616133193:=0
def tw7448958730700202012:=0
def tw9188348782090363411:=0
def tw2337358290234106804:=0
def tw17511720933109403388:=0
def tw3397014562311831827:=0
def tw2930281174396233594:=0
def tw8707733267729907353:=0
def tw15931482030086905401:=0
def tw5159747055805977399:=0
def tw8842269932181521606:=0
def tw9394217582556762757:=0
def tw7069800380616614578:=0
def tw7226978691957134893:=0
def tw9682344936224972404:=0
def tw4158992602462401241:=0
def tw2165785665058886603:=0
def tw6686654764211167731:=0
def tw5964635586218475779:=0
def tw6500090671323327410:=0
def tw17084728044919191291:=0
def tw7397793698438416445:=0
def tw14641339888127758868:=0
def tw14294035148547663238:=0
def tw15950856522889171842:=0
def tw14839870141121039695:=0
def tw18388189172343605309:=0
def tw16124503543619060874:=0
def tw5522783929872431188:=0
def tw10008306750005261004:=0
def tw15511805576426109468:=0
def tw7285346259865308067:=0
def tw7743186908624475474:=0
def tw2188275223756736854:=0
def tw16123982690064747684:=0
def tw18266766643321487090:=0
def tw14139846279560748415:=0
def tw13580950089111385650:=0
def tw12873611715896670451:=0
def tw15281301213411963816:=0
def tw17850173974805905482:=0
def tw3005220699597455267:=0
def tw4818913205879617479:=0
def tw7105366617641684569:=0
def tw7716613845612465473:=0
def tw4351482846669877855:=0
def tw12472250882228931938:=0
def tw6509975396172466417:=0
def tw10047506461416862307:=0
def tw6337713443890597172:=0
def tw5701255106099306050:=0
def tw8939485117305501957:=0
def tw14639237481336493967:=0
def tw17619121035282065317:=0
def tw4520213468680950720:=0
def tw508075586028171355:=0
def tw15632092000759084696:=0
def tw9076782597863702263:=0
def tw10112420771419729407:=0
def tw2338737941685589406:=0
def tw16756735629156957909:=0
def tw17112542740825578585:=0
def tw15877951487091939105:=0
def tw6028266773615531204:=0
def tw4479592329572115768:=0
def tw9711470040948127819:=0
def tw8703407867313422419:=0
def tw4681019145591326456:=0
def tw12579751277817934401:=0
def tw779942709315496868:=0
def tw10526707004305873498:=0
def tw6540979109458130672:=0
def tw4469125762781307192:=0
def tw15162926072850965159:=0
def tw1015835421314840547:=0
def tw14230275996196522006:=0
def tw4641582201713315045:=0
def tw3612242250330009914:=0
def tw11862118076589711337:=0
def tw2239616006098903733:=0
def tw2903556890666118487:=0
def tw16862253161938839916:=0
def tw11040889805774676696:=0
def tw5783977446148187586:=0
def tw13775958501190018312:=0
def tw4224244677098093314:=0
def tw4129223468700673910:=0
def tw9460176623380664215:=0
def tw11662415655306234687:=0
def tw4725929788801361432:=0
def tw1363467034960690244:=0
def tw15519734806073604344:=0
def tw17760976073967452093:=0
def tw16510651977684155507:=0
def tw16600525421885881030:=0
def tw13983398514932933040:=0
def tw8405495039745342860:=0
def tw14404075676530958390:=0
def tw16307601099808194058:=0
def tw10568103314604216467:=0
def tw15669449428810770344:=0
def tw10372288847282929957:=0
def tw5196571294324148231:=0
def tw4265023369977571009:=0
def tw8069550894762769096:=0
def tw16267289327600288432:=0
def tw9693927262274845679:=0
def tw15427728950514136953:=0
def tw9285997482530862105:=0
def tw7389648556133542603:=0
def tw2071797969213386317:=0
def tw17080913723084128808:=0
def tw9585503120782033261:=0
def tw350654077528892626:=0
def tw7837726169097371360:=0
def tw4673674355661221612:=0
def tw16284063107998194767:=0
def tw11910603336464562912:=0
def tw1106591959969981299:=0
def tw663874864441383083:=0
def tw14994216925268871217:=0
def tw2826661482744437399:=0
def tw4647143594163663051:=0
def tw6324763412626085587:=0
def tw10372223938963170680:=0
def tw12897999774961528697:=0
def tw1339800756775419369:=0
def tw11365895800290552305:=0
def tw10651346142352792667:=0
def tw6468347119788196296:=0
def tw2817057100412788862:=0
def tw7846696577272434524:=0
def tw10610854545958705997:=0
def tw2168364763308362422:=0
def tw6227144357259257822:=0
def tw3540868890782006291:=0
def tw6047365563440725995:=0
def tw6540949321753792492:=0
def tw10955000621894857645:=0
def tw7346845486541174555:=0
def tw14340446740288317107:=0
def tw16179798259556136806:=0
def tw13479297750002522644:=0
def tw10129147000763743623:=0
def tw15647223806808119926:=0
def tw1505055579107857380:=0
def tw2203222640345167141:=0
def tw10004492297301628502:=0
def tw4708929894044709281:=0
def tw14726202185129308621:=0
def tw6771092188161812869:=0
def tw13528607096364979331:=0
def tw75201182070074883:=0
def tw17278935798399966792:=0
def tw7078482656081952796:=0
def tw4118404134256650648:=0
def tw15041709281646791633:=0
def tw5665343698521536026:=0
def tw7591010384188692707:=0
def tw9954726010325826161:=0
def tw16743010327405467315:=0
def tw12043623347634212221:=0
def tw182808291194091155:=0
def tw8615362643284489445:=0
def tw8988689811685476287:=0
def tw14406599974565239766:=0
def tw9054662325665689622:=0
def tw14748629417386118103:=0
def tw12233575507938454776:=0
def tw16055892861650129573:=0
def tw1483864528397657997:=0
def tw12615686369584142623:=0
def tw910581422850064623:=0
def tw12554511005400842163:=0
def tw14556116028623525271:=0
def tw9540936698529228801:=0
def tw6455047961046442739:=0
def tw7689531397567431506:=0
def tw11510448295517971925:=0
def tw16845320098259342232:=0
def tw13422681398988726375:=0
def tw14975917137036982365:=0
def tw14133150251263811151:=0
def tw5955726635297372163:=0
def tw8158073586244320848:=0
def tw3544379311049912519:=0
def tw1121331771855970681:=0
def tw7264271350526374916:=0
def tw1969032208239417933:=0
def tw452480869414430431:=0
def tw18027902369147116221:=0
def tw15599508426745572356:=0
def tw2724426707464860561:=0
def tw5527806098518633819:=0
def tw5267450371039389531:=0
def tw12525505808057301316:=0
def tw8308499497431556597:=0
def tw17386970181781203576:=0
def tw10774753754001184815:=0
def tw16571946902289060915:=0
def tw14435806202815032095:=0
def tw16449468029632309141:=0
def tw17811459885418963503:=0
def tw1366884370914665229:=0
def tw12701133670860617530:=0
def tw12804889148653303543:=0
def tw7731832301470551724:=0
def tw14486923263008737271:=0
def tw13520827445979581888:=0
def tw6573526737922768992:=0
def tw16061933185449767267:=0
def tw10953808662954112860:=0
def tw10588782336371210188:=0
def tw11665902751623663616:=0
def tw949435806365088138:=0
def tw4970587566243318818:=0
def tw1591160886299418249:=0
def tw13283503453711509244:=0
def tw9620705151605917508:=0
def tw3242402336591277416:=0
def tw2856518246684078442:=0
def tw18154886300135633729:=0
def tw4625087306586311813:=0
def tw6155672485113672935:=0
def tw14743491529388615331:=0
def tw1109581682223159220:=0
def tw12046717356344364200:=0
def tw17027689684337937673:=0
def tw4930923093125057211:=0
def tw3248518227374567338:=0
def tw4392118342309088243:=0
def tw16131659006743260059:=0
def tw4219902721350324374:=0
def tw1494471569701749786:=0
def tw4338150071478169540:=0
def tw18142457629759632242:=0
def tw592467075874626222:=0
def tw13900015306561063650:=0
def tw17982755647597357602:=0
def tw15870710386854363096:=0
end PySem.W.Fast
theorem KR.absorb{G P:Prop}(_ _:G)(m:P):P:=m
open PySem PySem.W PyProof.Rows
set_option maxRecDepth 100000 in
set_option maxHeartbeats 0 in
noncomputable def KR.GG:{G:Prop // G→PySem.Challenge.rw_keyrise_k91_whole_values_in_order.Holds}:=⟨_,fun hG=>by
 refine KR.absorb hG ?hc ?main
 case main =>
  w_on;o_law;k_head
  case hw=>w_witness2
 case hc=>exact hG⟩
end KRGG
local macro_rules | `(tactic| omega) => `(tactic| first | with_reducible assumption | with_reducible exact Nat.le_of_succ_le_succ (by assumption) | with_reducible exact Nat.le_of_lt_succ (by assumption) | with_reducible exact Nat.le_of_lt (by assumption) | lia | omega (config := {}))
abbrev Ua:=@PySem.W.Frag
abbrev Ub:=@Option.some.inj
abbrev Uc:=@PySem.W.mg_of
abbrev Ud:=@PySem.W.mg_none_of
abbrev Ue:=@List.mem_append_right
abbrev Uf:=@Option.map_eq_some_iff
abbrev Ug:=@Bool.and_eq_true_iff
abbrev Uh:=@Ne.symm
abbrev Ui:=@List.getElem?_eq_getElem
abbrev Uj:=@List.length_map
abbrev Uk:=@List.getD_eq_getElem?_getD
abbrev Ul:=@List.mem_cons_of_mem
abbrev Um:=@List.mem_cons
abbrev Uo:=@List.length_append
abbrev Up:=@Nat.le_refl
abbrev Uq:=@List.length_cons
abbrev Ur:=@List.getElem?_map
abbrev Us:=@PySem.Heap.get?_push_of_some
abbrev Ut:=@decide_eq_true
abbrev Uu:=@List.size_toArray
abbrev Uv:=@List.mem_of_getElem?
abbrev Uw:=@List.getElem?_eq_some_iff
abbrev Ux:=@List.mem_cons_self
abbrev UA:=@Nat.lt_of_lt_of_le
abbrev UB:=@decide_eq_false
abbrev UC:=@Nat.le_trans
abbrev UD:=@List.mem_singleton
abbrev UE:=@List.map_append
abbrev UF:=@Nat.zero_le
abbrev UG:=@PySem.Heap.get?_push_size
abbrev UH:=@List.append_assoc
abbrev UI:=@Bool.false_ne_true
abbrev UJ:=@of_decide_eq_true
abbrev UK:=@Int.emod_lt_of_pos
abbrev UL:=@PySem.Heap.lt_size
abbrev UM:=@Array.length_toList
abbrev UN:=@Bool.and_eq_true
abbrev UO:=@Int.emod_nonneg
abbrev UP:=@List.map_cons
abbrev UQ:=@List.length_singleton
abbrev UR:=@Nat.ne_of_lt
abbrev US:=@List.length_take
abbrev UT:=@List.idxOf_lt_length_of_mem
abbrev UU:=@List.map_map
abbrev UV:=@List.take_of_length_le
abbrev UW:=@decide_eq_true_eq
abbrev UX:=@List.take_add_one
abbrev UY:=@List.drop_eq_getElem_cons
abbrev UZ:=@Nat.lt_or_ge
abbrev Va:=@List.length_drop
abbrev Vb:=@List.length_range
abbrev Vc:=@List.getElem_map
abbrev Vd:=@List.cons_ne_nil
abbrev Ve:=@List.all_eq_true
abbrev Vf:=@List.flatten_cons
abbrev Vg:=@List.map_congr_left
abbrev Vh:=@List.getElem?_eq_none
set_option Elab.async false
set_option linter.all false
set_option maxRecDepth 100000
namespace L2
open PySem PySem.Spec PyProof.Rows
noncomputable abbrev Key:=Sum Int Str
noncomputable def keyIs:Key→Value→Bool
 | .inl k,v=>Value.isInt k v
 | .inr x,v=>Value.isStrOf x v
noncomputable def keyH(w:World):Key→Int
 | .inl k=>hashInt k
 | .inr x=>hashStr w x
theorem Ys:∀ {k:Key} {v:Value},keyIs k v=true→(∃ i t,k=Sum.inl i∧v=Value.int i t)∨(∃ x t,k=Sum.inr x∧v=Value.str x t)
 | .inl i,v,h=>by
  obtain⟨t,e⟩:=Value.isInt_shape (k:=i) (v:=v) h
  exact .inl ⟨i,t,rfl,e⟩
 | .inr x,v,h=>by
  obtain⟨t,e⟩:=Value.isStrOf_shape (x:=x) (v:=v) h
  exact .inr ⟨x,t,rfl,e⟩
theorem Xbr(a b:Int):decide ((Sum.inl a:Key)=Sum.inl b)=(a == b):=by
 by_cases e:a=b
 ·subst e;simp
 ·have h:¬(Sum.inl a:Key)=Sum.inl b:=fun q=>e (Sum.inl.inj q)
  rw[UB h]
  exact(beq_eq_false_iff_ne.mpr e).symm
theorem Xbo(a b:Str):decide ((Sum.inr a:Key)=Sum.inr b)=decide (a=b):=by
 by_cases e:a=b
 ·subst e;simp
 ·have h:¬(Sum.inr a:Key)=Sum.inr b:=fun q=>e (Sum.inr.inj q)
  rw[UB h,UB e]
theorem Xbq(a:Int)(b:Str):decide ((Sum.inl a:Key)=Sum.inr b)=false:=UB (fun q=>nomatch q)
theorem Xbp(a:Str)(b:Int):decide ((Sum.inr a:Key)=Sum.inl b)=false:=UB (fun q=>nomatch q)
noncomputable def mixKind(prog:Program)(w:World):PySem.KeyKind prog w Key where
 is:=keyIs
 hash:=keyH w
 inj:=fun v a b ha hb=>by
  rcases Ys ha with⟨i,t,rfl,rfl⟩ | ⟨x,t,rfl,rfl⟩
  ·rcases Ys hb with⟨j,u,rfl,e⟩ | ⟨y,u,rfl,e⟩
   ·injection e with e1 _;rw[e1]
   ·exact nomatch e
  ·rcases Ys hb with⟨j,u,rfl,e⟩ | ⟨y,u,rfl,e⟩
   ·exact nomatch e
   ·injection e with e1 _;rw[e1]
 byValue:=fun k v h=>by
  rcases Ys h with⟨i,t,rfl,rfl⟩ | ⟨x,t,rfl,rfl⟩<;>rfl
 pyHash:=fun hv h=>by
  rcases Ys hv with⟨i,t,rfl,rfl⟩ | ⟨x,t,rfl,rfl⟩
  ·exact wpAny_pyHash_int h
  ·exact wpAny_pyHash_str h
 eqBool:=fun hu hv h=>by
  rcases Ys hu with⟨i,t,rfl,rfl⟩ | ⟨x,t,rfl,rfl⟩
  ·rcases Ys hv with⟨j,u,rfl,rfl⟩ | ⟨y,u,rfl,rfl⟩
   ·rw[Xbr] at h;exact wpAny_eqBool_int h
   ·rw[Xbq] at h;exact SeqAt.EqAt.int_str i t y u _ _ _ _ h
  ·rcases Ys hv with⟨j,u,rfl,rfl⟩ | ⟨y,u,rfl,rfl⟩
   ·rw[Xbp] at h;exact SeqAt.EqAt.str_int x t j u _ _ _ _ h
   ·rw[Xbo] at h;exact wpAny_eqBool_str h
 «strs» := fun k x t v h=>by
  rcases Ys h with⟨i,u,rfl,e⟩ | ⟨y,u,rfl,e⟩
  ·exact nomatch e
  ·injection e with e1 _
   subst e1
   cases v<;>rfl
end L2
namespace L2
open PySem PySem.Spec PyProof.Rows
inductive V where
 | non | bl (b:Bool) | int (i:Int) | str (x:Str) | byt (b:Array UInt8) | flt (b:UInt64) | ref (a:Addr) | ty (n:String)
 deriving DecidableEq
noncomputable def RelV:V→Value→Prop
 | .non,u=>u=Value.none
 | .bl b,u=>u=Value.bool b
 | .int i,u=>∃ t,u=Value.int i t
 | .str x,u=>∃ t,u=Value.str x t
 | .byt b,u=>∃ t,u=Value.bytes b t
 | .flt b,u=>∃ t,u=Value.float b t
 | .ref a,u=>u=Value.ref a
 | .ty n,u=>u=Value.type n
noncomputable abbrev Vals:List V→List Value→Prop:=Paired RelV
theorem Vals.length{xs:List V}{us:List Value}(r:Vals xs us):xs.length=us.length:=Paired.length r
theorem Vals.get:∀ {xs:List V} {us:List Value} {i:Nat} {x:V},Vals xs us→xs[i]?=some x→∃ u,us[i]?=some u∧RelV x u
 | _,_,_,_,.nil,e=>by simp at e
 | _,_,0,_,.cons r _,e=>by simp at e;subst e;exact⟨_,rfl,r⟩
 | _,_,i+1,x,.cons _ t,e=>by
  obtain⟨u,h1,h2⟩:=Vals.get (i:=i) (x:=x) t (by simpa using e)
  exact⟨u,by simpa using h1,h2⟩
theorem Vals.append:∀ {xs ys:List V} {us ws:List Value},Vals xs us→Vals ys ws→Vals (xs++ys) (us++ws)
 | _,_,_,_,.nil,s=>s
 | _,_,_,_,.cons r t,s => .cons r (Vals.append t s)
theorem Vals.take:∀ {xs:List V} {us:List Value} (n:Nat),Vals xs us→Vals (xs.take n) (us.take n)
 | _,_,0,_ => .nil
 | _,_,_+1,.nil => .nil
 | _,_,n+1,.cons r t => .cons r (Vals.take n t)
theorem Vals.drop:∀ {xs:List V} {us:List Value} (n:Nat),Vals xs us→Vals (xs.drop n) (us.drop n)
 | _,_,0,r=>r
 | _,_,_+1,.nil => .nil
 | _,_,n+1,.cons _ t=>Vals.drop n t
noncomputable def RelO:Option V→Option Value→Prop
 | some v,some u=>RelV v u
 | none,none=>True
 | _,_=>False
noncomputable def KV{κ:Type}:List (κ×V)→List (κ×Value)→Prop:=Paired fun(p:κ×V) (q:κ×Value)=>p.1=q.1∧RelV p.2 q.2
noncomputable def kV:Key→V
 | .inl i => .int i
 | .inr x => .str x
inductive HO where
  | lst (xs:List V)
  | tup (xs:List V)
  | dK (kvs:List (Key×V)) | dT (kvs:List (List Key×V))
  | set (S:Int→Bool) (n:Nat)
  | ins (C dx:Addr) (fs:List (Str×V))
  | own (x:Addr)
  | xd (fs:List (Str×V))
  | met (f x:Addr)
  | rng (lo hi:Int)
  | frz (o:Obj) (u:HO)
  | tbl (ps:Array Value)
  | ext (φ:Heap→Prop)
noncomputable abbrev Hp:=Addr→Option HO
noncomputable def upd(H:Hp)(a:Addr)(o:HO):Hp:=fun b=>if b=a then some o else H b
theorem Zb{H:Hp}{a:Addr}{o:HO}:upd H a o a=some o:=by unfold upd;rw[if_pos rfl]
theorem Zn{H:Hp}{a b:Addr}{o:HO}(h:b≠a):upd H a o b=H b:=by unfold upd;rw[if_neg h]
theorem Xa{H:Hp}{a b:Addr}{o:HO}(h:H a=some o)(h':H b=none):a≠b:=by
 intro e;subst e;rw[h] at h';cases h'
section
variable (P:Program) (w:World)
noncomputable def ObjOk(H:Hp)(h:Heap)(a:Addr):HO→Prop
 | .lst xs=>xs.length≤sizeLine∧∃ (its:List Value) (n:Nat),Vals xs its∧h.get? a=some {cls := .type "list",data := .seq its.toArray n}
 | .tup xs=>xs.length≤sizeLine∧∃ its:List Value,Vals xs its∧IsTup h a its.toArray
 | .dK kvs=>kvs.length≤sizeLine∧(a == sysModules)=false∧∃ vs,KV kvs vs∧h.DictOf (mixKind P w) a vs
 | .dT _=>False
 | .set S n=>h.SetOf (intKind P w) a S n
 | .ins C dx fs=>H dx=some (.own a)∧fs.length≤1000∧dx≠a∧h.get? a=some (PySem.W.instObj C dx)∧
   ∃ mA,h.Ns1 dx mA∧(∀ f,RelO (fs.lookup f) (mA f))∧PySem.Within mA (fs.map (·.1))
 | .own _=>∃ o,h.get? a=some o
 | .xd fs=>∃ mA,h.Ns1 a mA∧∀ f,RelO (fs.lookup f) (mA f)
 | .rng lo hi=>∃ t u v,h.get? a=some {cls := .type "range",data := .fields #[.int lo t,.int hi u,.int 1 v]}
 | .frz o u=>h.get? a=some o∧ObjOk H h a u
 | .tbl ps=>h.get? a=some {cls := .none,data := .fields ps}
 | .met f x=>h.get? a=some (PySem.W.methodObj (.ref f) (.ref x))
 | .ext φ=>φ h∧(∃ o,h.get? a=some o)∧∀ h1 h2:Heap,φ h1→(∀ o,h1.get? a=some o→h2.get? a=some o)→φ h2
def HOk(H:Hp)(h:Heap):Prop:=∀ a o,H a=some o→ObjOk P w H h a o
end
section
variable {P:Program} {w:World} {H H':Hp} {h h':Heap} {a:Addr} {o:HO}
theorem ObjOk.lt(x:ObjOk P w H h a o):a<h.objs.size:=by
 cases o with
 | lst xs=>obtain⟨_,_,_,_,e⟩:=x;exact UL e
 | tup xs=>obtain⟨_,_,_,p⟩:=x;exact p.lt
 | dK kvs=>obtain⟨_,_,_,_,o,_,_,e,_⟩:=x;exact UL e
 | dT kvs=>exact(show False from x).elim
 | set S n=>obtain⟨o,_,_,_,e,_⟩:=x;exact UL e
 | ins C dx fs=>obtain⟨_,_,_,e,_⟩:=x;exact UL e
 | own y=>obtain⟨_,e⟩:=x;exact UL e
 | xd fs=>obtain⟨_,⟨_,_,_,e,_⟩,_⟩:=x;exact UL e
 | rng lo hi=>obtain⟨_,_,_,e⟩:=x;exact UL e
 | frz ob u=>obtain⟨e,_⟩:=x;exact UL e
 | tbl ps=>exact UL (show h.get? a=some _ from x)
 | met f y=>exact UL (show h.get? a=some _ from x)
 | ext φ=>obtain⟨_,⟨_,e⟩,_⟩:=x;exact UL e
theorem ObjOk.stay(x:ObjOk P w H h a o)(k:∀ b u,(b=a∨H b=some (.own a))→h.get? b=some u→h'.get? b=some u)
  (ho:∀ b,H b=some (.own a)→H' b=some (.own a)) (ht:∀ b xs,H b=some (.tup xs)→H' b=some (.tup xs)):ObjOk P w H' h' a o:=by
 induction o with
 | lst xs=>obtain⟨z,its,n,r,e⟩:=x;exact⟨z,its,n,r,k _ _ (.inl rfl) e⟩
 | tup xs=>obtain⟨z,its,r,ob,e,c⟩:=x;exact⟨z,its,r,ob,k _ _ (.inl rfl) e,c⟩
 | dK kvs=>obtain⟨z,y,vs,r,ob,es,ep,e,c⟩:=x;exact⟨z,y,vs,r,ob,es,ep,k _ _ (.inl rfl) e,c⟩
 | dT kvs=>exact(show False from x).elim
 | set S n=>obtain⟨ob,es,ep,t,e,c⟩:=x;exact⟨ob,es,ep,t,k _ _ (.inl rfl) e,c⟩
 | ins C dx fs =>
  obtain⟨d,z,ne,e,mA,⟨od,es,ep,e2,c⟩,r⟩:=x
  exact⟨ho _ d,z,ne,k _ _ (.inl rfl) e,mA,⟨od,es,ep,k _ _ (.inr d) e2,c⟩,r⟩
 | own y=>obtain⟨ob,e⟩:=x;exact⟨ob,k _ _ (.inl rfl) e⟩
 | xd fs=>obtain⟨mA,⟨od,es,ep,e,c⟩,r⟩:=x;exact⟨mA,⟨od,es,ep,k _ _ (.inl rfl) e,c⟩,r⟩
 | rng lo hi=>obtain⟨t,u,v,e⟩:=x;exact⟨t,u,v,k _ _ (.inl rfl) e⟩
 | frz ob u ih=>obtain⟨e,q⟩:=x;exact⟨k _ _ (.inl rfl) e,ih q⟩
 | tbl ps =>
  have e:h.get? a=some {cls := .none,data := .fields ps}:=x
  show h'.get? a=some {cls := .none,data := .fields ps}
  exact k a _ (.inl rfl) e
 | met f y =>
  have e:h.get? a=some (PySem.W.methodObj (.ref f) (.ref y)):=x
  show h'.get? a=some (PySem.W.methodObj (.ref f) (.ref y))
  exact k a _ (.inl rfl) e
 | ext φ=>obtain⟨p,⟨o,e⟩,st⟩:=x;exact⟨st _ _ p fun o q=>k _ _ (.inl rfl) q,⟨o,k _ _ (.inl rfl) e⟩,st⟩
theorem HOk.lt(x:HOk P w H h)(e:H a=some o):a<h.objs.size:=(x a o e).lt
theorem HOk.fresh(x:HOk P w H h)(e:h.objs.size≤a):H a=none:=by
 cases q:H a with
 | none=>rfl
 | some u=>exact absurd (UA (x.lt q) e) (Nat.lt_irrefl _)
theorem HOk.kept(x:HOk P w H h)(k:∀ b u,h.get? b=some u→h'.get? b=some u):HOk P w H h':=fun a o e =>
 (x a o e).stay (fun b u _ q=>k b u q) (fun _ q=>q) fun _ _ q=>q
theorem HOk.laid(x:HOk P w H h)(k:∀ b u,h.get? b=some u→h'.get? b=some u)(hp:h.objs.size≤a)(new:ObjOk P w (upd H a o) h' a o):HOk P w (upd H a o) h':=fun b u e=>by
 have hn:=x.fresh hp
 by_cases hb:b=a
 ·subst hb;rw[Zb] at e;cases e;exact new
 ·rw[Zn hb] at e
  exact(x b u e).stay (fun c v _ q=>k c v q) (fun c q=>by rw[Zn (Xa q hn)];exact q) fun c xs q=>by rw[Zn (Xa q hn)];exact q
end
def Rd(H:Hp)(a:Addr)(u:HO):Prop:=H a=some u∨∃ o,H a=some (.frz o u)
theorem Rd.ok{P:Program}{w:World}{H:Hp}{h:Heap}{a:Addr}{u:HO}(r:Rd H a u)(x:HOk P w H h):ObjOk P w H h a u:=by
 rcases r with r | ⟨o,r⟩
 ·exact x a u r
 ·obtain⟨_,q⟩:=x a _ r
  exact q
noncomputable def Mut:Option HO→Prop
 | some (.lst _)=>True
 | some (.dK _)=>True
 | some (.dT _)=>True
 | some (.set _ _)=>True
 | some (.ins _ _ _)=>True
 | some (.ext _)=>True
 | _=>False
section
variable {P:Program} {w:World} {H:Hp} {h h':Heap} {x e:Addr} {o':HO}
theorem HOk.write(ok:HOk P w H h)(mu:Mut (H x))(he:e=x∨H e=some (.own x))(k:∀ b u,b≠e→h.get? b=some u→h'.get? b=some u)(heo:∃ u,h'.get? e=some u)
  (new:ObjOk P w (upd H x o') h' x o'):HOk P w (upd H x o') h':=fun b u q=>by
 have nown:∀ c y,H c=some (.own y)→c≠x:=fun c y r z=>by subst z;rw[r] at mu;exact mu
 have ntup:∀ c xs,H c=some (.tup xs)→c≠x:=fun c xs r z=>by subst z;rw[r] at mu;exact mu
 by_cases hb:b=x
 ·subst hb;rw[Zb] at q;cases q;exact new
 ·rw[Zn hb] at q
  by_cases hbe:b=e
  ·have q':H b=some (.own x):=by
    rcases he with z | z
    ·exact absurd (hbe.trans z) hb
    ·rw[hbe];exact z
   rw[q] at q';cases q'
   obtain⟨v,hv⟩:=heo
   exact⟨v,by rw[hbe];exact hv⟩
  ·refine(ok b u q).stay (fun c v hc r=>k c v ?_ r) (fun c r=>by rw[Zn (nown c b r)];exact r) fun c xs r=>by rw[Zn (ntup c xs r)];exact r
   rcases hc with rfl | hc
   ·exact hbe
   ·rintro rfl
    rcases he with z | z
    ·exact nown c b hc z
    ·rw[hc] at z;cases z;exact hb rfl
end
structure Un(fs ex:List Addr)(H H':Hp)(h h':Heap):Prop where
 keep:∀ b o,h.get? b=some o→H b=none→b∉fs→b∉ex→h'.get? b=some o
 slot:∀ b o,h.get? b=some o→H b=none→b∈fs→b∉ex→∃ sl,h'.get? b=some {o with slots:=sl}
 free:∀ b o,h.get? b=some o→H b=none→b∉ex→H' b=none
 there:∀ b o,h.get? b=some o→b∉ex→∃ o',h'.get? b=some o'
 tups:∀ b xs,H b=some (.tup xs)→H' b=some (.tup xs)
 frzs:∀ b o u,H b=some (.frz o u)→H' b=some (.frz o u)
 tbls:∀ b ps,H b=some (.tbl ps)→∃ more,H' b=some (.tbl (ps++more))
section
variable {fs fs' ex ex':List Addr} {H H1 H2:Hp} {h h1 h2 h':Heap} {a x e:Addr} {o:HO}
theorem Un.any(u:Un fs ex H H1 h h1){b:Addr}{ob:Obj}(q:h.get? b=some ob)(n:H b=none)(hx:b∉ex):∃ sl,h1.get? b=some {ob with slots:=sl}:=by
 by_cases hb:b∈fs
 ·exact u.slot b ob q n hb hx
 ·exact⟨ob.slots,u.keep b ob q n hb hx⟩
theorem Un.kept(k:∀ b u,h.get? b=some u→h'.get? b=some u):Un fs ex H H h h' :=
 ⟨fun b ob q _ _ _=>k b ob q,fun b ob q _ _ _=>⟨ob.slots,k b ob q⟩,fun _ _ _ n _=>n,fun b ob q _=>⟨ob,k b ob q⟩,fun _ _ q=>q,fun _ _ _ q=>q,fun _ ps q=>⟨#[],by rw[q];simp⟩⟩
theorem Un.refl:Un fs ex H H h h:=Un.kept fun _ _ q=>q
theorem Un.laid(k:∀ b u,h.get? b=some u→h'.get? b=some u)(hp:h.objs.size≤a)(hn:H a=none):Un fs ex H (upd H a o) h h' where
 keep:=fun b u q _ _ _=>k b u q
 slot:=fun b u q _ _ _=>⟨u.slots,k b u q⟩
 free:=fun b u q n _=>by rw[Zn (UR (UA (UL q) hp))];exact n
 there:=fun b u q _=>⟨u,k b u q⟩
 tups:=fun b xs q=>by rw[Zn (Xa q hn)];exact q
 frzs:=fun b u xs q=>by rw[Zn (Xa q hn)];exact q
 tbls:=fun b ps q=>⟨#[],by rw[Zn (Xa q hn),q];simp⟩
theorem Un.write(mu:Mut (H x))(he:e=x∨H e=some (.own x))(k:∀ b u,b≠e→h.get? b=some u→h'.get? b=some u)(heo:∃ u,h'.get? e=some u):Un fs ex H (upd H x o) h h':=by
 have hx:∀ b,H b=none→b≠x:=fun b n z=>by subst z;rw[n] at mu;exact mu
 have hb:∀ b,H b=none→b≠e:=fun b n z=>by
  subst z
  rcases he with r | r
  ·exact hx b n r
  ·rw[n] at r;cases r
 have hm:∀ b u,H b=some u→¬Mut (some u)→b≠x:=fun b u q nm z=>by subst z;rw[q] at mu;exact nm mu
 refine⟨fun b u q n _ _=>k b u (hb b n) q,fun b u q n _ _=>⟨u.slots,k b u (hb b n) q⟩,fun b u q n _=>by rw[Zn (hx b n)];exact n,fun b u q _=>?_,
  fun b xs q=>by rw[Zn (hm b _ q fun z=>z)];exact q,fun b u xs q=>by rw[Zn (hm b _ q fun z=>z)];exact q,fun b ps q=>⟨#[],by rw[Zn (hm b _ q fun z=>z),q];simp⟩⟩
 by_cases hbe:b=e
 ·subst hbe;exact heo
 ·exact⟨u,k b u hbe q⟩
end
noncomputable def trk(h:Heap)(H:Hp):List Addr:=(List.range h.objs.size).filter fun a=>(H a).isSome
noncomputable def hidT(h:Heap)(H:Hp):Heap:=PySem.W.hideAll h (trk h H)
theorem Zux(h:Heap)(H:Hp):(hidT h H).objs.size=h.objs.size:=PySem.W.hideAll_size _ _
theorem Zxh{h:Heap}{H:Hp}{b:Addr}{o:Obj}(e:h.get? b=some o)(n:H b=none):(hidT h H).get? b=some o :=
 PySem.W.hideAll_get _ e fun hm=>by
  have q:(H b).isSome=true:=(List.mem_filter.mp hm).2
  rw[n] at q;simp at q
theorem Zzt{h:Heap}{H:Hp}{b:Addr}{o:Obj}(e:(hidT h H).get? b=some o):h.get? b=some o∧H b=none:=by
 have e':h.get? b=some o:=PySem.W.of_hideAll (trk h H) e
 refine⟨e',?_⟩
 cases q:H b with
 | none=>rfl
 | some x =>
  have hm:b∈trk h H:=List.mem_filter.mpr ⟨List.mem_range.mpr (UL e'),by simp[q]⟩
  have z:(hidT h H).get? b=none:=PySem.W.hideAll_none (trk h H) hm
  rw[z] at e;cases e
noncomputable def allNews(g h:Heap)(L:Addr):List (Addr×Obj):=(List.range h.objs.size).filterMap fun a=>if a=L∨(g.get? a).isSome=true then none else (h.get? a).map fun o=>(a,o)
noncomputable def rest(g h:Heap)(L d:Addr):List (Addr×Obj):=(allNews g h L).filter fun p=>decide (p.1≠d)
end L2
namespace L2
open PySem PySem.Spec PyProof.Rows
structure Mod(K:Ua)(mg:Str→Option Value)(base:Heap):Prop where
 kin:K.In base
 glob:base.Ns mainGlobals mg
 blt:∃ mb,base.Ns builtinsNs mb∧∀ x:Str,x≠"__name__"→mb x=bootBuiltins x
 nolimit:base.NoLimit
structure Cx where
 prog:Program
 w:World
 K:Ua
 mg:Str→Option Value
 base:Heap
 A:Around
 N:List Str
 s₀:Shared
 H₀:Hp
 env:Env
 outer:List Env
 stack:List Env
 ex:List Addr
 fn:Str→Bool
 calm:Bool
 pn:List (Addr×Obj)
 xe:Value→Shared→Prop
noncomputable def frs(l:List Env):List Addr:=l.filterMap (·.frame)
noncomputable abbrev Cx.fs(X:Cx):List Addr:=frs X.outer
def Vis(sc:Scope)(x:Str):Prop:=sc.names.lookup x=some .local∨sc.names.lookup x=some .cell∨sc.names.lookup x=some .free
def Loc(sc:Scope)(x:Str):Prop:=sc.names.lookup x=some .local∨sc.names.lookup x=some .cell
def Look(env:Env)(h:Heap)(m:Str→Option Value)(x:Str)(u:Value):Prop :=
 (env.kindOf x=some .local∧m x=some u)∨((env.kindOf x=some .cell∨env.kindOf x=some .free)∧∃ c,env.cells.lookup x=some c∧h.IsCell c (some u))
structure Cx.Ok(X:Cx):Prop where
 mod:Mod X.K X.mg X.base
 kind:X.env.scope.kind = .function
 glob:X.env.globals=mainGlobals
 blt:X.env.builtins=builtinsNs
 above:X.s₀.heap.objs.size≤X.env.locals
 inj:∀ x y c,X.env.cells.lookup x=some c→X.env.cells.lookup y=some c→x=y
 has:∀ x,(X.env.kindOf x=some .cell∨X.env.kindOf x=some .free)→∃ c,X.env.cells.lookup x=some c
 cab:∀ x c,X.fn x=true→X.env.cells.lookup x=some c→X.s₀.heap.objs.size≤c
 hd:X.calm=true→X.A.handled=none
 frames:X.A.frames=some X.stack
 stk:X.stack=X.outer∨(X.stack=X.env::X.outer∧X.env.frame=some X.env.locals)
 exf:∀ b∈X.ex,b≠X.env.locals∧∀ x c,X.env.cells.lookup x=some c→c≠b
 bs:∀ b o,X.base.get? b=some o→X.s₀.heap.get? b=some o∧X.H₀ b=none
 bsz:X.base.objs.size≤X.s₀.heap.objs.size
 noex:∀ b o,X.base.get? b=some o→b∉X.ex
 exfs:∀ b∈X.ex,b∉X.fs
 funs:X.s₀.heap.FunFrames X.base X.outer
 frf:∀ b∈X.fs,X.H₀ b=none
structure Inv(X:Cx)(pins:List (Addr×Obj))(σ:List (Option V))(H:Hp)(s:Shared):Prop where
 ok:X.Ok
 os:s.os=X.s₀.os
 bare:AllBare s.gens
 base:Un X.fs X.ex X.H₀ H X.s₀.heap s.heap
 loc:∃ m,s.heap.Ns X.env.locals m∧∀ (i:Nat) (x:Str) (v:V),X.N[i]?=some x→σ[i]?=some (some v)→Vis X.env.scope x→∃ u,RelV v u∧Look X.env s.heap m x u
 cell:∀ x c,X.env.cells.lookup x=some c→∃ v,s.heap.IsCell c v
 free:H X.env.locals=none
 freeC:∀ x c,X.env.cells.lookup x=some c→H c=none
 pin:∀ p∈X.pn++pins,s.heap.get? p.1=some p.2∧H p.1=none∧p.1≠X.env.locals∧p.1∉X.fs∧∀ v,p.2.data≠.cell v
 hok:HOk X.prog X.w H s.heap
 len:σ.length=X.N.length
section
variable {X:Cx} {pins:List (Addr×Obj)} {σ:List (Option V)} {H H':Hp} {s:Shared} {h':Heap}
theorem Cx.Ok.nofr(ok:X.Ok){b:Addr}{o:Obj}(e:X.base.get? b=some o):b∉X.fs:=fun hb=>by
 have:=(ok.funs.mem hb).1
 rw[e] at this;cases this
theorem Inv.bs(I:Inv X pins σ H s):∀ b o,X.base.get? b=some o→s.heap.get? b=some o∧H b=none:=fun b o e =>
 ⟨I.base.keep b o (I.ok.bs b o e).1 (I.ok.bs b o e).2 (I.ok.nofr e) (I.ok.noex b o e),I.base.free b o (I.ok.bs b o e).1 (I.ok.bs b o e).2 (I.ok.noex b o e)⟩
theorem Inv.bk(I:Inv X pins σ H s):∀ b o,X.base.get? b=some o→s.heap.get? b=some o:=fun b o e=>(I.bs b o e).1
theorem Inv.mod(I:Inv X pins σ H s):Mod X.K X.mg X.base:=I.ok.mod
theorem Inv.kIn(I:Inv X pins σ H s):X.K.In s.heap:=I.ok.mod.kin.keeps I.bk
theorem Inv.lt(I:Inv X pins σ H s):X.env.locals<s.heap.objs.size:=let ⟨_,hn,_⟩:=I.loc;hn.lt
theorem Inv.sz(I:Inv X pins σ H s):X.s₀.heap.objs.size≤s.heap.objs.size:=UC I.ok.above (Nat.le_of_lt I.lt)
theorem Inv.nofs(I:Inv X pins σ H s){a:Addr}(h:s.heap.objs.size≤a):a∉X.fs:=fun hb=>by
 obtain⟨_,o,ho,_⟩:=I.ok.funs.mem hb
 exact absurd (UA (UL ho) (UC I.sz h)) (Nat.lt_irrefl _)
theorem Inv.cne(I:Inv X pins σ H s):∀ x c,X.env.cells.lookup x=some c→c≠X.env.locals:=fun x c e z=>by
 obtain⟨v,o,ho,hd⟩:=I.cell x c e
 obtain⟨m,⟨o',es,ep,ho',hd',_⟩,_⟩:=I.loc
 rw[z,ho'] at ho;cases ho;rw[hd'] at hd;cases hd
theorem Inv.funs(I:Inv X pins σ H s):s.heap.FunFrames X.base X.outer:=by
 have all:∀ (l:List Env),(∀ b∈frs l,b∈X.fs)→X.s₀.heap.FunFrames X.base l→s.heap.FunFrames X.base l:=by
  intro l
  induction l with
  | nil=>intro _ _;trivial
  | cons env r ih =>
   intro hs hl
   obtain⟨hk,⟨L,o,hf,hn,ho,hd⟩,hr⟩:=hl
   have hL:L∈X.fs:=hs L (by unfold frs;rw[List.filterMap_cons,hf];exact Ux)
   obtain⟨sl,e⟩:=I.base.slot L o ho (I.ok.frf L hL) hL fun z=>I.ok.exfs L z hL
   exact⟨hk,⟨L,_,hf,hn,e,hd⟩,ih (fun b hb=>hs b (by unfold frs;rw[List.filterMap_cons,hf];exact Ul _ hb)) hr⟩
 exact all X.outer (fun _ hb=>hb) I.ok.funs
theorem Inv.stack(I:Inv X pins σ H s):s.heap.FunFrames X.base X.stack:=by
 rcases I.ok.stk with e | ⟨e,hf⟩
 ·rw[e];exact I.funs
 ·rw[e]
  obtain⟨m,hn,_⟩:=I.loc
  refine .cons (by rw[I.ok.kind];decide) hf hn ?_ I.funs
  exact Heap.get?_none_of_le (UC I.ok.bsz I.ok.above)
theorem Inv.stkSub(I:Inv X pins σ H s):∀ b∈frs X.stack,b∈X.env.locals::X.fs:=fun b hb=>by
 rcases I.ok.stk with e | ⟨e,hf⟩
 ·rw[e] at hb;exact Ul _ hb
 ·rw[e] at hb
  unfold frs at hb
  rw[List.filterMap_cons,hf] at hb
  exact hb
theorem Inv.stkFree(I:Inv X pins σ H s):∀ b∈frs X.stack,H b=none:=fun b hb=>by
 rcases Um.mp (I.stkSub b hb) with e | hb
 ·rw[e];exact I.free
 ·obtain⟨_,o,ho,_⟩:=I.ok.funs.mem hb
  exact I.base.free b o ho (I.ok.frf b hb) fun z=>I.ok.exfs b z hb
theorem Inv.step{g':Array GenState}{t':Nat}{d':Drawn}{ch:List Addr}(I:Inv X pins σ H s)
  (hch:∀ b∈ch,(b∈X.ex∨X.s₀.heap.objs.size≤b)∧b≠X.env.locals∧(∀ x c,X.env.cells.lookup x=some c→c≠b)∧∀ p∈X.pn++pins,p.1≠b)
  (keep:∀ b o,b≠X.env.locals→b∉X.fs→b∉ch→s.heap.get? b=some o→H b=none→h'.get? b=some o)
  (slot:∀ b o,b≠X.env.locals→b∈X.fs→b∉ch→s.heap.get? b=some o→H b=none→∃ sl,h'.get? b=some {o with slots:=sl}) (free:∀ b o,b∉ch→s.heap.get? b=some o→H b=none→H' b=none)
  (there:∀ b o,b∉ch→s.heap.get? b=some o→∃ o',h'.get? b=some o')
  (tups:∀ b xs,H b=some (.tup xs)→H' b=some (.tup xs)) (frzs:∀ b o u,H b=some (.frz o u)→H' b=some (.frz o u)) (tbls:∀ b ps,H b=some (.tbl ps)→∃ more,H' b=some (.tbl (ps++more)))
  (ns:∀ m,s.heap.Ns X.env.locals m→h'.Ns X.env.locals m) (hok:HOk X.prog X.w H' h') (hg:AllBare g') :
  Inv X pins σ H' {s with heap:=h',gens:=g',drawn:=d',toks:=t'}:=by
 have neL:∀ b o,X.s₀.heap.get? b=some o→b≠X.env.locals:=fun b o e=>UR (UA (UL e) I.ok.above)
 have neC:∀ b o,X.s₀.heap.get? b=some o→b∉X.ex→b∉ch:=fun b o e hx hb=>by
  rcases(hch b hb).1 with z | z
  ·exact hx z
  ·exact absurd (UA (UL e) z) (Nat.lt_irrefl _)
 have cellK:∀ x c,X.env.cells.lookup x=some c→∀ v,s.heap.IsCell c v→h'.IsCell c v:=fun x c e v ⟨o,ho,hd⟩=>by
  have nch:c∉ch:=fun z=>(hch c z).2.2.1 x c e rfl
  by_cases hc:c∈X.fs
  ·obtain⟨sl,q⟩:=slot c o (I.cne x c e) hc nch ho (I.freeC x c e)
   exact⟨_,q,hd⟩
  ·exact⟨o,keep c o (I.cne x c e) hc nch ho (I.freeC x c e),hd⟩
 refine⟨I.ok,I.os,hg,⟨fun b o e n hb hx=>?_,fun b o e n hb hx=>?_,fun b o e n hx=>?_,fun b o e hx=>?_,fun b xs e=>tups b xs (I.base.tups b xs e),fun b o xs e=>frzs b o xs (I.base.frzs b o xs e),fun b ps e=>?_⟩,?_,fun x c e=>?_,?_,fun x c e=>?_,fun p hp=>?_,hok,I.len⟩
 ·exact keep b o (neL b o e) hb (neC b o e hx) (I.base.keep b o e n hb hx) (I.base.free b o e n hx)
 ·obtain⟨sl,e1⟩:=I.base.slot b o e n hb hx
  obtain⟨sl',e2⟩:=slot b _ (neL b o e) hb (neC b o e hx) e1 (I.base.free b o e n hx)
  exact⟨sl',e2⟩
 ·obtain⟨o',e1⟩:=I.base.there b o e hx
  exact free b o' (neC b o e hx) e1 (I.base.free b o e n hx)
 ·obtain⟨o',e1⟩:=I.base.there b o e hx
  exact there b o' (neC b o e hx) e1
 ·obtain⟨m1,e1⟩:=I.base.tbls b ps e
  obtain⟨m2,e2⟩:=tbls b _ e1
  exact⟨m1++m2,by rw[e2,Array.append_assoc]⟩
 ·obtain⟨m,hn,hl⟩:=I.loc
  refine⟨m,ns m hn,fun i x v e1 e2 e3=>?_⟩
  obtain⟨u,r,l⟩:=hl i x v e1 e2 e3
  refine⟨u,r,?_⟩
  rcases l with l | ⟨k,c,e,z⟩
  ·exact .inl l
  ·exact .inr ⟨k,c,e,cellK x c e _ z⟩
 ·obtain⟨v,z⟩:=I.cell x c e
  exact⟨v,cellK x c e v z⟩
 ·obtain⟨m,⟨o,_,_,ho,_⟩,_⟩:=I.loc
  exact free _ o (fun z=>(hch _ z).2.1 rfl) ho I.free
 ·obtain⟨v,o,ho,hd⟩:=I.cell x c e
  exact free c o (fun z=>(hch c z).2.2.1 x c e rfl) ho (I.freeC x c e)
 ·obtain⟨e,n,ne,nf,d⟩:=I.pin p hp
  have nch:p.1∉ch:=fun z=>(hch p.1 z).2.2.2 p hp rfl
  exact⟨keep p.1 p.2 ne nf nch e n,free p.1 p.2 nch e n,ne,nf,d⟩
theorem Inv.un{t':Nat}(I:Inv X pins σ H s)(u:Un X.fs [] H H' s.heap h')(hok:HOk X.prog X.w H' h'):Inv X pins σ H' {s with heap:=h',toks:=t'}:=by
 obtain⟨m,⟨o,es,ep,ho,r⟩,_⟩:=id I.loc
 obtain⟨sl,hL⟩:=u.any ho I.free (by simp)
 exact I.step (g':=s.gens) (d':=s.drawn) (ch:=[]) (fun _ z=>nomatch z) (fun b o _ hb _ e n=>u.keep b o e n hb (by simp)) (fun b o _ hb _ e n=>u.slot b o e n hb (by simp)) (fun b o _ e n=>u.free b o e n (by simp)) (fun b o _ e=>u.there b o e (by simp)) u.tups u.frzs u.tbls (fun m' hm=>by
  obtain⟨o',es',ep',ho',r'⟩:=hm
  rw[ho] at ho';cases ho'
  exact⟨_,es',ep',hL,r'⟩) hok I.bare
theorem Inv.call{g':Array GenState}{t':Nat}{d':Drawn}{ch:List Addr}(I:Inv X pins σ H s)(u:Un (frs X.stack) ch H H' s.heap h')(hok:HOk X.prog X.w H' h')(hg:AllBare g')
  (hch:∀ b∈ch,(b∈X.ex∨X.s₀.heap.objs.size≤b)∧b≠X.env.locals∧(∀ x c,X.env.cells.lookup x=some c→c≠b)∧∀ p∈X.pn++pins,p.1≠b) :
  Inv X pins σ H' {s with heap:=h',gens:=g',drawn:=d',toks:=t'}:=by
 obtain⟨m,⟨o,es,ep,ho,r⟩,_⟩:=id I.loc
 obtain⟨sl,hL⟩:=u.any ho I.free fun z=>(hch _ z).2.1 rfl
 exact I.step (ch:=ch) hch (fun b o hL hb hc e n=>u.keep b o e n (fun z=>(Um.mp (I.stkSub b z)).elim hL hb) hc) (fun b o _ _ hc e n=>u.any e n hc) (fun b o hc e n=>u.free b o e n hc) (fun b o hc e=>u.there b o e hc) u.tups u.frzs u.tbls (fun m' hm=>by
  obtain⟨o',es',ep',ho',r'⟩:=hm
  rw[ho] at ho';cases ho'
  exact⟨_,es',ep',hL,r'⟩) hok hg
theorem Inv.turned{t':Nat}{it:Addr}(I:Inv X pins σ H s)(k:∀ b o,b≠it→s.heap.get? b=some o→h'.get? b=some o)(hn:H it=none)(hL:it≠X.env.locals)
  (h1:it∈X.ex∨X.s₀.heap.objs.size≤it) (h2:∀ x c,X.env.cells.lookup x=some c→c≠it) (h3:∀ p∈X.pn++pins,p.1≠it):Inv X pins σ H {s with heap:=h',toks:=t'}:=by
 have nit:∀ b u,H b=some u→b≠it:=fun b u e z=>by rw[z,hn] at e;cases e
 refine I.step (g':=s.gens) (d':=s.drawn) (ch:=[it]) (fun b hb=>?_) (fun b o _ _ hc e _=>k b o (fun z=>hc (by simp[z])) e) (fun b o _ _ hc e _=>⟨o.slots,k b o (fun z=>hc (by simp[z])) e⟩) (fun _ _ _ _ n=>n)
  (fun b o hc e=>⟨o,k b o (fun z=>hc (by simp[z])) e⟩) (fun _ _ e=>e) (fun _ _ _ e=>e) (fun b ps e=>⟨#[],by rw[e];simp⟩) (fun m hm=>?_) (fun b u e=>?_) I.bare
 ·have e:b=it:=by simpa using hb
  subst e
  exact⟨h1,hL,h2,h3⟩
 ·obtain⟨o,es,ep,ho,r⟩:=hm
  exact⟨o,es,ep,k _ o (Uh hL) ho,r⟩
 ·refine(I.hok b u e).stay (fun c v hc q=>k c v ?_ q) (fun _ q=>q) fun _ _ q=>q
  rcases hc with z | z
  ·rw[z];exact nit b u e
  ·exact nit c _ z
theorem Inv.tok(I:Inv X pins σ H s)(t:Nat):Inv X pins σ H {s with toks:=t}:=I.un (h':=s.heap) (t':=t) Un.refl I.hok
theorem Inv.kept{t':Nat}(I:Inv X pins σ H s)(k:∀ b u,s.heap.get? b=some u→h'.get? b=some u):Inv X pins σ H {s with heap:=h',toks:=t'}:=I.un (Un.kept k) (I.hok.kept k)
theorem Inv.laid{a:Addr}{o:HO}{t':Nat}(I:Inv X pins σ H s)(k:∀ b u,s.heap.get? b=some u→h'.get? b=some u)(hp:s.heap.objs.size≤a)(new:ObjOk X.prog X.w (upd H a o) h' a o) :
  Inv X pins σ (upd H a o) {s with heap:=h',toks:=t'}:=I.un (Un.laid k hp (I.hok.fresh hp)) (I.hok.laid k hp new)
theorem Inv.write{x e:Addr}{o:HO}{t':Nat}(I:Inv X pins σ H s)(mu:Mut (H x))(he:e=x∨H e=some (.own x))(k:∀ b u,b≠e→s.heap.get? b=some u→h'.get? b=some u)(heo:∃ u,h'.get? e=some u)
  (new:ObjOk X.prog X.w (upd H x o) h' x o):Inv X pins σ (upd H x o) {s with heap:=h',toks:=t'}:=I.un (Un.write mu he k heo) (I.hok.write mu he k heo new)
theorem Inv.pins_of{pins':List (Addr×Obj)}(I:Inv X pins σ H s)(h:∀ p∈pins',s.heap.get? p.1=some p.2∧H p.1=none∧p.1≠X.env.locals∧p.1∉X.fs∧∀ v,p.2.data≠.cell v):Inv X pins' σ H s :=
 ⟨I.ok,I.os,I.bare,I.base,I.loc,I.cell,I.free,I.freeC,fun p hp=>(List.mem_append.mp hp).elim (fun z=>I.pin p (List.mem_append_left _ z)) (h p),I.hok,I.len⟩
theorem Zqk{N:List Str}(hN:N.Nodup){i j:Nat}{x:Str}(a:N[i]?=some x)(b:N[j]?=some x):i=j:=by
 obtain⟨h1,e1⟩:=Uw.mp a
 obtain⟨h2,e2⟩:=Uw.mp b
 exact(List.getElem_inj hN).mp (e1.trans e2.symm)
theorem Zlz{M:Model}{A:Around}{E:Value→Shared→Prop}{i:Nat}{x:Str}{v:V}{u:Value}{Q:Unit→Shared→Prop}(I:Inv X pins σ H s)(hN:X.N.Nodup)(hi:X.N[i]?=some x)(hx:Loc X.env.scope x)(r:RelV v u)
  (h:∀ s',Inv X pins (σ.set i (some v)) H s'→(∃ a,Heap.SameBut a s.heap s'.heap∧(a=X.env.locals∨X.env.cells.lookup x=some a))→Q () s') (hf:X.fn x=true∨X.env.scope.names.lookup x=some .local:=by first | exact .inl rfl | exact .inr rfl | assumption):wpAny M A (storeName X.env x u) Q E s:=by
 obtain⟨m,hn,hl⟩:=id I.loc
 have hcls:(X.env.scope.kind == .class||(X.env.scope.kind == .module&&X.env.locals != X.env.globals))=false:=by rw[I.ok.kind];rfl
 have hiσ:i<σ.length:=by rw[I.len];exact(Uw.mp hi).1
 have cne:=I.cne
 have tracked:∀ {a:Addr} {h':Heap},(∃ o,s.heap.get? a=some o∧H a=none)→Heap.SameBut a s.heap h'→HOk X.prog X.w H h':=fun {a h'} ha hs b ob e=>by
  obtain⟨_,_,hfree⟩:=ha
  refine(I.hok b ob e).stay (fun c w' hc q=>(hs.2 c ?_).trans q) (fun _ q=>q) fun _ _ q=>q
  rintro rfl
  rcases hc with rfl | hc
  ·rw[hfree] at e;cases e
  ·rw[hfree] at hc;cases hc
 rcases hx with hk | hk
 ·refine wpAny_storeName_local hk hn (fun h' hn' hs=>?_) hcls
  obtain⟨oL,_,_,hoL,_⟩:=id hn
  refine h _ ⟨I.ok,I.os,I.bare,⟨fun b o e n hb hx=>?_,fun b o e n hb hx=>?_,I.base.free,fun b o e hx=>?_,I.base.tups,I.base.frzs,I.base.tbls⟩,⟨_,hn',fun j y v' e1 e2 e3=>?_⟩,fun y c e=>?_,I.free,I.freeC,fun p hp=>?_,tracked ⟨oL,hoL,I.free⟩ hs,by simpa using I.len⟩ ⟨_,hs,.inl rfl⟩
  ·exact(hs.2 b (UR (UA (UL e) I.ok.above))).trans (I.base.keep b o e n hb hx)
  ·obtain⟨sl,e1⟩:=I.base.slot b o e n hb hx
   exact⟨sl,(hs.2 b (UR (UA (UL e) I.ok.above))).trans e1⟩
  ·obtain⟨o',e1⟩:=I.base.there b o e hx
   exact⟨o',(hs.2 b (UR (UA (UL e) I.ok.above))).trans e1⟩
  ·by_cases hj:j=i
   ·subst hj
    rw[hi] at e1;cases e1
    rw[List.getElem?_set_self hiσ] at e2
    cases e2
    exact⟨u,r,.inl ⟨hk,by simp⟩⟩
   ·rw[List.getElem?_set_ne (Uh hj)] at e2
    obtain⟨u',r',q⟩:=hl j y v' e1 e2 e3
    refine⟨u',r',?_⟩
    rcases q with⟨k,e⟩ | ⟨k,c,e,z⟩
    ·refine .inl ⟨k,?_⟩
     have:y≠x:=fun e=>hj (Zqk hN e1 (e ▸ hi))
     simp[this,e]
    ·exact .inr ⟨k,c,e,z.sameBut hs (cne y c e)⟩
  ·obtain⟨w',z⟩:=I.cell y c e
   exact⟨w',z.sameBut hs (cne y c e)⟩
  ·obtain⟨e,n,ne,nf,d⟩:=I.pin p hp
   exact⟨(hs.2 p.1 ne).trans e,n,ne,nf,d⟩
 ·have hfn:X.fn x=true:=by
   rcases hf with z | z
   ·exact z
   ·rw[z] at hk;cases hk
  obtain⟨c,hc⟩:=I.ok.has x (.inl hk)
  obtain⟨w',z⟩:=I.cell x c hc
  refine wpAny_storeName_cell I.ok.kind hk hc z (fun h' hc' hs=>?_)
  obtain⟨oc,hoc,hocd⟩:=id z
  refine h {s with heap:=h'} ⟨I.ok,I.os,I.bare,⟨fun b o e n hb hx=>?_,fun b o e n hb hx=>?_,I.base.free,fun b o e hx=>?_,I.base.tups,I.base.frzs,I.base.tbls⟩,⟨m,hn.sameBut hs (Uh (cne x c hc)),fun j y v' e1 e2 e3=>?_⟩,fun y c' e=>?_,I.free,I.freeC,fun p hp=>?_,tracked ⟨oc,hoc,I.freeC x c hc⟩ hs,by simpa using I.len⟩ ⟨c,hs,.inr hc⟩
  ·exact(hs.2 b (UR (UA (UL e) (I.ok.cab x c hfn hc)))).trans (I.base.keep b o e n hb hx)
  ·obtain⟨sl,e1⟩:=I.base.slot b o e n hb hx
   exact⟨sl,(hs.2 b (UR (UA (UL e) (I.ok.cab x c hfn hc)))).trans e1⟩
  ·obtain⟨o',e1⟩:=I.base.there b o e hx
   exact⟨o',(hs.2 b (UR (UA (UL e) (I.ok.cab x c hfn hc)))).trans e1⟩
  ·by_cases hj:j=i
   ·subst hj
    rw[hi] at e1;cases e1
    rw[List.getElem?_set_self hiσ] at e2
    cases e2
    exact⟨u,r,.inr ⟨.inl hk,c,hc,hc'⟩⟩
   ·rw[List.getElem?_set_ne (Uh hj)] at e2
    obtain⟨u',r',q⟩:=hl j y v' e1 e2 e3
    refine⟨u',r',?_⟩
    rcases q with q | ⟨k,c',e,z'⟩
    ·exact .inl q
    ·refine .inr ⟨k,c',e,z'.sameBut hs ?_⟩
     rintro rfl
     exact hj (Zqk hN e1 (I.ok.inj _ _ _ e hc ▸ hi))
  ·by_cases hcc:c'=c
   ·subst hcc;exact⟨_,hc'⟩
   ·obtain⟨w2,z2⟩:=I.cell y c' e
    exact⟨w2,z2.sameBut hs hcc⟩
  ·obtain⟨e,n,ne,nf,d⟩:=I.pin p hp
   refine⟨(hs.2 p.1 ?_).trans e,n,ne,nf,d⟩
   intro q
   rw[q,hoc] at e
   have q':oc=p.2:=Ub e
   exact d w' (by rw[← q'];exact hocd)
theorem Zpk{M:Model}{A:Around}{E:Value→Shared→Prop}{i:Nat}{x:Str}{v:V}{u:Value}{Q:Unit→Shared→Prop}(I:Inv X pins σ H s)(hN:X.N.Nodup)(hi:X.N[i]?=some x)(hx:Loc X.env.scope x)(r:RelV v u)
  (h:∀ s',Inv X pins (σ.set i (some v)) H s'→Q () s') (hf:X.fn x=true∨X.env.scope.names.lookup x=some .local:=by first | exact .inl rfl | exact .inr rfl | assumption):wpAny M A (storeName X.env x u) Q E s :=
 Zlz I hN hi hx r (fun s' I' _=>h s' I') hf
theorem Inv.call'{s':Shared}{ch:List Addr}(I:Inv X pins σ H s)(ho:s'.os=s.os)(u:Un (frs X.stack) ch H H' s.heap s'.heap)(hok:HOk X.prog X.w H' s'.heap)(hg:AllBare s'.gens)
  (hch:∀ b∈ch,(b∈X.ex∨X.s₀.heap.objs.size≤b)∧b≠X.env.locals∧(∀ x c,X.env.cells.lookup x=some c→c≠b)∧∀ p∈X.pn++pins,p.1≠b):Inv X pins σ H' s':=by
 obtain⟨h',g',d',t',o'⟩:=s'
 have e:o'=s.os:=ho
 subst e
 exact I.call (g':=g') (t':=t') (d':=d') u hok hg hch
end
noncomputable abbrev XK:=Value→Option Addr→Hp→Prop
noncomputable abbrev St:=List (Option V)
noncomputable abbrev VK:=V→Hp→Prop
noncomputable abbrev TE:=St→Hp→VK→Prop
noncomputable abbrev TT:=St→Hp→(Bool→Hp→Prop)→Prop
noncomputable abbrev TA:=St→Hp→(List V→Hp→Prop)→Prop
structure Ends where
 nx:St→Hp→Prop
 rt:VK
 bk:St→Hp→Prop:=fun _ _=>False
 ct:St→Hp→Prop:=fun _ _=>False
noncomputable abbrev TS:=Ends→St→Hp→Prop
def EP(X:Cx)(pins:List (Addr×Obj))(σ:St)(Q:VK)(u:Value)(s':Shared):Prop:=∃ v H',Inv X pins σ H' s'∧RelV v u∧Q v H'
def TP(X:Cx)(pins:List (Addr×Obj))(σ:St)(Q:Bool→Hp→Prop)(b:Bool)(s':Shared):Prop:=∃ H',Inv X pins σ H' s'∧Q b H'
def AP(X:Cx)(pins:List (Addr×Obj))(σ:St)(Q:List V→Hp→Prop)(us:List Value)(s':Shared):Prop:=∃ vs H',Inv X pins σ H' s'∧Vals vs us∧Q vs H'
def SP(X:Cx)(pins:List (Addr×Obj))(D:Ends)(f:Flow)(s':Shared):Prop :=
 match f with
 | .next=>∃ σ' H',Inv X pins σ' H' s'∧D.nx σ' H'
 | .brk=>∃ σ' H',Inv X pins σ' H' s'∧D.bk σ' H'
 | .cont=>∃ σ' H',Inv X pins σ' H' s'∧D.ct σ' H'
 | .ret u=>∃ v σ' H',Inv X pins σ' H' s'∧RelV v u∧D.rt v H'
def PE(X:Cx)(e:Expr)(t:TE):Prop :=
 ∀ (pins:List (Addr×Obj)) (s:Shared) (σ:St) (H:Hp) (Q:VK),Inv X pins σ H s→t σ H Q→wpAny (model X.prog X.w) X.A (eval e X.env) (EP X pins σ Q) X.xe s
def PT(X:Cx)(e:Expr)(t:TT):Prop :=
 ∀ (pins:List (Addr×Obj)) (s:Shared) (σ:St) (H:Hp) (Q:Bool→Hp→Prop),Inv X pins σ H s→t σ H Q→wpAny (model X.prog X.w) X.A (isTrue e X.env (eval e X.env)) (TP X pins σ Q) X.xe s
def PW(X:Cx)(e:Expr)(t:TT):Prop :=
 ∀ (whole:Sem Value) (pins:List (Addr×Obj)) (s:Shared) (σ:St) (H:Hp) (Q:Bool→Hp→Prop),Inv X pins σ H s→t σ H Q→wpAny (model X.prog X.w) X.A (isTrue e X.env whole) (TP X pins σ Q) X.xe s
theorem PW.pt{X:Cx}{e:Expr}{t:TT}(h:PW X e t):PT X e t:=h _
def PA(X:Cx)(es:List Expr)(t:TA):Prop :=
 ∀ (pos:Pos) (pins:List (Addr×Obj)) (s:Shared) (σ:St) (H:Hp) (Q:List V→Hp→Prop),Inv X pins σ H s→t σ H Q→wpAny (model X.prog X.w) X.A (spliced (backTo pos (starEach es X.env))) (AP X pins σ Q) X.xe s
def PS(X:Cx)(st:Stmt)(t:TS):Prop :=
 ∀ (pins:List (Addr×Obj)) (s:Shared) (σ:St) (H:Hp) (D:Ends),Inv X pins σ H s→t D σ H→wpAny (model X.prog X.w) X.A (exec st X.env) (SP X pins D) X.xe s
def PSs(X:Cx)(st:List Stmt)(t:TS):Prop :=
 ∀ (pins:List (Addr×Obj)) (s:Shared) (σ:St) (H:Hp) (D:Ends),Inv X pins σ H s→t D σ H→wpAny (model X.prog X.w) X.A (execs st X.env) (SP X pins D) X.xe s
theorem thn{α:Type}{t:Sem α}{Q Q':α→Shared→Prop}{M:Model}{A:Around}{E:Value→Shared→Prop}{s:Shared}(h:wpAny M A t Q E s)(hQ:∀ a s,Q a s→Q' a s):wpAny M A t Q' E s:=wpAny_mono h hQ fun _ _ x=>x
end L2
namespace L2
open PySem PySem.Spec PyProof.Rows
section
variable {X:Cx}
def tVar(i:Nat):TE:=fun σ H Q=>∃ v,σ[i]?=some (some v)∧Q v H
def tC(v:V):TE:=fun _ H Q=>Q v H
theorem Xbf{i:Nat}{x:Str}{pos:Pos}(hN:X.N[i]?=some x)(hv:Vis X.env.scope x)(hd:(x == ("__debug__":Str))=false:=by decide)(hcd:(x == ("__classdict__":Str))=false:=by decide):PE X (.Name x pos) (tVar i):=by
 intro pins s σ H Q I h
 obtain⟨v,e,h⟩:=h
 obtain⟨m,hn,hl⟩:=I.loc
 obtain⟨u,r,l⟩:=hl i x v hN e hv
 have fin:EP X pins σ Q u s:=⟨v,H,I,r,h⟩
 rcases l with⟨hk,hm⟩ | ⟨hk,c,hc,hcell⟩
 ·exact wpAny_Name (wpAny_loadName_local I.ok.kind hk hn hm fin) hd
 ·rcases hk with hk | hk
  ·exact wpAny_Name (wpAny_loadName_cell I.ok.kind hk hc hcell fin) hd
  ·exact wpAny_Name (wpAny_loadName_free I.ok.kind hk hc hcell fin hcd) hd
theorem Zd{i j pos}:PE X (.Constant (.int i) j pos) (tC (.int i)):=fun _ _ _ H _ I h=>wpAny_Constant_int ⟨.int i,H,I.tok _,⟨_,rfl⟩,h⟩
theorem Jw{b j pos}:PE X (.Constant (.bool b) j pos) (tC (.bl b)):=fun _ _ _ H _ I h=>Constant_bool ⟨.bl b,H,I,rfl,h⟩
theorem Zfk{j pos}:PE X (.Constant .none j pos) (tC .non):=fun _ _ _ H _ I h=>Constant_none ⟨.non,H,I,rfl,h⟩
theorem Zu{x j pos}:PE X (.Constant (.str x) j pos) (tC (.str x)):=fun _ _ _ H _ I h=>Calls.Constant_str ⟨.str x,H,I.tok _,⟨_,rfl⟩,h⟩
def Gl(X:Cx)(x:Str):Prop:=X.env.kindOf x=some .globalImplicit
theorem Zjf{E:Value→Shared→Prop}{pins:List (Addr×Obj)}{s:Shared}{σ:St}{H:Hp}{x:Str}{u:Value}{pos:Pos}{Q:Value→Shared→Prop}(I:Inv X pins σ H s)(hg:Gl X x)(hm:X.mg x=some u)(h:Q u s)
  (hd:(x == ("__debug__":Str))=false:=by decide):wpAny (model X.prog X.w) X.A (eval (.Name x pos) X.env) Q E s :=
 Calls.Name_function_global I.ok.kind hg (Calls.loadGlobal_global (by rw[I.ok.glob];exact I.mod.glob.keeps I.bk) hm h) hd
theorem Zbu{E:Value→Shared→Prop}{pins:List (Addr×Obj)}{s:Shared}{σ:St}{H:Hp}{x:Str}{u:Value}{pos:Pos}{Q:Value→Shared→Prop}(I:Inv X pins σ H s)(hg:Gl X x)(hm:X.mg x=none)(hv:bootBuiltins x=some u)(h:Q u s)
  (hn:x≠"__name__":=by decide) (hd:(x == ("__debug__":Str))=false:=by decide):wpAny (model X.prog X.w) X.A (eval (.Name x pos) X.env) Q E s:=by
 obtain⟨mb,h1,h2⟩:=I.mod.blt
 exact Calls.Name_function_global I.ok.kind hg (Calls.loadGlobal_builtin (by rw[I.ok.glob];exact I.mod.glob.keeps I.bk) hm (by rw[I.ok.blt];exact h1.keeps I.bk) ((h2 x hn).trans hv) h) hd
theorem Zzj{x:Str}{v:V}{u:Value}{pos:Pos}(hg:Gl X x)(hm:X.mg x=some u)(r:RelV v u)(hd:(x == ("__debug__":Str))=false:=by decide):PE X (.Name x pos) (tC v) :=
 fun _ _ _ H _ I h=>Zjf I hg hm ⟨v,H,I,r,h⟩ hd
theorem Yn{x:Str}{v:V}{u:Value}{pos:Pos}(hg:Gl X x)(hm:X.mg x=none)(hv:bootBuiltins x=some u)(r:RelV v u)(hn:x≠"__name__":=by decide)(hd:(x == ("__debug__":Str))=false:=by decide):PE X (.Name x pos) (tC v) :=
 fun _ _ _ H _ I h=>Zbu I hg hm hv ⟨v,H,I,r,h⟩ hn hd
variable {a b:Expr} {ta tb:TE} {pos:Pos}
def PC(X:Cx)(op:CmpOp)(a b:Expr)(t:TE):Prop :=
 ∀ (pins:List (Addr×Obj)) (s:Shared) (σ:St) (H:Hp) (Q:VK),Inv X pins σ H s→t σ H Q→
  wpAny (model X.prog X.w) X.A (eval a X.env) (fun v s₁=>wpAny (model X.prog X.w) X.A (eval b X.env) (fun u s₂=>wpAny (model X.prog X.w) X.A (compareOp op v u) (EP X pins σ Q) X.xe s₂) X.xe s₁) X.xe s
variable {tA tB':TT} {rest:List Expr}
def tAnd(t u:TT):TT:=fun σ H Q=>t σ H fun c H1=>if c=true then u σ H1 Q else Q false H1
def tOr(t u:TT):TT:=fun σ H Q=>t σ H fun c H1=>if c=true then Q true H1 else u σ H1 Q
def tNot(t:TT):TT:=fun σ H Q=>t σ H fun c H1=>Q (!c) H1
theorem Zan(ha:PT X a tA):PW X (.BoolOp .And [a] pos) tA:=by
 intro wh pins s σ H Q I h
 refine isTrue_and (thn (ha pins s σ H Q I h) fun c s1 e=>?_)
 cases c with
 | true=>exact isTrue_and_nil e
 | false=>exact e
theorem Ju(ha:PT X a tA):PW X (.BoolOp .Or [a] pos) tA:=by
 intro wh pins s σ H Q I h
 refine isTrue_or (thn (ha pins s σ H Q I h) fun c s1 e=>?_)
 cases c with
 | false=>exact isTrue_or_nil e
 | true=>exact e
theorem Zcv(ha:PT X a tA)(hb:PW X (.BoolOp .And (b::rest) pos) tB'):PW X (.BoolOp .And (a::b::rest) pos) (tAnd tA tB'):=by
 intro wh pins s σ H Q I h
 refine isTrue_and (thn (ha pins s σ H _ I h) fun c s1 zq=>?_)
 obtain⟨H1,I1,q1⟩:=zq
 cases c with
 | true=>exact hb wh pins s1 σ H1 Q I1 q1
 | false=>exact⟨H1,I1,q1⟩
theorem Zae(ha:PT X a tA)(hb:PW X (.BoolOp .Or (b::rest) pos) tB'):PW X (.BoolOp .Or (a::b::rest) pos) (tOr tA tB'):=by
 intro wh pins s σ H Q I h
 refine isTrue_or (thn (ha pins s σ H _ I h) fun c s1 zq=>?_)
 obtain⟨H1,I1,q1⟩:=zq
 cases c with
 | true=>exact⟨H1,I1,q1⟩
 | false=>exact hb wh pins s1 σ H1 Q I1 q1
theorem Yt(ha:PT X a tA):PT X (.UnaryOp .Not a pos) (tNot tA):=by
 intro pins s σ H Q I h
 exact isTrue_not (ha pins s σ H (fun c H1=>Q (!c) H1) I h)
def tAndV(ta tb:TE):TE:=fun σ H Q=>ta σ H fun x H1=>∃ c,x = .bl c∧if c=true then tb σ H1 Q else Q (.bl false) H1
def tOrV(ta tb:TE):TE:=fun σ H Q=>ta σ H fun x H1=>∃ c,x = .bl c∧if c=true then Q (.bl true) H1 else tb σ H1 Q
theorem Wl{op}{t:TE}(h:PE X a t):PE X (.BoolOp op [a] pos) t:=fun pins s σ H Q I hw=>BoolOp_one (h pins s σ H Q I hw)
theorem Yu(ha:PE X a ta)(hb:PE X (.BoolOp .And (b::rest) pos) tb):PE X (.BoolOp .And (a::b::rest) pos) (tAndV ta tb):=by
 intro pins s σ H Q I h
 refine BoolOp_and (thn (ha pins s σ H _ I h) fun v s1 zq=>?_)
 obtain⟨x,H1,I1,r1,q1⟩:=zq
 obtain⟨c,rfl,q1⟩:=q1
 cases r1
 refine wpAny_truthy_bool ?_
 cases c with
 | true=>exact hb pins s1 σ H1 Q I1 q1
 | false=>exact⟨.bl false,H1,I1,rfl,q1⟩
theorem Xaw(ha:PE X a ta)(hb:PE X (.BoolOp .Or (b::rest) pos) tb):PE X (.BoolOp .Or (a::b::rest) pos) (tOrV ta tb):=by
 intro pins s σ H Q I h
 refine BoolOp_or (thn (ha pins s σ H _ I h) fun v s1 zq=>?_)
 obtain⟨x,H1,I1,r1,q1⟩:=zq
 obtain⟨c,rfl,q1⟩:=q1
 cases r1
 refine wpAny_truthy_bool ?_
 cases c with
 | false=>exact hb pins s1 σ H1 Q I1 q1
 | true=>exact⟨.bl true,H1,I1,rfl,q1⟩
def tIf(t:TT)(ta tb:TE):TE:=fun σ H Q=>t σ H fun c H1=>if c=true then ta σ H1 Q else tb σ H1 Q
theorem Wm{c:Expr}(hc:PT X c tA)(ha:PE X a ta)(hb:PE X b tb):PE X (.IfExp c a b pos) (tIf tA ta tb):=by
 intro pins s σ H Q I h
 refine wpAny_IfExp (thn (hc pins s σ H _ I h) fun d s1 zq=>?_)
 obtain⟨H1,I1,q1⟩:=zq
 cases d with
 | true=>exact ha pins s1 σ H1 Q I1 q1
 | false=>exact hb pins s1 σ H1 Q I1 q1
end
end L2
namespace L2
open PySem PySem.Spec PyProof.Rows
def SqL(K:Ua)(H:Hp)(a:Addr)(xs:List V):Prop :=
 Rd H a (.lst xs)∨
  ∃ (o:Obj) (its:Array Value) (n:Nat),K.lookup a=some o∧o.cls = .type "list"∧o.dict=none∧o.data = .seq its n∧its.size≤sizeLine∧Vals xs its.toList
def SqT(K:Ua)(H:Hp)(a:Addr)(xs:List V):Prop :=
 Rd H a (.tup xs)∨
  ∃ (o:Obj) (its:Array Value) (n:Nat),K.lookup a=some o∧o.cls = .type "tuple"∧o.data = .seq its n∧its.size≤sizeLine∧Vals xs its.toList
noncomputable def absV:Value→Option V
 | .none=>some .non
 | .bool b=>some (.bl b)
 | .int i _=>some (.int i)
 | .str x _=>some (.str x)
 | .bytes b _=>some (.byt b)
 | .float b _=>some (.flt b)
 | .ref a=>some (.ref a)
 | .type n=>some (.ty n)
 | _=>none
theorem RelV.abs{x:V}{u:Value}(r:RelV x u):absV u=some x:=by
 cases x with
 | non=>cases r;rfl
 | bl _=>cases r;rfl
 | int _=>obtain⟨t,rfl⟩:=r;rfl
 | str _=>obtain⟨t,rfl⟩:=r;rfl
 | byt _=>obtain⟨t,rfl⟩:=r;rfl
 | flt _=>obtain⟨t,rfl⟩:=r;rfl
 | ref _=>cases r;rfl
 | ty _=>cases r;rfl
theorem RelV.inj{x y:V}{u:Value}(r:RelV x u)(q:RelV y u):x=y:=Ub (r.abs.symm.trans q.abs)
theorem Vals.inj:∀ {xs ys:List V} {us:List Value},Vals xs us→Vals ys us→xs=ys
 | _,_,_,.nil,.nil=>rfl
 | _,_,_,.cons r t,.cons r' t'=>by rw[r.inj r',Vals.inj t t']
section
variable {X:Cx} {pins:List (Addr×Obj)} {σ:St} {H:Hp} {s:Shared} {a:Addr} {xs ys:List V}
theorem SqL.of{K:Ua}(h:H a=some (.lst xs)):SqL K H a xs := .inl (.inl h)
theorem SqT.of{K:Ua}(h:H a=some (.tup xs)):SqT K H a xs := .inl (.inl h)
theorem Inv.list(I:Inv X pins σ H s)(h:SqL X.K H a xs):∃ its:List Value,Vals xs its∧PlainL s.heap a its.toArray∧xs.length≤sizeLine:=by
 rcases h with h | ⟨o,its,n,hk,hc,hd,hs,hz,r⟩
 ·obtain⟨z,its,n,r,e⟩:=h.ok I.hok
  exact⟨its,r,⟨_,n,e,rfl,rfl,rfl⟩,z⟩
 ·refine⟨its.toList,r,⟨o,n,I.kIn a o hk,hc,hd,by simpa using hs⟩,?_⟩
  have e:=r.length
  simp only[UM] at e
  omega
theorem Inv.tuple(I:Inv X pins σ H s)(h:SqT X.K H a xs):∃ its:List Value,Vals xs its∧IsTup s.heap a its.toArray∧xs.length≤sizeLine:=by
 rcases h with h | ⟨o,its,n,hk,hc,hs,hz,r⟩
 ·obtain⟨z,its,r,p⟩:=h.ok I.hok
  exact⟨its,r,p,z⟩
 ·refine⟨its.toList,r,⟨o,I.kIn a o hk,hc,n,by simpa using hs⟩,?_⟩
  have e:=r.length
  simp only[UM] at e
  omega
theorem Inv.list_inj(I:Inv X pins σ H s)(h:SqL X.K H a xs)(h':SqL X.K H a ys):xs=ys:=by
 obtain⟨its,r,⟨o,n,e,_,_,d⟩,_⟩:=I.list h
 obtain⟨its',r',⟨o',n',e',_,_,d'⟩,_⟩:=I.list h'
 rw[e] at e';cases e'
 rw[d] at d'
 injection d' with d1 _
 have:its=its':=by simpa using congrArg Array.toList d1
 subst this
 exact r.inj r'
end
noncomputable abbrev Cx.wish(X:Cx)(E:Value→Shared→Prop):Cx:={X with xe:=E}
noncomputable abbrev Cx.nox(X:Cx):Cx:=X.wish fun _ _=>False
theorem Cx.Ok.wish{X:Cx}(ok:X.Ok)(E:Value→Shared→Prop):(X.wish E).Ok :=
 ⟨ok.mod,ok.kind,ok.glob,ok.blt,ok.above,ok.inj,ok.has,ok.cab,ok.hd,ok.frames,ok.stk,ok.exf,ok.bs,ok.bsz,ok.noex,ok.exfs,ok.funs,ok.frf⟩
theorem Cx.Ok.unwish{X:Cx}{E:Value→Shared→Prop}(ok:(X.wish E).Ok):X.Ok :=
 ⟨ok.mod,ok.kind,ok.glob,ok.blt,ok.above,ok.inj,ok.has,ok.cab,ok.hd,ok.frames,ok.stk,ok.exf,ok.bs,ok.bsz,ok.noex,ok.exfs,ok.funs,ok.frf⟩
section
variable {X:Cx} {pins:List (Addr×Obj)} {σ:St} {H:Hp} {s:Shared} {E:Value→Shared→Prop}
theorem Inv.wish(I:Inv X pins σ H s)(E:Value→Shared→Prop):Inv (X.wish E) pins σ H s:=⟨I.ok.wish E,I.os,I.bare,I.base,I.loc,I.cell,I.free,I.freeC,I.pin,I.hok,I.len⟩
theorem Inv.unwish(I:Inv (X.wish E) pins σ H s):Inv X pins σ H s:=⟨I.ok.unwish,I.os,I.bare,I.base,I.loc,I.cell,I.free,I.freeC,I.pin,I.hok,I.len⟩
theorem SP.unwish{D:Ends}{f:Flow}{s':Shared}(h:SP (X.wish E) pins D f s'):SP X pins D f s':=by
 cases f with
 | next=>obtain⟨σ',H',I,q⟩:=h;exact⟨σ',H',I.unwish,q⟩
 | brk=>obtain⟨σ',H',I,q⟩:=h;exact⟨σ',H',I.unwish,q⟩
 | cont=>obtain⟨σ',H',I,q⟩:=h;exact⟨σ',H',I.unwish,q⟩
 | ret u=>obtain⟨v,σ',H',I,r,q⟩:=h;exact⟨v,σ',H',I.unwish,r,q⟩
theorem PSs.nox{st:List Stmt}{t:TS}(h:PSs X.nox st t):PSs X st t:=fun pins s σ H D I hw =>
 wpAny_mono (h pins s σ H D (I.wish _) hw) (fun _ _ q=>q.unwish) fun _ _ z=>False.elim z
end
section
variable {X:Cx} {st:Stmt} {rest:List Stmt} {t u:TS} {e:Expr} {te:TE} {pos:Pos}
def tNext:TS:=fun D σ H=>D.nx σ H
def tSeq(t u:TS):TS:=fun D σ H=>t {D with nx:=u D} σ H
theorem Zo:PSs X [] tNext:=fun _ _ σ H _ I h=>wpAny_execs_nil ⟨σ,H,I,h⟩
theorem Zc(h1:PS X st t)(h2:PSs X rest u):PSs X (st::rest) (tSeq t u):=by
 intro pins s σ H D I h
 refine wpAny_execs_cons (thn (h1 pins s σ H {D with nx:=u D} I h) fun f s1 q=>?_)
 cases f with
 | next =>
  obtain⟨σ',H',I',q⟩:=q
  exact h2 pins s1 σ' H' D I' q
 | ret v=>exact q
 | brk=>exact q
 | cont=>exact q
theorem Zf(h1:PS X st t):PSs X [st] t:=by
 intro pins s σ H D I h
 refine wpAny_execs_cons (thn (h1 pins s σ H D I h) fun f s1 q=>?_)
 cases f with
 | next=>exact wpAny_execs_nil q
 | ret v=>exact q
 | brk=>exact q
 | cont=>exact q
theorem Inv.quiet{pins:List (Addr×Obj)}{σ:St}{H:Hp}{s:Shared}(I:Inv X pins σ H s):interactive X.env=false:=by simp[interactive,I.ok.kind]
def tDrop(te:TE):TS:=fun D σ H=>te σ H fun _ H1=>D.nx σ H1
theorem Yj(he:PE X e te)(hs:swapsWith e none pos.line X.env=pure false:=by rfl):PS X (.Expr e pos) (tDrop te):=by
 intro pins s σ H D I h
 refine wpAny_Expr_any (thn (he pins s σ H _ I h) fun v s1 zq=>?_) I.quiet hs
 obtain⟨x,H1,I1,r1,q1⟩:=zq
 exact ⟨σ,H1,I1,q1⟩
def tRet(te:TE):TS:=fun D σ H=>te σ H D.rt
theorem Zj(he:PE X e te):PS X (.Return (some e) pos) (tRet te):=by
 intro pins s σ H D I h
 refine wpAny_Return_some (thn (he pins s σ H _ I h) fun v s1 zq=>?_)
 obtain⟨x,H1,I1,r1,q1⟩:=zq
 exact ⟨x,σ,H1,I1,r1,q1⟩
def tIfS(c:TT)(t u:TS):TS:=fun D σ H=>c σ H fun b H1=>if b=true then t D σ H1 else u D σ H1
theorem Zz{c:Expr}{a b:List Stmt}{tc:TT}(hc:PT X c tc)(ha:PSs X a t)(hb:PSs X b u):PS X (.If c a b pos) (tIfS tc t u):=by
 intro pins s σ H D I h
 refine wpAny_If (thn (hc pins s σ H _ I h) fun d s1 zq=>?_)
 obtain⟨H1,I1,q1⟩:=zq
 cases d with
 | true=>exact ha pins s1 σ H1 D I1 q1
 | false=>exact hb pins s1 σ H1 D I1 q1
def tNever:TS:=fun _ _ _=>False
theorem Yv:PS X st tNever:=fun _ _ _ _ _ _ h=>h.elim
end
noncomputable abbrev TG:=V→St→Hp→(St→Hp→Prop)→Prop
noncomputable abbrev TGs:=List V→St→Hp→(St→Hp→Prop)→Prop
def PG(X:Cx)(target:Expr)(t:TG):Prop :=
 ∀ (pins:List (Addr×Obj)) (s:Shared) (σ:St) (H:Hp) (v:V) (u:Value) (Q:St→Hp→Prop),Inv X pins σ H s→RelV v u→t v σ H Q→
  wpAny (model X.prog X.w) X.A (assign target X.env u) (fun _ s'=>∃ σ' H',Inv X pins σ' H' s'∧Q σ' H') X.xe s
def PGs(X:Cx)(ts:List Expr)(t:TGs):Prop :=
 ∀ (pins:List (Addr×Obj)) (s:Shared) (σ:St) (H:Hp) (vs:List V) (us:List Value) (Q:St→Hp→Prop),Inv X pins σ H s→Vals vs us→t vs σ H Q→
  wpAny (model X.prog X.w) X.A (assignInOrder ((assignEach ts X.env).map (·.2)) us) (fun _ s'=>∃ σ' H',Inv X pins σ' H' s'∧Q σ' H') X.xe s
section
variable {X:Cx} {pos:Pos}
def gName(i:Nat):TG:=fun v σ H Q=>Q (σ.set i (some v)) H
theorem Zy{i:Nat}{x:Str}(hN:X.N.Nodup)(hi:X.N[i]?=some x)(hx:Loc X.env.scope x)(hf:X.fn x=true∨X.env.scope.names.lookup x=some .local:=by first | exact .inl rfl | exact .inr rfl | assumption):PG X (.Name x pos) (gName i):=by
 intro pins s σ H v u Q I r h
 exact wpAny_assign_Name (Zpk I hN hi hx r (fun s' I'=>⟨_,H,I',h⟩) hf)
noncomputable def gNil:TGs:=fun vs σ H Q=>vs=[]∧Q σ H
noncomputable def gCons(t:TG)(u:TGs):TGs:=fun vs σ H Q=>∃ v r,vs=v::r∧t v σ H fun σ' H'=>u r σ' H' Q
theorem Qp:PGs X [] gNil:=by
 intro pins s σ H vs us Q I r h
 obtain⟨e,h⟩:=h
 subst e
 cases r
 exact assignInOrder_nil ⟨σ,H,I,h⟩
theorem Xz{e:Expr}{es:List Expr}{t:TG}{u:TGs}(h1:PG X e t)(h2:PGs X es u)
  (hs:(assignEach (e::es) X.env).map (·.2)=assign e X.env::(assignEach es X.env).map (·.2):=by rfl):PGs X (e::es) (gCons t u):=by
 intro pins s σ H vs us Q I r h
 obtain⟨v,vr,e1,h⟩:=h
 subst e1
 cases r with
 | cons r rr =>
  rw[hs]
  refine assignInOrder_cons (thn (h1 pins s σ H _ _ _ I r h) fun _ s1 zq=>?_)
  obtain⟨σ1,H1,I1,q1⟩:=zq
  exact h2 pins s1 σ1 H1 _ _ Q I1 rr q1
def gTup(K:Ua)(n:Nat)(t:TGs):TG:=fun v σ H Q=>∃ a xs,v = .ref a∧SqT K H a xs∧xs.length=n∧t xs σ H Q
theorem Zbt{es:List Expr}{k:Nat}{t:TGs}{n:Nat}(hc:X.calm=true)(h:PGs X es t)
  (hn:(assignEach es X.env).length=n:=by rfl) (hst:(assignEach es X.env).findIdx? (·.1)=none:=by rfl):PG X (.Tuple es k pos) (gTup X.K n t):=by
 intro pins s σ H v u Q I r hw
 obtain⟨a,xs,e1,hq,hl,hw⟩:=hw
 subst e1
 cases r
 obtain⟨its,rv,ht,hz⟩:=I.tuple hq
 refine assign_Tuple_tuple (I.ok.hd hc) ht (by simp[hn,← hl,rv.length]) hst fun h' hx=>?_
 have I1:Inv X pins σ H {s with heap:=h'}:=I.kept (t':=s.toks) fun b o e=>hx b o (UR (UL e)) e
 exact h pins _ σ H xs _ Q I1 (by simpa using rv) hw
def tAsg(te:TE)(g:TG):TS:=fun D σ H=>te σ H fun x H1=>g x σ H1 D.nx
theorem Xbb{tg e:Expr}{te:TE}{g:TG}(he:PE X e te)(hg:PG X tg g)(hs:swapsWithSole [tg] e pos.line X.env=pure false:=by rfl)(hw:swappedStores [tg] e X.env=pure none:=by rfl)
  (h1:(assignEach [tg] X.env).map (·.2)=[assign tg X.env]:=by rfl):PS X (.Assign [tg] e pos) (tAsg te g):=by
 intro pins s σ H D I h
 refine wpAny_Assign_stores (thn (he pins s σ H _ I h) fun v s1 zq=>?_) hs hw
 obtain⟨x,H1,I1,r1,q1⟩:=zq
 rw[h1]
 exact thn (hg pins s1 σ H1 x v _ I1 r1 q1) fun _ s2 q=>q
theorem Zp{i:Nat}{x:Str}{e:Expr}{te:TE}{pos':Pos}(hN:X.N.Nodup)(hi:X.N[i]?=some x)(hx:Loc X.env.scope x)(he:PE X e te)(hs:swapsWith e (some (.Name x pos')) pos.line X.env=pure false:=by rfl)(hf:X.fn x=true∨X.env.scope.names.lookup x=some .local:=by first | exact .inl rfl | exact .inr rfl | assumption) :
  PS X (.Assign [.Name x pos'] e pos) (tAsg te (gName i)):=by
 intro pins s σ H D I h
 refine wpAny_Assign_Name (thn (he pins s σ H _ I h) fun v s1 zq=>?_) hs
 obtain⟨y,H1,I1,r1,q1⟩:=zq
 exact Zpk I1 hN hi hx r1 (fun s2 I2=>⟨_,H1,I2,q1⟩) hf
end
section
variable {X:Cx} {pos:Pos}
def tWhile(c:TT)(tb:TS):TS:=fun D σ H=>∃ W:Nat→St→Hp→Prop,(∃ m,W m σ H)∧∀ m σ H,W m σ H→
 c σ H fun b H1=>if b=true then ∃ N:St→Hp→Prop,(∀ σ' H',N σ' H'→∃ m',m'<m∧W m' σ' H')∧tb {D with nx:=N,ct:=N,bk:=D.nx} σ H1 else D.nx σ H1
theorem Qu{c:Expr}{body:List Stmt}{tc:TT}{tb:TS}(hp:PassesOwn (model X.prog X.w) X.A X.env X.xe)(hc:PT X c tc)(hb:PSs X body tb):PS X (.While c body [] pos) (tWhile tc tb):=by
 intro pins s σ H D I h
 obtain⟨W,⟨m0,w0⟩,turn⟩:=h
 refine wpAny_While (codeAny_whileLoop (fun n s'=>∃ σ' H',Inv X pins σ' H' s'∧W n σ' H') ?_ m0 ⟨σ,H,I,w0⟩)
 rintro n s1 ⟨σ1,H1,I1,w1⟩
 refine wpAny_passesOwn hp (thn (hc pins s1 σ1 H1 _ I1 (turn n σ1 H1 w1)) fun b s2 zq=>?_)
 obtain⟨H2,I2,q2⟩:=zq
 cases b with
 | true =>
  obtain⟨N,hN,q2⟩:=q2
  rw[if_pos rfl]
  refine wpAny_passesOwn hp (thn (hb pins s2 σ1 H2 _ I2 q2) fun f s3 q3=>?_)
  cases f with
  | next =>
   obtain⟨σ3,H3,I3,n3⟩:=q3
   obtain⟨m',hm,w3⟩:=hN σ3 H3 n3
   exact⟨m',hm,σ3,H3,I3,w3⟩
  | cont =>
   obtain⟨σ3,H3,I3,n3⟩:=q3
   obtain⟨m',hm,w3⟩:=hN σ3 H3 n3
   exact⟨m',hm,σ3,H3,I3,w3⟩
  | brk=>exact q3
  | ret v=>exact q3
 | false =>
  rw[if_neg UI]
  exact wpAny_execs_nil ⟨σ1,H2,I2,q2⟩
end
structure It where
 go:Nat→Hp→Prop
 yld:Nat→Hp→V→Hp→Prop
 stop:Nat→Hp→Prop
def FpOk(X:Cx)(pins:List (Addr×Obj))(H:Hp)(b:Addr):Prop :=
 H b=none∧b≠X.env.locals∧b∉X.fs∧(b∈X.ex∨X.s₀.heap.objs.size≤b)∧(∀ x c,X.env.cells.lookup x=some c→c≠b)∧∀ p∈X.pn++pins,p.1≠b
theorem Inv.fpOk{X:Cx}{pins:List (Addr×Obj)}{σ:St}{H H':Hp}{s:Shared}{b:Addr}(I:Inv X pins σ H s)(hb:s.heap.objs.size≤b)(hn:H' b=none):FpOk X pins H' b:=by
 refine⟨hn,Nat.ne_of_gt (UA I.lt hb),I.nofs hb,.inr (UC I.sz hb),fun x c e z=>?_,fun p hp z=>?_⟩
 ·obtain⟨v,q⟩:=I.cell x c e
  exact absurd (UA q.lt (by rw[z];exact hb)) (Nat.lt_irrefl _)
 ·exact absurd (UA (UL (I.pin p hp).1) (by rw[z];exact hb)) (Nat.lt_irrefl _)
structure Turn(P:Program)(w:World)(K:Ua)(tg:Expr)(J:It)(fp:List Addr)(it:Addr)(tn:Nat→Heap→Prop):Prop where
 mem:it∈fp
 obj:∀ i h,tn i h→∀ b∈fp,∃ o,h.get? b=some o∧∀ v,o.data≠.cell v
 keep:∀ i h h',tn i h→(∀ b∈fp,∀ o,h.get? b=some o→h'.get? b=some o)→tn i h'
 item:∀ (X:Cx),X.prog=P→X.w=w→X.K=K→X.calm=true→∀ (i:Nat) (pins:List (Addr×Obj)) (s:Shared) (σ:St) (H:Hp) (E:Value→Shared→Prop),Inv X pins σ H s→(∀ b∈fp,FpOk X pins H b)→tn i s.heap→J.go i H→
  wpAny (model P w) X.A (pyNext (.ref it)) (fun r s1=>∃ u,r=some u∧
   wpAny (model P w) X.A (letOwnedTupleGo tg (.ref it) u) (fun _ s2=>∃ x H',Inv X pins σ H' s2∧RelV x u∧J.yld i H x H'∧tn (i+1) s2.heap∧∀ b∈fp,H' b=none) E s1) E s
 done:∀ (X:Cx),X.prog=P→X.w=w→X.K=K→X.calm=true→∀ (i:Nat) (pins:List (Addr×Obj)) (s:Shared) (σ:St) (H:Hp) (E:Value→Shared→Prop),Inv X pins σ H s→(∀ b∈fp,FpOk X pins H b)→tn i s.heap→J.stop i H→
  wpAny (model P w) X.A (pyNext (.ref it)) (fun r s1=>r=none∧Inv X pins σ H s1) E s
 self:∀ (A:Around) (i:Nat) (s:Shared) (Q:Value→Shared→Prop) (E:Value→Shared→Prop),tn i s.heap→Q (.ref it) s→wpAny (model P w) A (pyIter (.ref it)) Q E s
noncomputable abbrev TI:=St→Hp→(It→Hp→Prop)→Prop
def PIE(X:Cx)(pins:List (Addr×Obj))(σ:St)(tg:Expr)(R:It→Hp→Prop)(itv:Value)(s2:Shared):Prop :=
 ∃ (it:Addr) (fp:List Addr) (tn:Nat→Heap→Prop) (J:It) (H':Hp),itv = .ref it∧Inv X pins σ H' s2∧Turn X.prog X.w X.K tg J fp it tn∧tn 0 s2.heap∧(∀ b∈fp,FpOk X pins H' b)∧R J H'
def PI(X:Cx)(tg iter:Expr)(wi:TI):Prop :=
 ∀ (pins:List (Addr×Obj)) (s:Shared) (σ:St) (H:Hp) (R:It→Hp→Prop),Inv X pins σ H s→wi σ H R→
  wpAny (model X.prog X.w) X.A (eval iter X.env) (fun v s1=>wpAny (model X.prog X.w) X.A (pyIter v) (PIE X pins σ tg R) X.xe s1) X.xe s
theorem Zqv{M:Model}{A:Around}{E:Value→Shared→Prop}{s:Shared}{tg:Expr}{it:Addr}{u:Value}{o:Obj}{n:String}{vs:Array Value}{Q:Unit→Shared→Prop}(ho:s.heap.get? it=some o)(hc:o.cls = .type n)(hd:o.data = .fields vs)
    (hn:["enumerate","zip","dict_itemiterator","dict_reverseitemiterator","odict_iterator","itertools.zip_longest","itertools.pairwise"].contains n=false) (hQ:Q () s):wpAny M A (letOwnedTupleGo tg (.ref it) u) Q E s:=by
  unfold letOwnedTupleGo
  cases tg<;>first
    | exact wpAny_pure hQ
    | (cases u<;>first
        | exact wpAny_pure hQ
        | (refine wpAny_bind (wpAny_load ho ?_)
           rw[hc,hd]
           show wpAny M A (if (["enumerate","zip","dict_itemiterator","dict_reverseitemiterator","odict_iterator","itertools.zip_longest","itertools.pairwise"].contains n&&vs[0]? == some (rawInt _))=true then _ else _) Q E s
           rw[if_neg (by intro h;rw[hn,Bool.false_and] at h;cases h)]
           exact wpAny_pure hQ))
noncomputable def Itl(K:Ua)(a:Addr):It :=
 ⟨fun i H=>∃ xs x,SqL K H a xs∧xs[i]?=some x,fun i H x H'=>H'=H∧∀ xs,SqL K H a xs→xs[i]?=some x,fun i H=>∃ xs,SqL K H a xs∧xs.length≤i⟩
noncomputable def Itr(lo:Int)(n:Nat):It:=⟨fun i _=>i<n,fun i H x H'=>H'=H∧x = .int (lo+i),fun i _=>n≤i⟩
theorem Ztt{P:Program}{w:World}{K:Ua}{tg:Expr}(a it:Addr):Turn P w K tg (Itl K a) [it] it (fun i h=>h.IsListIter it a i) where
 mem:=by simp
 obj:=fun i h st b hb=>by
  have e:b=it:=by simpa using hb
  subst e
  obtain⟨o,e,c,d⟩:=st
  exact⟨o,e,fun v z=>by rw[d] at z;cases z⟩
 keep:=fun i h h' st k=>st.at fun o e=>k it (by simp) o e
 item:=by
  intro X hP hw hK hc i pins s σ H E I hf st hg
  subst hP hw hK
  obtain⟨xs,x,hq,hx⟩:=hg
  obtain⟨its,rv,p,hz⟩:=I.list hq
  obtain⟨u,hu,ru⟩:=rv.get hx
  obtain⟨f0,f1,f2,f3,f4,f5⟩:=hf it (by simp)
  refine wpAny_pyNext_list_item st p.isList (x:=u) (by simpa using hu) fun h' st' sb=>?_
  have I1:Inv X pins σ H {s with heap:=h'}:=I.turned (t':=s.toks) (fun b o hb e=>(sb.2 b hb).trans e) f0 f1 f3 f4 f5
  obtain⟨o,e,c,d⟩:=id st'
  exact⟨u,rfl,Zqv (s:={s with heap:=h'}) e c d (by decide) ⟨x,H,I1,ru,⟨rfl,fun ys hy=>by rw[I.list_inj hy hq];exact hx⟩,st',fun b hb=>(hf b hb).1⟩⟩
 done:=by
  intro X hP hw hK hc i pins s σ H E I hf st hg
  subst hP hw hK
  obtain⟨xs,hq,hx⟩:=hg
  obtain⟨its,rv,p,hz⟩:=I.list hq
  obtain⟨f0,f1,f2,f3,f4,f5⟩:=hf it (by simp)
  have hl:=rv.length
  exact wpAny_pyNext_list_end (I.ok.hd hc) st p.isList (by simp;omega) fun h' eb=>⟨rfl,I.turned (t':=s.toks) (fun b o hb e=>eb b o hb e) f0 f1 f3 f4 f5⟩
 self:=fun _ _ _ _ _ st h=>wpAny_pyIter_listiter st h
theorem Zrl{P:Program}{w:World}{K:Ua}{tg:Expr}(it:Addr)(lo:Int)(n:Nat):Turn P w K tg (Itr lo n) [it] it (fun i h=>IsRangeIter h it (lo+(i:Nat)*1) ((n:Int) - (i:Nat)) 1) where
 mem:=by simp
 obj:=fun i h st b hb=>by
  have e:b=it:=by simpa using hb
  subst e
  exact⟨_,st,fun v z=>by
   have z':Data.fields _=Data.cell v:=z
   cases z'⟩
 keep:=fun i h h' st k=>k it (by simp) _ st
 item:=by
  intro X hP hw hK hc i pins s σ H E I hf st hg
  subst hP hw hK
  obtain⟨f0,f1,f2,f3,f4,f5⟩:=hf it (by simp)
  have W:=Walks.range (prog:=X.prog) (w:=X.w) (I.ok.hd hc) it lo 1 n
  refine W.item i s _ _ hg st fun v h' tk hv st' kk=>?_
  obtain⟨t,rfl⟩:=hv
  have I1:Inv X pins σ H {s with heap:=h',toks:=tk}:=I.turned (fun b o hb e=>kk b o (by simpa using hb) e) f0 f1 f3 f4 f5
  refine⟨_,rfl,Zqv (s:={s with heap:=h',toks:=tk}) (n:="range_iterator") st' rfl rfl (by decide) ⟨.int (lo+i),H,I1,⟨t,?_⟩,⟨rfl,rfl⟩,st',fun b hb=>(hf b hb).1⟩⟩
  rw[Int.mul_one]
 done:=by
  intro X hP hw hK hc i pins s σ H E I hf st hg
  subst hP hw hK
  obtain⟨f0,f1,f2,f3,f4,f5⟩:=hf it (by simp)
  exact wpAny_pyNext_range_end (I.ok.hd hc) st (by have:n≤i:=hg;omega) fun h' eb=>⟨rfl,I.turned (t':=s.toks) (fun b o hb e=>eb b o hb e) f0 f1 f3 f4 f5⟩
 self:=fun _ _ _ _ _ st h=>wpAny_pyIter_rangeiter st h
end L2
namespace L2
open PySem PySem.Spec PyProof.Rows
section
variable {X:Cx} {tg:Expr}
def iList(K:Ua)(tl:TE):TI:=fun σ H R=>tl σ H fun x H1=>∃ a,x = .ref a∧(∃ xs,SqL K H1 a xs)∧R (Itl K a) H1
theorem Zzf{l:Expr}{tl:TE}(hl:PE X l tl):PI X tg l (iList X.K tl):=by
 intro pins s σ H R I h
 refine thn (hl pins s σ H _ I h) fun v s1 zq=>?_
 obtain⟨x,H1,I1,r1,q1⟩:=zq
 obtain⟨a,e,⟨xs,hq⟩,q⟩:=q1
 subst e
 cases r1
 obtain⟨its,rv,p,hz⟩:=I1.list hq
 refine wpAny_pyIter_list p.isList ?_
 refine⟨s1.heap.objs.size,[s1.heap.objs.size],_,_,H1,rfl,I1.kept (t':=s1.toks) fun b o e=>Us _ e,Ztt a _,⟨_,UG _ rfl,rfl,rfl⟩,fun b hb=>?_,q⟩
 have e:b=s1.heap.objs.size:=by simpa using hb
 subst e
 exact I1.fpOk (Up _) (I1.hok.fresh (Up _))
theorem Zwq{pins:List (Addr×Obj)}{σ:St}{H:Hp}{s:Shared}{R:It→Hp→Prop}{E:Value→Shared→Prop}{lo hi:Int}{t u v:Tok}{tk:Nat}(I:Inv X pins σ H s)(h1 : -(2 ^ 62)≤lo)(h2:lo<2 ^ 62)(h3 : -(2 ^ 62)≤hi)(h4:hi<2 ^ 62)
  (q:R (Itr lo (hi - lo).toNat) H):wpAny (model X.prog X.w) X.A (pyIter (.ref s.heap.objs.size)) (PIE X pins σ tg R) E {s with heap:=s.heap.push {cls := .type "range",data := .fields #[.int lo t,.int hi u,.int 1 v]},toks:=tk}:=by
 refine wpAny_pyIter_range (IsRange.new ..) (small_one h1 h2 h3 h4) ?_
 have I1:Inv X pins σ H {s with heap:=s.heap.push {cls := .type "range",data := .fields #[.int lo t,.int hi u,.int 1 v]},toks:=tk}:=I.kept fun b o e=>Us _ e
 refine⟨(s.heap.push {cls := .type "range",data := .fields #[.int lo t,.int hi u,.int 1 v]}).objs.size,[(s.heap.push {cls := .type "range",data := .fields #[.int lo t,.int hi u,.int 1 v]}).objs.size],_,_,H,rfl,
  I1.kept (t':=tk) fun b o e=>Us _ e,Zrl _ lo (hi - lo).toNat,?_,fun b hb=>?_,q⟩
 ·have e1:lo+((0:Nat):Int)*1=lo:=by simp
  have e2:(((hi - lo).toNat:Nat):Int) - ((0:Nat):Int)=Builtin.Range.rangeSize lo hi 1:=by rw[rangeSize_one];split<;>omega
  show IsRangeIter _ _ (lo+((0:Nat):Int)*1) ((((hi - lo).toNat:Nat):Int) - ((0:Nat):Int)) 1
  rw[e1,e2]
  exact UG _ rfl
 ·have e:b=(s.heap.push {cls := .type "range",data := .fields #[.int lo t,.int hi u,.int 1 v]}).objs.size:=by simpa using hb
  subst e
  exact I1.fpOk (Up _) (I1.hok.fresh (Up _))
def iRng1(ta:TA):TI:=fun σ H R=>ta σ H fun vs H1=>∃ j:Int,vs=[.int j]∧-(2 ^ 62)≤j∧j<2 ^ 62∧R (Itr 0 j.toNat) H1
theorem Yk{a:Expr}{ta:TA}{p pos:Pos}(hg:Gl X "range")(hm:X.mg "range"=none)(ha:PA X [a] ta)(hs:starEach [a] X.env=[(false,eval a X.env)]:=by rfl):PI X tg (.Call (.Name "range" p) [a] [] pos) (iRng1 ta):=by
 intro pins s σ H R I h
 refine Call_ (Zbu I hg hm boot_range (PyProof.Rows.callWith_type1 (thn (ha pos pins s σ H _ I h) fun us s1 zq=>?_) hs rfl))
 obtain⟨vs,H1,I1,r1,q1⟩:=zq
 obtain⟨j,e,q1,q2,q⟩:=q1
 subst e
 cases r1 with
 | cons r rr =>
  cases rr
  obtain⟨t,rfl⟩:=r
  exact call_range_1 (Zwq I1 (by omega) (by omega) q1 q2 (by simpa using q))
def tFor(wi:TI)(g:TG)(tb:TS):TS:=fun D σ H=>wi σ H fun J H1=>∃ W:Nat→Nat→St→Hp→Prop,(∃ m,W 0 m σ H1)∧∀ i m σ H,W i m σ H→
 (J.stop i H∧D.nx σ H)∨(J.go i H∧∃ N:St→Hp→Prop,(∀ σ' H',N σ' H'→∃ m',m'<m∧W (i+1) m' σ' H')∧∀ x H',J.yld i H x H'→g x σ H' fun σ2 H2=>tb {D with nx:=N,ct:=N,bk:=D.nx} σ2 H2)
noncomputable def pinsAt(fp:List Addr)(h:Heap):List (Addr×Obj):=fp.filterMap fun b=>(h.get? b).map fun o=>(b,o)
theorem Zcz{fp:List Addr}{h:Heap}{b:Addr}{o:Obj}(hb:b∈fp)(e:h.get? b=some o):(b,o)∈pinsAt fp h:=List.mem_filterMap.mpr ⟨b,hb,by rw[e];rfl⟩
theorem Zuo{fp:List Addr}{h:Heap}{p:Addr×Obj}(hp:p∈pinsAt fp h):p.1∈fp∧h.get? p.1=some p.2:=by
 obtain⟨b,hb,e⟩:=List.mem_filterMap.mp hp
 cases q:h.get? b with
 | none=>rw[q] at e;cases e
 | some o =>
  rw[q] at e
  have e':(b,o)=p:=Ub e
  subst e'
  exact⟨hb,q⟩
theorem Inv.pinned{pins:List (Addr×Obj)}{σ:St}{H:Hp}{s:Shared}{fp:List Addr}(I:Inv X pins σ H s)(hf:∀ b∈fp,FpOk X pins H b)(ho:∀ b∈fp,∃ o,s.heap.get? b=some o∧∀ v,o.data≠.cell v):Inv X (pins++pinsAt fp s.heap) σ H s :=
 I.pins_of fun p hp=>(List.mem_append.mp hp).elim (fun z=>I.pin p (Ue _ z)) fun z=>by
  obtain⟨hb,e⟩:=Zuo z
  obtain⟨f0,f1,f2,_⟩:=hf p.1 hb
  obtain⟨o,e',d⟩:=ho p.1 hb
  rw[e] at e';cases e'
  exact⟨e,f0,f1,f2,d⟩
theorem Inv.unpinned{pins pl:List (Addr×Obj)}{σ:St}{H:Hp}{s:Shared}(I:Inv X (pins++pl) σ H s):Inv X pins σ H s:=I.pins_of fun p hp=>I.pin p (Ue _ (List.mem_append_left _ hp))
theorem Jg{iter:Expr}{body:List Stmt}{wi:TI}{g:TG}{tb:TS}{pos:Pos}(hp:PassesOwn (model X.prog X.w) X.A X.env X.xe)(hc:X.calm=true)(hi:PI X tg iter wi)(hg:PG X tg g)(hb:PSs X body tb)
  (hs:∀ x,foldedSetIterable iter X.env x=pure x:=by intro _;rfl):PS X (.For tg iter body [] pos) (tFor wi g tb):=by
 intro pins s σ H D I h
 refine wpAny_For (thn (hi pins s σ H _ I h) fun v s1 h1=>thn h1 fun itv s2 h2=>?_) hs
 obtain⟨it,fp,tn,J,H2,e,I2,T,st2,f2,W,⟨m0,w0⟩,turn⟩:=h2
 subst e
 have stat:∀ {H':Hp},(∀ b∈fp,H' b=none)→∀ b∈fp,FpOk X pins H' b:=fun hn b hb=>⟨hn b hb,(f2 b hb).2⟩
 refine codeAny_forLoop_any (fun n s'=>∃ i σ' H',Inv X pins σ' H' s'∧tn i s'.heap∧(∀ b∈fp,H' b=none)∧W i n σ' H') ?_ m0 ⟨0,σ,H2,I2,st2,fun b hb=>(f2 b hb).1,w0⟩
 rintro n s3 ⟨i,σ3,H3,I3,st3,fr3,w3⟩
 rcases turn i n σ3 H3 w3 with⟨stop,qn⟩ | ⟨go,N,hN,step⟩
 ·refine wpAny_passesOwn hp (thn (T.done X rfl rfl rfl hc i pins s3 σ3 H3 X.xe I3 (stat fr3) st3 stop) fun r s4 zq=>?_)
  obtain⟨hr,I4⟩:=zq
  subst hr
  exact wpAny_execs_nil ⟨σ3,H3,I4,qn⟩
 ·refine wpAny_passesOwn hp (thn (T.item X rfl rfl rfl hc i pins s3 σ3 H3 X.xe I3 (stat fr3) st3 go) fun r s4 zq=>?_)
  obtain⟨u,hr,h4⟩:=zq
  subst hr
  refine wpAny_passesOwn hp (thn h4 fun _ s5 zq=>?_)
  obtain⟨x,H5,I5,r5,y5,st5,fr5⟩:=zq
  have I5':=I5.pinned (stat fr5) (T.obj _ _ st5)
  refine wpAny_passesOwn hp (thn (hg _ s5 σ3 H5 x u _ I5' r5 (step x H5 y5)) fun _ s6 zq=>?_)
  obtain⟨σ6,H6,I6,q6⟩:=zq
  refine wpAny_passesOwn hp (thn (hb _ s6 σ6 H6 _ I6 q6) fun f s7 q7=>?_)
  have again:∀ {σ7:St} {H7:Hp},Inv X (pins++pinsAt fp s5.heap) σ7 H7 s7→N σ7 H7→∃ m,m<n∧∃ i σ' H',Inv X pins σ' H' s7∧tn i s7.heap∧(∀ b∈fp,H' b=none)∧W i m σ' H':=fun {σ7 H7} I7 n7=>by
   obtain⟨m',hm,w7⟩:=hN σ7 H7 n7
   refine⟨m',hm,i+1,σ7,H7,I7.unpinned,T.keep _ _ _ st5 fun b hb o e=>(I7.pin (b,o) (Ue _ (Ue _ (Zcz hb e)))).1,fun b hb=>?_,w7⟩
   obtain⟨o,e,d⟩:=T.obj _ _ st5 b hb
   exact(I7.pin (b,o) (Ue _ (Ue _ (Zcz hb e)))).2.1
  cases f with
  | next=>obtain⟨σ7,H7,I7,n7⟩:=q7;exact again I7 n7
  | cont=>obtain⟨σ7,H7,I7,n7⟩:=q7;exact again I7 n7
  | brk=>obtain⟨σ7,H7,I7,q7⟩:=q7;exact⟨σ7,H7,I7.unpinned,q7⟩
  | ret v=>obtain⟨x7,σ7,H7,I7,r7,q7⟩:=q7;exact⟨x7,σ7,H7,I7.unpinned,r7,q7⟩
end
theorem Zqx{K:Ua}{a:Addr}{xs:List V}{g:TG}{tb:TS}{D:Ends}{σ:St}{H:Hp}(Pv:Nat→St→Hp→Prop)(h0:Pv 0 σ H)(hl:∀ i σ H,i≤xs.length→Pv i σ H→SqL K H a xs)
  (hs:∀ i x σ H,xs[i]?=some x→Pv i σ H→g x σ H fun σ2 H2=>tb {D with nx:=Pv (i+1),ct:=Pv (i+1),bk:=D.nx} σ2 H2) (hd:∀ σ H,Pv xs.length σ H→D.nx σ H) :
  ∃ W:Nat→Nat→St→Hp→Prop,(∃ m,W 0 m σ H)∧∀ i m σ H,W i m σ H→
   ((Itl K a).stop i H∧D.nx σ H)∨((Itl K a).go i H∧∃ N:St→Hp→Prop,(∀ σ' H',N σ' H'→∃ m',m'<m∧W (i+1) m' σ' H')∧∀ x H',(Itl K a).yld i H x H'→g x σ H' fun σ2 H2=>tb {D with nx:=N,ct:=N,bk:=D.nx} σ2 H2):=by
 refine⟨fun i m σ H=>m=xs.length - i∧i≤xs.length∧Pv i σ H,⟨xs.length,by simp,UF _,h0⟩,?_⟩
 rintro i m σ H ⟨rfl,hi,p⟩
 have q:=hl i σ H hi p
 by_cases hlt:i<xs.length
 ·refine .inr ⟨⟨xs,xs[i],q,by simp[hlt]⟩,Pv (i+1),fun σ' H' p'=>⟨xs.length - (i+1),by omega,rfl,hlt,p'⟩,fun x H' y=>?_⟩
  obtain⟨e,y⟩:=y
  subst e
  exact hs i x σ _ (y xs q) p
 ·have e:i=xs.length:=by omega
  subst e
  exact .inl ⟨⟨xs,q,Up _⟩,hd σ H p⟩
theorem Wd{lo:Int}{n:Nat}{g:TG}{tb:TS}{D:Ends}{σ:St}{H:Hp}(Pv:Nat→St→Hp→Prop)(h0:Pv 0 σ H)
  (hs:∀ i σ H,i<n→Pv i σ H→g (.int (lo+i)) σ H fun σ2 H2=>tb {D with nx:=Pv (i+1),ct:=Pv (i+1),bk:=D.nx} σ2 H2) (hd:∀ σ H,Pv n σ H→D.nx σ H) :
  ∃ W:Nat→Nat→St→Hp→Prop,(∃ m,W 0 m σ H)∧∀ i m σ H,W i m σ H→
   ((Itr lo n).stop i H∧D.nx σ H)∨((Itr lo n).go i H∧∃ N:St→Hp→Prop,(∀ σ' H',N σ' H'→∃ m',m'<m∧W (i+1) m' σ' H')∧∀ x H',(Itr lo n).yld i H x H'→g x σ H' fun σ2 H2=>tb {D with nx:=N,ct:=N,bk:=D.nx} σ2 H2):=by
 refine⟨fun i m σ H=>m=n - i∧i≤n∧Pv i σ H,⟨n,by simp,UF _,h0⟩,?_⟩
 rintro i m σ H ⟨rfl,hi,p⟩
 by_cases hlt:i<n
 ·refine .inr ⟨hlt,Pv (i+1),fun σ' H' p'=>⟨n - (i+1),by omega,rfl,hlt,p'⟩,fun x H' y=>?_⟩
  obtain⟨e,y⟩:=y
  subst e y
  exact hs i σ _ hlt p
 ·have e:i=n:=by omega
  subst e
  exact .inl ⟨Up _,hd σ H p⟩
end L2
namespace L2
open PySem PySem.Spec PyProof.Rows
noncomputable abbrev R2:=V→V→Hp→VK→Prop
def OpR(X:Cx)(f:Value→Value→Sem Value)(r:R2):Prop :=
 ∀ (pins:List (Addr×Obj)) (s:Shared) (σ:St) (H:Hp) (x y:V) (v u:Value) (Q:VK),Inv X pins σ H s→RelV x v→RelV y u→r x y H Q→
  wpAny (model X.prog X.w) X.A (f v u) (EP X pins σ Q) X.xe s
def UnR(X:Cx)(f:Value→Sem Value)(r:V→Hp→VK→Prop):Prop :=
 ∀ (pins:List (Addr×Obj)) (s:Shared) (σ:St) (H:Hp) (x:V) (v:Value) (Q:VK),Inv X pins σ H s→RelV x v→r x H Q→
  wpAny (model X.prog X.w) X.A (f v) (EP X pins σ Q) X.xe s
def CallR(X:Cx)(f:Value)(r:List V→Hp→VK→Prop):Prop :=
 ∀ (pins:List (Addr×Obj)) (s:Shared) (σ:St) (H:Hp) (xs:List V) (us:List Value) (Q:VK),Inv X pins σ H s→Vals xs us→r xs H Q→
  wpAny (model X.prog X.w) X.A (call f us) (EP X pins σ Q) X.xe s
def TruR(X:Cx)(r:V→Hp→(Bool→Hp→Prop)→Prop):Prop :=
 ∀ (pins:List (Addr×Obj)) (s:Shared) (σ:St) (H:Hp) (x:V) (v:Value) (Q:Bool→Hp→Prop),Inv X pins σ H s→RelV x v→r x H Q→
  wpAny (model X.prog X.w) X.A (truthy v) (TP X pins σ Q) X.xe s
def tOp(r:R2)(ta tb:TE):TE:=fun σ H Q=>ta σ H fun x H1=>tb σ H1 fun y H2=>r x y H2 Q
def tUn(r:V→Hp→VK→Prop)(ta:TE):TE:=fun σ H Q=>ta σ H fun x H1=>r x H1 Q
def rI(C:Int→Int→Prop)(g:Int→Int→V):R2:=fun x y H Q=>∃ i j,x = .int i∧y = .int j∧C i j∧Q (g i j) H
def rI0(g:Int→Int→V):R2:=fun x y H Q=>∃ i j,x = .int i∧y = .int j∧Q (g i j) H
noncomputable def rU(g:Int→V):V→Hp→VK→Prop:=fun x H Q=>∃ i,x = .int i∧Q (g i) H
section
variable {X:Cx} {a b c:Expr} {ta tb tc:TE} {pos:Pos}
theorem binT(ha:PE X a ta)(hb:PE X b tb){pins:List (Addr×Obj)}{s:Shared}{σ:St}{H:Hp}{R:V→V→Hp→Prop}(I:Inv X pins σ H s)
  (h:ta σ H fun x H1=>tb σ H1 fun y H2=>R x y H2) {Q:Value→Shared→Prop} {f:Value→Value→Sem Value}
  (hf:∀ v u s2 x y H2,Inv X pins σ H2 s2→RelV x v→RelV y u→R x y H2→wpAny (model X.prog X.w) X.A (f v u) Q X.xe s2) :
  wpAny (model X.prog X.w) X.A (eval a X.env) (fun v s₁=>wpAny (model X.prog X.w) X.A (eval b X.env) (fun u s₂=>wpAny (model X.prog X.w) X.A (f v u) Q X.xe s₂) X.xe s₁) X.xe s:=by
 refine thn (ha pins s σ H _ I h) fun v s1 zq=>?_
 obtain⟨x,H1,I1,r1,q1⟩:=zq
 refine thn (hb pins s1 σ H1 _ I1 q1) fun u s2 zq=>?_
 obtain⟨y,H2,I2,r2,q2⟩:=zq
 exact hf v u s2 x y H2 I2 r1 r2 q2
theorem Zh{op:Operator}{r:R2}(ho:OpR X (binaryOp op) r)(ha:PE X a ta)(hb:PE X b tb):PE X (.BinOp a op b pos) (tOp r ta tb):=by
 intro pins s σ H Q I h
 exact wpAny_BinOp (binT ha hb I h fun v u s2 x y H2 I2 rx ry q=>ho pins s2 σ H2 x y v u Q I2 rx ry q)
theorem Zbk{op:UnaryOp}{r:V→Hp→VK→Prop}(ho:UnR X (unaryOp op) r)(ha:PE X a ta):PE X (.UnaryOp op a pos) (tUn r ta):=by
 intro pins s σ H Q I h
 refine UnaryOp_ (thn (ha pins s σ H _ I h) fun v s1 zq=>?_)
 obtain⟨x,H1,I1,r1,q1⟩:=zq
 exact ho pins s1 σ H1 x v Q I1 r1 q1
theorem opI{f:Value→Value→Sem Value}{C:Int→Int→Prop}{g:Int→Int→Int}
  (rule:∀ (i j:Int) (t u:Tok) (s:Shared) (Q:Value→Shared→Prop) (E:Value→Shared→Prop),C i j→Q (.int (g i j) s.toks) {s with toks:=s.toks+1}→wpAny (model X.prog X.w) X.A (f (.int i t) (.int j u)) Q E s) :
  OpR X f (rI C fun i j => .int (g i j)):=by
 intro pins s σ H x y v u Q I rx ry h
 obtain⟨i,j,rfl,rfl,hc,q⟩:=h
 obtain⟨t,rfl⟩:=rx
 obtain⟨t',rfl⟩:=ry
 exact rule i j t t' s _ _ hc ⟨.int (g i j),H,I.tok _,⟨_,rfl⟩,q⟩
theorem opI0{f:Value→Value→Sem Value}{g:Int→Int→Int}
  (rule:∀ (i j:Int) (t u:Tok) (s:Shared) (Q:Value→Shared→Prop) (E:Value→Shared→Prop),Q (.int (g i j) s.toks) {s with toks:=s.toks+1}→wpAny (model X.prog X.w) X.A (f (.int i t) (.int j u)) Q E s) :
  OpR X f (rI0 fun i j => .int (g i j)):=by
 intro pins s σ H x y v u Q I rx ry h
 obtain⟨i,j,rfl,rfl,q⟩:=h
 obtain⟨t,rfl⟩:=rx
 obtain⟨t',rfl⟩:=ry
 exact rule i j t t' s _ _ ⟨.int (g i j),H,I.tok _,⟨_,rfl⟩,q⟩
theorem opB0{f:Value→Value→Sem Value}{g:Int→Int→Bool}
  (rule:∀ (i j:Int) (t u:Tok) (s:Shared) (Q:Value→Shared→Prop) (E:Value→Shared→Prop),Q (.bool (g i j)) s→wpAny (model X.prog X.w) X.A (f (.int i t) (.int j u)) Q E s) :
  OpR X f (rI0 fun i j => .bl (g i j)):=by
 intro pins s σ H x y v u Q I rx ry h
 obtain⟨i,j,rfl,rfl,q⟩:=h
 obtain⟨t,rfl⟩:=rx
 obtain⟨t',rfl⟩:=ry
 exact rule i j t t' s _ _ ⟨.bl (g i j),H,I,rfl,q⟩
def CDiv(i j:Int):Prop:=0<j∧j<1073741824
def CPow(i j:Int):Prop:=0≤j∧j≤1000000∧i.natAbs<2 ^ 64
def CMul(i j:Int):Prop:=(-(2 ^ 64)<i∧i<2 ^ 64)∨(-(2 ^ 64)<j∧j<2 ^ 64)
theorem CMul.ok{i j:Int}(h:CMul i j):IntMulOk i j:=by
 rcases h with⟨h1,h2⟩ | ⟨h1,h2⟩
 ·exact .of_left (intBits_le_64 h1 h2)
 ·exact .of_right (intBits_le_64 h1 h2)
theorem Zrk(k:Nat):(0:Int)≤2 ^ k:=by
 rw[two_pow_cast]
 exact Int.natCast_nonneg _
theorem Xbl:OpR X (binaryOp .Add) (rI0 fun i j => .int (i+j)):=opI0 fun _ _ _ _ _ _ _ q=>add_int q
theorem Xbg:OpR X (binaryOp .Sub) (rI0 fun i j => .int (i - j)):=opI0 fun _ _ _ _ _ _ _ q=>sub_int q
theorem Xbi:OpR X (binaryOp .Mult) (rI CMul fun i j => .int (i*j)):=opI fun _ _ _ _ _ _ _ hc q=>mul_int q hc.ok
theorem Xu:OpR X (binaryOp .FloorDiv) (rI CDiv fun i j => .int (i/j)):=opI fun i j _ _ _ _ _ hc q=>by
 have h1:(0:Int)<j:=hc.1
 have h2:j<1073741824:=hc.2
 exact floordiv_int (by omega) (by rw[Int.fdiv_eq_ediv_of_nonneg i (by omega)];exact q) (.inl (PyProof.noPylong_small (by omega)))
theorem Xc:OpR X (binaryOp .Mod) (rI (fun _ j=>0<j) fun i j => .int (i%j)):=opI fun i j _ _ _ _ _ hc q=>by
 have h1:(0:Int)<j:=hc
 exact mod_int' (by omega) (by rw[Int.fmod_eq_emod_of_nonneg i (by omega)];exact q)
theorem Zkh:OpR X (binaryOp .Pow) (rI CPow fun i j => .int (i ^ j.toNat)):=opI fun _ _ _ _ _ _ _ hc q=>pow_int_small hc.1 hc.2.1 hc.2.2 q
theorem Zry:OpR X (binaryOp .LShift) (rI CPow fun i j => .int (i*2 ^ j.toNat)):=opI fun _ _ _ _ _ _ _ hc q=>lshift_int_small hc.1 hc.2.1 hc.2.2 q
theorem Zwv:OpR X (binaryOp .RShift) (rI (fun _ j=>0≤j) fun i j => .int (i/2 ^ j.toNat)):=opI fun i j _ _ _ _ _ hc q =>
 rshift_int hc (by rw[Int.fdiv_eq_ediv_of_nonneg i (Zrk _)];exact q)
theorem Xbk:OpR X (binaryOp .BitAnd) (rI0 fun i j => .int (Builtin.bitAnd i j)):=opI0 fun _ _ _ _ _ _ _ q=>and_int q
theorem unI{f:Value→Sem Value}{g:Int→Int}
  (rule:∀ (i:Int) (t:Tok) (s:Shared) (Q:Value→Shared→Prop) (E:Value→Shared→Prop),Q (.int (g i) s.toks) {s with toks:=s.toks+1}→wpAny (model X.prog X.w) X.A (f (.int i t)) Q E s) :
  UnR X f (rU fun i => .int (g i)):=by
 intro pins s σ H x v Q I rx h
 obtain⟨i,rfl,q⟩:=h
 obtain⟨t,rfl⟩:=rx
 exact rule i t s _ _ ⟨.int (g i),H,I.tok _,⟨_,rfl⟩,q⟩
theorem Jk:UnR X (unaryOp .USub) (rU fun i => .int (-i)):=unI fun _ _ _ _ _ q=>neg_int q
end
noncomputable def scal:V→V→Bool
 | .non,.non=>true | .non,.int _=>true | .int _,.non=>true | .non,.bl _=>true | .bl _,.non=>true | .non,.str _=>true | .str _,.non=>true
 | .int _,.int _=>true | .bl _,.bl _=>true | .str _,.str _=>true | .byt _,.byt _=>true
 | .int _,.str _=>true | .str _,.int _=>true | .bl _,.str _=>true | .str _,.bl _=>true
 | _,_=>false
def rEq:R2:=fun x y H Q=>scal x y=true∧Q (.bl (decide (x=y))) H
def rNe:R2:=fun x y H Q=>scal x y=true∧Q (.bl (!decide (x=y))) H
theorem Zgw{i j:Int}:decide (V.int i=V.int j)=(i == j):=by
 rw[Bool.eq_iff_iff]
 simp
theorem Zxz{i j:Bool}:decide (V.bl i=V.bl j)=(i == j):=by
 rw[Bool.eq_iff_iff]
 simp
theorem Ztk{i j:Str}:decide (V.str i=V.str j)=(i == j):=by
 rw[Bool.eq_iff_iff]
 simp
theorem Ztl{i j:Array UInt8}:decide (V.byt i=V.byt j)=(i.toList == j.toList):=by
 rw[Bool.eq_iff_iff]
 cases i
 cases j
 simp
section
variable {X:Cx} {a b c:Expr} {ta tb tc:TE} {pos:Pos}
theorem Xp{pins:List (Addr×Obj)}{σ:St}{H:Hp}{s:Shared}{Q:VK}{k k':Bool}(I:Inv X pins σ H s)(q:Q (.bl k) H)(e:k=k'):EP X pins σ Q (.bool k') s:=by
 subst e
 exact⟨.bl k,H,I,rfl,q⟩
theorem Xch:OpR X (compareOp .Eq) rEq:=by
 intro pins s σ H x y v u Q I rx ry h
 obtain⟨hs,q⟩:=h
 cases x with
 | non =>
  cases rx
  cases y with
  | non=>cases ry;exact PySem.EqNone.eq_none_none (Xp I q (by simp))
  | bl j=>cases ry;exact PySem.EqNone.eq_none_bool (Xp I q (by simp))
  | int j=>obtain⟨t',rfl⟩:=ry;exact PySem.EqNone.eq_none_int (Xp I q (by simp))
  | str j=>obtain⟨t',rfl⟩:=ry;exact PySem.EqNone.eq_none_str (Xp I q (by simp))
  | _=>exact absurd (show false=true from hs) UI
 | bl i =>
  cases rx
  cases y with
  | non=>cases ry;exact PySem.EqNone.eq_bool_none (Xp I q (by simp))
  | bl j=>cases ry;exact eq_bool (Xp I q Zxz)
  | str j=>obtain⟨t',rfl⟩:=ry;exact PySem.EqMixed.eq_bool_str (Xp I q (by simp))
  | _=>exact absurd (show false=true from hs) UI
 | int i =>
  obtain⟨t,rfl⟩:=rx
  cases y with
  | non=>cases ry;exact PySem.EqNone.eq_int_none (Xp I q (by simp))
  | int j=>obtain⟨t',rfl⟩:=ry;exact eq_int (Xp I q Zgw)
  | str j=>obtain⟨t',rfl⟩:=ry;exact PySem.EqMixed.eq_int_str (Xp I q (by simp))
  | _=>exact absurd (show false=true from hs) UI
 | str i =>
  obtain⟨t,rfl⟩:=rx
  cases y with
  | non=>cases ry;exact PySem.EqNone.eq_str_none (Xp I q (by simp))
  | bl j=>cases ry;exact PySem.EqMixed.eq_str_bool (Xp I q (by simp))
  | int j=>obtain⟨t',rfl⟩:=ry;exact PySem.EqMixed.eq_str_int (Xp I q (by simp))
  | str j=>obtain⟨t',rfl⟩:=ry;exact eq_str (Xp I q Ztk)
  | _=>exact absurd (show false=true from hs) UI
 | byt i =>
  obtain⟨t,rfl⟩:=rx
  cases y with
  | byt j=>obtain⟨t',rfl⟩:=ry;exact PySem.W.eq_bytes (Xp I q Ztl)
  | _=>exact absurd (show false=true from hs) UI
 | _=>cases y<;>exact absurd (show false=true from hs) UI
theorem Xcc:OpR X (compareOp .NotEq) rNe:=by
 intro pins s σ H x y v u Q I rx ry h
 obtain⟨hs,q⟩:=h
 cases x with
 | non =>
  cases rx
  cases y with
  | non=>cases ry;exact PySem.EqNone.ne_none_none (Xp I q (by simp))
  | bl j=>cases ry;exact PySem.EqNone.ne_none_bool (Xp I q (by simp))
  | int j=>obtain⟨t',rfl⟩:=ry;exact PySem.EqNone.ne_none_int (Xp I q (by simp))
  | str j=>obtain⟨t',rfl⟩:=ry;exact PySem.EqNone.ne_none_str (Xp I q (by simp))
  | _=>exact absurd (show false=true from hs) UI
 | bl i =>
  cases rx
  cases y with
  | non=>cases ry;exact PySem.EqNone.ne_bool_none (Xp I q (by simp))
  | bl j=>cases ry;exact ne_bool (Xp I q (congrArg not Zxz))
  | str j=>obtain⟨t',rfl⟩:=ry;exact PySem.EqMixed.ne_bool_str (Xp I q (by simp))
  | _=>exact absurd (show false=true from hs) UI
 | int i =>
  obtain⟨t,rfl⟩:=rx
  cases y with
  | non=>cases ry;exact PySem.EqNone.ne_int_none (Xp I q (by simp))
  | int j=>obtain⟨t',rfl⟩:=ry;exact ne_int (Xp I q (congrArg not Zgw))
  | str j=>obtain⟨t',rfl⟩:=ry;exact PySem.EqMixed.ne_int_str (Xp I q (by simp))
  | _=>exact absurd (show false=true from hs) UI
 | str i =>
  obtain⟨t,rfl⟩:=rx
  cases y with
  | non=>cases ry;exact PySem.EqNone.ne_str_none (Xp I q (by simp))
  | bl j=>cases ry;exact PySem.EqMixed.ne_str_bool (Xp I q (by simp))
  | int j=>obtain⟨t',rfl⟩:=ry;exact PySem.EqMixed.ne_str_int (Xp I q (by simp))
  | str j=>obtain⟨t',rfl⟩:=ry;exact ne_str (Xp I q (congrArg not Ztk))
  | _=>exact absurd (show false=true from hs) UI
 | byt i =>
  obtain⟨t,rfl⟩:=rx
  cases y with
  | byt j=>obtain⟨t',rfl⟩:=ry;exact PySem.W.ne_bytes (Xp I q (congrArg not Ztl))
  | _=>exact absurd (show false=true from hs) UI
 | _=>cases y<;>exact absurd (show false=true from hs) UI
theorem Xcd:OpR X (compareOp .Lt) (rI0 fun i j => .bl (decide (i<j))):=opB0 fun _ _ _ _ _ _ _ q=>lt_int q
theorem Xce:OpR X (compareOp .LtE) (rI0 fun i j => .bl (decide (i≤j))):=opB0 fun _ _ _ _ _ _ _ q=>le_int q
theorem Xcf:OpR X (compareOp .Gt) (rI0 fun i j => .bl (decide (j<i))):=opB0 fun _ _ _ _ _ _ _ q=>gt_int q
theorem Xcg:OpR X (compareOp .GtE) (rI0 fun i j => .bl (decide (j≤i))):=opB0 fun _ _ _ _ _ _ _ q=>ge_int q
theorem Zul:OpR X (compareOp .Lt) (fun x y H Q=>∃ i j,x = .str i∧y = .str j∧Q (.bl (decide (i.cps.toList<j.cps.toList))) H):=by
 intro pins s σ H x y v u Q I rx ry h
 obtain⟨i,j,rfl,rfl,q⟩:=h
 obtain⟨t,rfl⟩:=rx
 obtain⟨t',rfl⟩:=ry
 exact lt_str (Xp I q rfl)
theorem Zum:OpR X (compareOp .In) (fun x y H Q=>∃ i j,x = .str i∧y = .str j∧Q (.bl (!(Builtin.Str.occurrences j i 0 j.length 1).isEmpty)) H):=by
 intro pins s σ H x y v u Q I rx ry h
 obtain⟨i,j,rfl,rfl,q⟩:=h
 obtain⟨t,rfl⟩:=rx
 obtain⟨t',rfl⟩:=ry
 exact in_str (Xp I q rfl)
theorem Zoc:OpR X (compareOp .Is) (fun x y H Q=>y = .non∧Q (.bl (decide (x = .non))) H):=by
 intro pins s σ H x y v u Q I rx ry h
 obtain⟨rfl,q⟩:=h
 cases ry
 refine is_none_gen (Xp I q ?_)
 cases x<;>first
  | (cases rx;rfl)
  | (obtain⟨t,rfl⟩:=rx;rfl)
theorem OpR.or{f:Value→Value→Sem Value}{r r':R2}(h:OpR X f r)(h':OpR X f r'):OpR X f (fun x y H Q=>r x y H Q∨r' x y H Q):=by
 intro pins s σ H x y v u Q I rx ry q
 rcases q with q | q
 ·exact h pins s σ H x y v u Q I rx ry q
 ·exact h' pins s σ H x y v u Q I rx ry q
theorem Zk(b:Expr){op:CmpOp}(h:op≠.In:=by decide)(h2:op≠.NotIn:=by decide):behindInMarks op b=false:=by
 have e1:(op == CmpOp.In)=false:=by cases op<;>first | rfl | exact absurd rfl h
 have e2:(op == CmpOp.NotIn)=false:=by cases op<;>first | rfl | exact absurd rfl h2
 cases b<;>simp[behindInMarks,e1,e2]
theorem Xj{op:CmpOp}{r:R2}(ho:OpR X (compareOp op) r)(ha:PE X a ta)(hb:PE X b tb)(hm:behindInMarks op b=false):PE X (.Compare a [op] [b] pos) (tOp r ta tb):=by
 intro pins s σ H Q I h
 exact wpAny_Compare1 (binT ha hb I h fun v u s2 x y H2 I2 rx ry q=>ho pins s2 σ H2 x y v u Q I2 rx ry q) hm
def tTest(t:TE):TT:=fun σ H Q=>t σ H fun x H'=>∃ k,x = .bl k∧Q k H'
theorem Zl{op:CmpOp}{r:R2}(ho:OpR X (compareOp op) r)(ha:PE X a ta)(hb:PE X b tb)(hm:behindInMarks op b=false):PT X (.Compare a [op] [b] pos) (tTest (tOp r ta tb)):=by
 intro pins s σ H Q I h
 refine wpAny_isTrue_Compare1 (thn (ha pins s σ H _ I h) fun v s1 ⟨x,H1,I1,r1,q1⟩=>thn (hb pins s1 σ H1 _ I1 q1) fun u s2 ⟨y,H2,I2,r2,q2⟩ =>
  thn (ho pins s2 σ H2 x y v u _ I2 r1 r2 q2) fun c s3 ⟨z,H3,I3,r3,k,e,q3⟩=>?_) hm
 subst e
 cases r3
 exact wpAny_truthy_bool ⟨H3,I3,q3⟩
def TruV(K:Ua)(x:V)(H:Hp)(k:Bool):Prop :=
 match x with
 | .non=>k=false
 | .bl b=>k=b
 | .int i=>k=(i != 0)
 | .str y=>y.length≤sizeLine∧k=((y.length:Int) != 0)
 | .byt y=>y.size≤sizeLine∧k=((y.size:Int) != 0)
 | .ref p=>(∃ xs,SqL K H p xs∧k=!xs.isEmpty)∨(∃ xs,SqT K H p xs∧k=!xs.isEmpty)∨∃ kvs,H p=some (.dK kvs)∧k=!kvs.isEmpty
 | _=>False
theorem Zsi{κ:Type}{kvs:List (κ×V)}{vs:List (κ×Value)}(r:KV kvs vs):(!vs.isEmpty)=!kvs.isEmpty:=by
 cases r<;>rfl
theorem Zkw{xs:List V}{its:List Value}(r:Vals xs its):(!its.toArray.isEmpty)=!xs.isEmpty:=by
 cases r<;>simp
theorem line63:(sizeLine:Nat)<2 ^ 63:=by rw[sizeLine_eq];decide
theorem Zvy:TruR X (fun x H Q=>∃ k,TruV X.K x H k∧Q k H):=by
 intro pins s σ H x v Q I rx h
 obtain⟨k,e,q⟩:=h
 have hl:=line63
 have hs:sizeLine=16777216:=sizeLine_eq
 cases x with
 | non =>
  cases rx
  have e':k=false:=e
  subst e'
  exact truthy_none ⟨H,I,q⟩
 | bl b =>
  cases rx
  have e':k=b:=e
  subst e'
  exact wpAny_truthy_bool ⟨H,I,q⟩
 | int i =>
  obtain⟨t,rfl⟩:=rx
  have e':k=(i != 0):=e
  subst e'
  exact PySem.P.truthy_int ⟨H,I,q⟩
 | str y =>
  obtain⟨t,rfl⟩:=rx
  obtain⟨hy,e'⟩:y.length≤sizeLine∧k=((y.length:Int) != 0):=e
  subst e'
  exact PySem.P.truthy_str (by omega) ⟨H,I.tok _,q⟩
 | byt y =>
  obtain⟨t,rfl⟩:=rx
  obtain⟨hy,e'⟩:y.size≤sizeLine∧k=((y.size:Int) != 0):=e
  subst e'
  exact PySem.W.truthy_bytes (by omega) ⟨H,I.tok _,q⟩
 | ref p =>
  cases rx
  have e':(∃ xs,SqL X.K H p xs∧k=!xs.isEmpty)∨(∃ xs,SqT X.K H p xs∧k=!xs.isEmpty)∨∃ kvs,H p=some (.dK kvs)∧k=!kvs.isEmpty:=e
  rcases e' with⟨xs,hx,e'⟩ | ⟨xs,hx,e'⟩ | ⟨kvs,hx,e'⟩
  ·subst e'
   obtain⟨its,r,pl,hz⟩:=I.list hx
   have hlen:=r.length
   exact wpAny_truthy_list pl.isList (by simp only[Uu];omega) ⟨H,I.tok _,by rw[Zkw r];exact q⟩
  ·subst e'
   obtain⟨its,r,pl,hz⟩:=I.tuple hx
   have hlen:=r.length
   exact truthy_tuple pl (by simp only[Uu];omega) ⟨H,I.tok _,by rw[Zkw r];exact q⟩
  ·subst e'
   obtain⟨hz,hS,vs,r,m⟩:kvs.length≤sizeLine∧(p == sysModules)=false∧∃ vs,KV kvs vs∧s.heap.DictOf (mixKind X.prog X.w) p vs:=I.hok p _ hx
   have hlen:kvs.length=vs.length:=Paired.length r
   exact wpAny_truthy_dict hS m (by omega) ⟨H,I.tok _,by rw[Zsi r];exact q⟩
 | _=>exact(show False from e).elim
theorem Xm(ha:PE X a ta)(he:∀ whole,isTrue a X.env whole=(do let v ← whole;standAt a.pos;holding [v] (truthy v))) :
  PT X a (fun σ H Q=>ta σ H fun x H'=>∃ k,TruV X.K x H' k∧Q k H'):=by
 intro pins s σ H Q I h
 refine isTrue_plain (thn (ha pins s σ H _ I h) fun v s1 zq=>?_) (he _)
 obtain⟨x,H1,I1,r1,q1⟩:=zq
 exact Zvy pins s1 σ H1 x v Q I1 r1 q1
theorem Zsa:OpR X (binaryOp .Add) (fun x y H Q=>∃ i j,x = .str i∧y = .str j∧i.length+j.length≤sizeLine∧Q (.str (i++j)) H):=by
 intro pins s σ H x y v u Q I rx ry h
 obtain⟨i,j,rfl,rfl,hz,q⟩:=h
 obtain⟨t,rfl⟩:=rx
 obtain⟨t',rfl⟩:=ry
 exact add_str (fun t' tk=>⟨.str (i++j),H,I.tok _,⟨_,rfl⟩,q⟩) hz
theorem vals1{x:V}{us:List Value}(r:Vals [x] us):∃ u,us=[u]∧RelV x u:=by
 cases r with
 | cons r1 r2=>cases r2;exact⟨_,rfl,r1⟩
theorem vals2{x y:V}{us:List Value}(r:Vals [x,y] us):∃ u w',us=[u,w']∧RelV x u∧RelV y w':=by
 cases r with
 | cons r1 r2 =>
  cases r2 with
  | cons r3 r4=>cases r4;exact⟨_,_,rfl,r1,r3⟩
theorem Zyd:CallR X (.builtin "abs") (fun xs H Q=>∃ i,xs=[.int i]∧Q (.int (if i<0 then -i else i)) H):=by
 intro pins s σ H xs us Q I r h
 obtain⟨i,rfl,q⟩:=h
 obtain⟨u,rfl,t,rfl⟩:=vals1 r
 exact call_abs_int fun u tk=>⟨.int (if i<0 then -i else i),H,I.tok _,⟨_,rfl⟩,q⟩
theorem Zep(hc:X.calm=true):CallR X (.builtin "min") (fun xs H Q=>∃ i j,xs=[.int i,.int j]∧Q (.int (if j<i then j else i)) H):=by
 intro pins s σ H xs us Q I r h
 obtain⟨i,j,rfl,q⟩:=h
 obtain⟨u,w',rfl,⟨t,rfl⟩,⟨t',rfl⟩⟩:=vals2 r
 refine min_two_ints (I.ok.hd hc) fun h' tk k=>⟨_,H,I.kept k,?_,q⟩
 by_cases hj:j<i
 ·rw[if_pos hj,if_pos hj];exact⟨_,rfl⟩
 ·rw[if_neg hj,if_neg hj];exact⟨_,rfl⟩
theorem Zvp:CallR X (.type "int") (fun xs H Q=>(∃ i,xs=[.int i]∧Q (.int i) H)∨∃ k,xs=[.bl k]∧Q (.int (if k then 1 else 0)) H):=by
 intro pins s σ H xs us Q I r h
 rcases h with⟨i,rfl,q⟩ | ⟨k,rfl,q⟩
 ·obtain⟨u,rfl,t,rfl⟩:=vals1 r
  exact call_int_int ⟨.int i,H,I,⟨_,rfl⟩,q⟩
 ·obtain⟨u,rfl,r1⟩:=vals1 r
  cases r1
  exact call_int_bool ⟨.int (if k then 1 else 0),H,I.tok _,⟨_,rfl⟩,q⟩
def LenV(K:Ua)(x:V)(H:Hp)(n:Nat):Prop :=
 match x with
 | .str y=>y.length≤sizeLine∧n=y.length
 | .byt y=>y.size≤sizeLine∧n=y.size
 | .ref p=>(∃ xs,SqL K H p xs∧n=xs.length)∨∃ xs,SqT K H p xs∧n=xs.length
 | _=>False
theorem Zt:CallR X (.builtin "len") (fun xs H Q=>∃ x n,xs=[x]∧LenV X.K x H n∧Q (.int n) H):=by
 intro pins s σ H xs us Q I r h
 obtain⟨x,n,rfl,e,q⟩:=h
 obtain⟨u,rfl,rx⟩:=vals1 r
 have hl:=line63
 have hs:sizeLine=16777216:=sizeLine_eq
 cases x with
 | str y =>
  obtain⟨t,rfl⟩:=rx
  obtain⟨hy,e'⟩:y.length≤sizeLine∧n=y.length:=e
  subst e'
  exact len_str (by omega) ⟨.int _,H,I.tok _,⟨_,rfl⟩,q⟩
 | byt y =>
  obtain⟨t,rfl⟩:=rx
  obtain⟨hy,e'⟩:y.size≤sizeLine∧n=y.size:=e
  subst e'
  exact PySem.W.len_bytes (by omega) ⟨.int _,H,I.tok _,⟨_,rfl⟩,q⟩
 | ref p =>
  cases rx
  have e':(∃ xs,SqL X.K H p xs∧n=xs.length)∨∃ xs,SqT X.K H p xs∧n=xs.length:=e
  rcases e' with⟨xs,hx,e'⟩ | ⟨xs,hx,e'⟩
  ·subst e'
   obtain⟨its,r',pl,hz⟩:=I.list hx
   have hlen:=r'.length
   exact Calls.call_len_list pl.isList (by simp only[Uu];omega) ⟨.int xs.length,H,I.tok _,⟨_,by simp only[Uu];rw[hlen]⟩,q⟩
  ·subst e'
   obtain⟨its,r',pl,hz⟩:=I.tuple hx
   have hlen:=r'.length
   exact len_tuple pl (by simp only[Uu];omega) ⟨.int xs.length,H,I.tok _,⟨_,by simp only[Uu];rw[hlen]⟩,q⟩
 | _=>exact(show False from e).elim
end
end L2
namespace L2
open PySem PySem.Spec PyProof.Rows
structure ObjM(h:Heap)(x dx C:Addr)(mA:Str→Option Value):Prop where
 obj:h.get? x=some (PySem.W.instObj C dx)
 ns:h.Ns1 dx mA
 ne:dx≠x
theorem Zus{h:Heap}{dx:Addr}{mA:Str→Option Value}(n:h.Ns1 dx mA):∃ od,h.get? dx=some od∧∀ name,PySem.W.lookIn name od=some (mA name):=by
 obtain⟨o,es,ep,ho,hd,hk,_,hm⟩:=n
 refine⟨o,ho,fun name=>?_⟩
 have e:=hm name
 unfold nsFind findBy at e
 rw[← Array.find?_toList] at e
 unfold PySem.W.lookIn
 rw[hd]
 dsimp only
 split
 ·rename_i y q
  rw[q] at e
  exact congrArg some e
 ·rename_i q
  rw[q] at e
  have a:es.toList.any (·.refKey)=false:=by
   rw[List.any_eq_false]
   intro y hy
   obtain⟨z,t,hkey⟩:=hk y (Array.mem_toList_iff.mp hy)
   simp[DictEntry.refKey,hkey]
  have a':¬es.toList.any (·.refKey)=true:=by rw[a];exact UI
  rw[if_neg a']
  exact congrArg some e
theorem ObjM.look{h:Heap}{x dx C:Addr}{mA:Str→Option Value}(I:ObjM h x dx C mA):∃ od,PySem.W.InstAt h x (PySem.W.instObj C dx) C (some od)∧∀ name,PySem.W.lookIn name od=some (mA name) :=
 let ⟨od,ho,hl⟩:=Zus I.ns
 ⟨od,⟨I.obj,rfl,rfl,ho⟩,hl⟩
section
variable {prog:Program} {w:World} {A:Around} {E:Value→Shared→Prop} {s:Shared} {K:Ua} {x dx C f:Addr} {mA:Str→Option Value} {name:Str} {v:Value}
theorem get_map{expr:Bool}{Q:Value→Shared→Prop}(X:K.In s.heap)(I:ObjM s.heap x dx C mA)(hg:PySem.W.plainGet K C name=true)(hh:PySem.W.hasDictIn K C=true)
  (ha:PySem.W.findIn K (.ref C) name=some none) (hv:mA name=some v) (hv':PySem.W.handedIn v=true) (h:Q v {s with toks:=s.toks+1}) :
  wpAny (model prog w) A (getAttr (.ref x) name expr) Q E s:=by
 obtain⟨od,J,hl⟩:=I.look
 exact PySem.W.get_value X J (PySem.W.plainGet_of hg).1 (PySem.W.findObj_own hh ha rfl (by rw[hl,hv])) hv' h
theorem Zxi{pl:Sem Bool}{Q:Value×List Value→Shared→Prop}(X:K.In s.heap)(I:ObjM s.heap x dx C mA)(hg:PySem.W.plainGet K C name=true)
  (hf:PySem.W.findIn K (.ref C) name=some (some (.ref f))) (ht:PySem.W.isFn K (.ref f)=true) (hv:mA name=none) (h:Q (.ref f,[.ref x]) s) :
  wpAny (model prog w) A (getMethod (.ref x) name pl) Q E s:=by
 obtain⟨od,J,hl⟩:=I.look
 exact PySem.W.method_fn X J (PySem.W.plainGet_of hg).1 (PySem.W.plainGet_of hg).2 hf (beq_iff_eq.mp ht) (by show (PySem.W.lookIn name od).map (·.isSome)=some false;rw[hl,hv];rfl) h
theorem Zyz{ns:List Str}{Q:Unit→Shared→Prop}(X:K.In s.heap)(I:ObjM s.heap x dx C mA)
  (hs:PySem.W.findIn K (.ref C) "__setattr__"=some (some (.builtin "object.__setattr__"))) (hp:PySem.W.plainOver K C=true) (ht:PySem.W.takerIn K C name=some none) (hh:PySem.W.hasDictIn K C=true)
  (hw:PySem.Within mA ns) (hsz:ns.length≤sizeLine)
  (h:∀ h',ObjM h' x dx C (fun y=>if y=name then some v else mA y)→Heap.SameBut dx s.heap h'→Q () {s with heap:=h',toks:=s.toks+2}) :
  wpAny (model prog w) A (setAttr (.ref x) name v) Q E s:=by
 obtain⟨od,J,hl⟩:=I.look
 refine PySem.W.set_plain X J hs (PySem.W.osa_open (s:={s with toks:=s.toks+1}) (r:=none) X J hp ht fun b=>?_)
 obtain⟨cd,hc,hd'⟩:=PySem.W.any_some hh
 have hx:s.heap.get? x=some ⟨.ref C,some dx,.plain,#[]⟩:=I.obj
 refine wpAny_bind (wpAny_pure (wpAny_bind (wpAny_bind (wpAny_loadPart hx (wpAny_bind (PySem.W.Looks.here (s:={s with toks:=s.toks+1}) (PySem.W.looks_clsIn X hc) ?_))))))
 rw[hd']
 refine wpAny_pure (a:=some dx) (wpAny_bind (wpAny_pure (wpAny_bind ?_)))
 refine wpAny_nsSet1 (s:={s with toks:=s.toks+1}) I.ns fun h' hn2 hs2=>?_
 obtain⟨oD,esD,epD,hoD,hdD,hcD⟩:=hn2.count (PySem.Within.cons name v hw)
 refine wpAny_bind (wpAny_lookBehind hoD (by rw[hdD];exact pastItsLine_dict (UC hcD (by rw[Uq];omega))) ?_)
 exact wpAny_pure (h _ ⟨(hs2.2 _ (Uh I.ne)).trans I.obj,hn2,I.ne⟩ hs2)
theorem Zxc{R:Result→Shared→Prop}{vs:List Value}{kw:List (Str×Value)}(X:K.In s.heap)(hm:PySem.W.makesIn K C=true)
  (hi:PySem.W.findIn K (.ref C) "__init__"=some (some (.ref f))) (hf:PySem.W.typeIn K (.ref f)=some (.type "function"))
  (h:codeAny (model prog w) (A.under (.builtin "type.__call__" ⟨.ref C::vs,kw⟩)) (.call (.ref f) ⟨.ref (s.heap.objs.size+1)::vs,kw⟩) (PySem.W.InitBack (s.heap.objs.size+1) R)
   {s with heap:=(s.heap.push PySem.W.emptyDict).push (PySem.W.instObj C s.heap.objs.size)}) :
  codeAny (model prog w) A (.call (.ref C) ⟨vs,kw⟩) R s:=by
 obtain⟨hh,g,d,t,os⟩:=s
 exact PySem.W.make_core (PySem.W.makes_of X hm) (PySem.W.looks_findIn X hi) (fun self=>PySem.W.bind_fn X self hf) (.inl rfl) h
theorem Zur{R:Result→Shared→Prop}(X:K.In s.heap)(hm:PySem.W.makesIn K C=true)
  (hi:PySem.W.findIn K (.ref C) "__init__"=some (some (.builtin "object.__init__")))
  (hb:∀ self,PySem.W.Looks (model prog w) s.heap (bindSpecial (.builtin "object.__init__") self) (.builtin "object.__init__",[self]))
  (h:codeAny (model prog w) (A.under (.builtin "type.__call__" ⟨[.ref C],[]⟩)) (.call (.builtin "object.__init__") ⟨[.ref (s.heap.objs.size+1)],[]⟩) (PySem.W.InitBack (s.heap.objs.size+1) R)
   {s with heap:=(s.heap.push PySem.W.emptyDict).push (PySem.W.instObj C s.heap.objs.size)}) :
  codeAny (model prog w) A (.call (.ref C) ⟨[],[]⟩) R s:=by
 obtain⟨hh,g,d,t,os⟩:=s
 exact PySem.W.make_core (PySem.W.makes_of X hm) (PySem.W.looks_findIn X hi) hb (.inr ⟨rfl,rfl⟩) h
end
noncomputable def putF(f:Str)(v:V):List (Str×V)→List (Str×V)
 | []=>[(f,v)]
 | (g,x)::r=>if g=f then (g,v)::r else (g,x)::putF f v r
theorem Zif(f g:Str)(v:V):∀ fs:List (Str×V),(putF f v fs).lookup g=if g=f then some v else fs.lookup g
 | []=>by
  show List.lookup g [(f,v)]=_
  by_cases h:g=f
  ·have hb:(g == f)=true:=beq_iff_eq.mpr h
   simp only[List.lookup,hb,if_pos h]
  ·have hb:(g == f)=false:=beq_eq_false_iff_ne.mpr h
   simp only[List.lookup,hb,if_neg h]
 | (k,x)::r=>by
  have ih:=Zif f g v r
  rw[show putF f v ((k,x)::r)=(if k=f then (k,v)::r else (k,x)::putF f v r) from rfl]
  by_cases hk:k=f
  ·rw[if_pos hk]
   by_cases h:g=k
   ·have hb:(g == k)=true:=beq_iff_eq.mpr h
    simp only[List.lookup,hb,if_pos (h.trans hk)]
   ·have hb:(g == k)=false:=beq_eq_false_iff_ne.mpr h
    simp only[List.lookup,hb,if_neg (fun e:g=f=>h (e.trans hk.symm))]
  ·rw[if_neg hk]
   by_cases h:g=k
   ·have hb:(g == k)=true:=beq_iff_eq.mpr h
    simp only[List.lookup,hb,if_neg (fun e:g=f=>hk (h.symm.trans e))]
   ·have hb:(g == k)=false:=beq_eq_false_iff_ne.mpr h
    simp only[List.lookup,hb]
    exact ih
theorem Zhv(f:Str)(v:V):∀ fs:List (Str×V),f∈(putF f v fs).map (·.1)∧∀ g,g∈fs.map (·.1)→g∈(putF f v fs).map (·.1)
 | []=>⟨by simp[putF],fun g h=>by simp at h⟩
 | (k,x)::r=>by
  obtain⟨i1,i2⟩:=Zhv f v r
  rw[show putF f v ((k,x)::r)=(if k=f then (k,v)::r else (k,x)::putF f v r) from rfl]
  by_cases hk:k=f
  ·rw[if_pos hk]
   subst hk
   exact⟨by simp,fun g h=>by simpa using h⟩
  ·rw[if_neg hk]
   refine⟨?_,fun g h=>?_⟩
   ·rw[UP]
    exact Ul _ i1
   ·rw[UP] at h ⊢
    rcases Um.mp h with e | e
    ·exact Um.mpr (.inl e)
    ·exact Ul _ (i2 g e)
theorem Zih(f:Str)(v:V):∀ fs:List (Str×V),(putF f v fs).length≤fs.length+1
 | []=>by simp[putF]
 | (k,x)::r=>by
  have ih:=Zih f v r
  rw[show putF f v ((k,x)::r)=(if k=f then (k,v)::r else (k,x)::putF f v r) from rfl]
  by_cases hk:k=f
  ·rw[if_pos hk,Uq,Uq];omega
  ·rw[if_neg hk,Uq,Uq];omega
theorem RelO.some_of{v:V}{o:Option Value}(r:RelO (some v) o):∃ u,o=some u∧RelV v u:=by
 cases o with
 | none=>exact(show False from r).elim
 | some u=>exact⟨u,rfl,r⟩
theorem RelO.none_of{o:Option Value}(r:RelO none o):o=none:=by
 cases o with
 | none=>rfl
 | some u=>exact(show False from r).elim
theorem Zuy{v:V}{u:Value}(r:RelV v u):PySem.W.handedIn u=true:=by
 cases v with
 | non=>cases (show u=Value.none from r);rfl
 | bl b=>cases (show u=Value.bool b from r);rfl
 | int i=>obtain⟨t,e⟩:=(show ∃ t,u=Value.int i t from r);cases e;rfl
 | str x=>obtain⟨t,e⟩:=(show ∃ t,u=Value.str x t from r);cases e;rfl
 | byt b=>obtain⟨t,e⟩:=(show ∃ t,u=Value.bytes b t from r);cases e;rfl
 | flt b=>obtain⟨t,e⟩:=(show ∃ t,u=Value.float b t from r);cases e;rfl
 | ref a=>cases (show u=Value.ref a from r);rfl
 | ty n=>cases (show u=Value.type n from r);rfl
section
variable {P:Program} {w:World} {H H':Hp} {h h':Heap} {a C dx:Addr} {fs fs':List (Str×V)}
theorem Zjg(hok:HOk P w H h)(e:H a=some (.ins C dx fs)):∃ mA,ObjM h a dx C mA∧(∀ f,RelO (fs.lookup f) (mA f))∧PySem.Within mA (fs.map (·.1))∧fs.length≤1000∧H dx=some (.own a):=by
 obtain⟨d,z,ne,ob,mA,n,r,q⟩:=(show ObjOk P w H h a (.ins C dx fs) from hok a _ e)
 exact⟨mA,⟨ob,n,ne⟩,r,q,z,d⟩
end
structure Cls(K:Ua)(C:Addr):Prop where
 pg:PySem.W.plainGet K C Str.empty=true
 hd:PySem.W.hasDictIn K C=true
 po:PySem.W.plainOver K C=true
 sa:PySem.W.findIn K (.ref C) "__setattr__"=some (some (.builtin "object.__setattr__"))
theorem Cls.get{K:Ua}{C:Addr}(c:Cls K C)(f:Str):PySem.W.plainGet K C f=true:=c.pg
def NoAttr(K:Ua)(C:Addr)(f:Str):Prop:=PySem.W.findIn K (.ref C) f=some none
theorem NoAttr.taker{K:Ua}{C:Addr}{f:Str}(n:NoAttr K C f):PySem.W.takerIn K C f=some none:=by
 unfold PySem.W.takerIn
 rw[show PySem.W.findIn K (.ref C) f=some none from n]
 rfl
structure Meth(K:Ua)(C:Addr)(m:Str)(f:Addr):Prop where
 at_:PySem.W.findIn K (.ref C) m=some (some (.ref f))
 fn:PySem.W.isFn K (.ref f)=true
 kp:PySem.W.keepIn K (.ref f)=true
section
variable {X:Cx} {pins:List (Addr×Obj)} {σ:St} {H:Hp} {s:Shared} {a C dx:Addr} {fs:List (Str×V)} {f:Str} {v:V} {A:Around} {E:Value→Shared→Prop}
theorem Zsl{b:Bool}{Q:Value→Shared→Prop}(I:Inv X pins σ H s)(e:H a=some (.ins C dx fs))(c:Cls X.K C)(n:NoAttr X.K C f)(l:fs.lookup f=some v)
  (h:∀ u s',Inv X pins σ H s'→RelV v u→Q u s'):wpAny (model X.prog X.w) A (getAttr (.ref a) f b) Q E s:=by
 obtain⟨mA,O,r,_,_,_⟩:=Zjg I.hok e
 obtain⟨u,hu,ru⟩:=RelO.some_of (v:=v) (o:=mA f) (by rw[← l];exact r f)
 exact get_map I.kIn O (c.get f) c.hd n hu (Zuy ru) (h u _ (I.tok _) ru)
theorem Zfs{m:Str}{g:Addr}{pl:Sem Bool}{Q:Value×List Value→Shared→Prop}(I:Inv X pins σ H s)(e:H a=some (.ins C dx fs))(c:Cls X.K C)(k:Meth X.K C m g)(l:fs.lookup m=none)
  (h:Q (.ref g,[.ref a]) s):wpAny (model X.prog X.w) A (getMethod (.ref a) m pl) Q E s:=by
 obtain⟨mA,O,r,_,_,_⟩:=Zjg I.hok e
 have hn:mA m=none:=RelO.none_of (by rw[← l];exact r m)
 exact Zxi I.kIn O (c.get m) k.at_ k.fn hn h
theorem Zrq{y:V}{u:Value}{Q:Unit→Shared→Prop}(I:Inv X pins σ H s)(e:H a=some (.ins C dx fs))(c:Cls X.K C)(n:NoAttr X.K C f)(hl:fs.length<1000)(ry:RelV y u)
  (h:∀ s',Inv X pins σ (upd H a (.ins C dx (putF f y fs))) s'→Q () s'):wpAny (model X.prog X.w) A (setAttr (.ref a) f u) Q E s:=by
 obtain⟨mA,O,r,wi,_,ho⟩:=Zjg I.hok e
 have hz:(fs.map (·.1)).length≤sizeLine:=by rw[Uj,sizeLine_eq];omega
 refine Zyz I.kIn O c.sa c.po n.taker c.hd wi hz fun h' O' sb=>h _ ?_
 have hd:∃ o,h'.get? dx=some o:=let ⟨o,_,_,e',_⟩:=O'.ns;⟨o,e'⟩
 refine I.write (x:=a) (e:=dx) (by rw[e];exact True.intro) (.inr ho) (fun b q hb z=>(sb.2 b hb).trans z) hd ?_
 refine⟨by rw[Zn O.ne];exact ho,?_,O.ne,O'.obj,_,O'.ns,fun g=>?_,fun g hg=>?_⟩
 ·have:=Zih f y fs;omega
 ·show RelO ((putF f y fs).lookup g) (if g=f then some u else mA g)
  rw[Zif]
  by_cases q:g=f
  ·rw[if_pos q,if_pos q];exact ry
  ·rw[if_neg q,if_neg q];exact r g
 ·by_cases q:g=f
  ·rw[q];exact(Zhv f y fs).1
  ·refine(Zhv f y fs).2 g (wi g fun z=>hg ?_)
   show (if g=f then some u else mA g)=none
   rw[if_neg q];exact z
theorem Inv.made(I:Inv X pins σ H s):Inv X pins σ (upd (upd H s.heap.objs.size (.own (s.heap.objs.size+1))) (s.heap.objs.size+1) (.ins C s.heap.objs.size []))
  {s with heap:=(s.heap.push PySem.W.emptyDict).push (PySem.W.instObj C s.heap.objs.size)}:=by
 have e1:(s.heap.push PySem.W.emptyDict).get? s.heap.objs.size=some PySem.W.emptyDict:=UG s.heap rfl
 have e2:((s.heap.push PySem.W.emptyDict).push (PySem.W.instObj C s.heap.objs.size)).get? (s.heap.objs.size+1)=some (PySem.W.instObj C s.heap.objs.size):=by
  have:=UG (s.heap.push PySem.W.emptyDict) (o:=PySem.W.instObj C s.heap.objs.size) rfl
  rwa [Heap.size_push] at this
 have e3:(s.heap.push PySem.W.emptyDict).Ns s.heap.objs.size (fun _=>none):=⟨PySem.W.emptyDict,#[],_,e1,rfl,(fun e he=>absurd he (by simp)),fun _=>rfl⟩
 have I1:=I.laid (a:=s.heap.objs.size) (o := .own (s.heap.objs.size+1)) (h':=s.heap.push PySem.W.emptyDict) (t':=s.toks) (fun b u q=>Us _ q) (Up _) ⟨_,e1⟩
 refine I1.laid (a:=s.heap.objs.size+1) (o := .ins C s.heap.objs.size []) (t':=s.toks) (fun b u q=>Us _ q) (Nat.le_of_eq (Heap.size_push _ _)) ?_
 have ne:s.heap.objs.size≠s.heap.objs.size+1:=UR (Nat.lt_succ_self _)
 refine⟨by rw[Zn ne,Zb],UF _,ne,e2,fun _=>none,(Heap.Ns1.of_empty e3).at fun o q=>Us _ q,fun _=>True.intro,fun y hy=>absurd rfl hy⟩
theorem Xas{prog:Program}{w:World}{env:Env}{e:Expr}{f:Str}{pos:Pos}{s:Shared}{Q:Value→Shared→Prop}(hb:attributeBase e f env (eval e env)=eval e env)
  (h:wpAny (model prog w) A (eval e env) (fun o s₁=>wpAny (model prog w) A (getAttr o f true) Q E s₁) E s):wpAny (model prog w) A (eval (.Attribute e f pos) env) Q E s :=
 Attribute_any_ h (by rw[arm_eval_Attribute,hb])
end
def tFld(K:Ua)(ta:TE)(f:Str):TE:=fun σ H Q=>ta σ H fun x H1=>∃ a C dx fs v,x = .ref a∧H1 a=some (.ins C dx fs)∧Cls K C∧NoAttr K C f∧fs.lookup f=some v∧Q v H1
def sFld(K:Ua)(ta tv:TE)(f:Str):TS:=fun D σ H=>tv σ H fun y H1=>ta σ H1 fun x H2=>∃ a C dx fs,x = .ref a∧H2 a=some (.ins C dx fs)∧Cls K C∧NoAttr K C f∧fs.length<1000∧
 D.nx σ (upd H2 a (.ins C dx (putF f y fs)))
section
variable {X:Cx} {o e value:Expr} {f:Str} {pos pos' tpos:Pos} {ta tv:TE}
theorem Xl(he:PE X e ta)(hb:attributeBase e f X.env (eval e X.env)=eval e X.env):PE X (.Attribute e f pos) (tFld X.K ta f):=by
 intro pins s σ H Q I h
 refine Xas hb (thn (he pins s σ H _ I h) fun u s1 zq=>?_)
 obtain⟨x,H1,I1,rx,a,C,dx,fs,v,ex,ea,c,n,l,q⟩:=zq
 subst ex
 obtain rfl:u=Value.ref a:=rx
 exact Zsl I1 ea c n l fun u' s2 I2 ru=>⟨v,H1,I2,ru,q⟩
theorem Yy(ha:PE X o ta)(hv:PE X value tv)(hs:swapsWith value (some (.Attribute o f pos')) pos.line X.env=pure false):PS X (.Assign [.Attribute o f pos'] value pos) (sFld X.K ta tv f):=by
 intro pins s σ H D I h
 refine plainObj_wpAny_Assign_Attribute (thn (hv pins s σ H _ I h) fun u s1 ⟨y,H1,I1,ry,q⟩=>thn (ha pins s1 σ H1 _ I1 q) fun ov s2 zq=>?_) hs
 obtain⟨x,H2,I2,rx,a,C,dx,fs,ex,ea,c,n,l,q2⟩:=zq
 subst ex
 obtain rfl:ov=Value.ref a:=rx
 exact Zrq I2 ea c n l ry fun s3 I3=>⟨σ,_,I3,q2⟩
end
section
variable {X:Cx} {pins:List (Addr×Obj)} {σ:St} {H:Hp} {s:Shared} {A:Around} {E:Value→Shared→Prop} {Q:Value→Shared→Prop} {c:Value} {b:Bool}
inductive TyOf (K:Ua) (H:Hp):V→Value→Prop where
 | non:TyOf K H .non (.type "NoneType")
 | bl (x:Bool):TyOf K H (.bl x) (.type "bool")
 | int (i:Int):TyOf K H (.int i) (.type "int")
 | str (x:Str):TyOf K H (.str x) (.type "str")
 | flt (x:UInt64):TyOf K H (.flt x) (.type "float")
 | lst {a:Addr} {xs:List V} (e:H a=some (.lst xs)):TyOf K H (.ref a) (.type "list")
 | frz {a:Addr} {o:Obj} {xs:List V} (e:H a=some (.frz o (.lst xs))):TyOf K H (.ref a) (.type "list")
 | tup {a:Addr} {xs:List V} (e:H a=some (.tup xs)):TyOf K H (.ref a) (.type "tuple")
 | dK {a:Addr} {kvs:List (Key×V)} (e:H a=some (.dK kvs)):TyOf K H (.ref a) (.type "dict")
 | dT {a:Addr} {kvs:List (List Key×V)} (e:H a=some (.dT kvs)):TyOf K H (.ref a) (.type "dict")
 | ins {a C dx:Addr} {fs:List (Str×V)} (e:H a=some (.ins C dx fs)) (cl:Cls K C) (ha:PySem.W.findIn K (.ref C) "__class__"=some (some (.builtin "object.__class__")))
   (hn:PySem.W.specialIn K (.builtin "object.__class__") "__get__"=some (some (.builtin "getset_descriptor.__get__"))) (htk:PySem.W.takesIn K (.builtin "object.__class__")=some true)
   (hm:PySem.W.mroIn K C (.type "object")=some true):TyOf K H (.ref a) (.ref C)
theorem Zmq{x:V}{u t:Value}(I:Inv X pins σ H s)(rx:RelV x u)(ty:TyOf X.K H x t)(e:PySem.W.kitOne X.K t c=some b)(h:∀ tk,Q (.bool b) {s with toks:=tk}) :
  wpAny (model X.prog X.w) A (call (.builtin "isinstance") [u,c]) Q E s:=by
 cases ty with
 | non=>cases (show u=Value.none from rx);exact PySem.W.kia_one PySem.W.kitx_none I.kIn True.intro e (fun z=>nomatch z) h
 | bl y=>cases (show u=Value.bool y from rx);exact PySem.W.kia_one PySem.W.kitx_bool I.kIn True.intro e (fun z=>nomatch z) h
 | int i=>obtain⟨t,q⟩:=(show ∃ t,u=Value.int i t from rx);cases q;exact PySem.W.kia_one PySem.W.kitx_int I.kIn True.intro e (fun z=>nomatch z) h
 | str y=>obtain⟨t,q⟩:=(show ∃ t,u=Value.str y t from rx);cases q;exact PySem.W.kia_one PySem.W.kitx_str I.kIn True.intro e (fun z=>nomatch z) h
 | flt y=>obtain⟨t,q⟩:=(show ∃ t,u=Value.float y t from rx);cases q;exact PySem.W.kia_one PySem.W.kitx_float I.kIn True.intro e (fun z=>nomatch z) h
 | @lst a xs ea =>
  cases (show u=Value.ref a from rx)
  obtain⟨_,_,n,_,h1⟩:=(show ObjOk X.prog X.w H s.heap a (.lst xs) from I.hok a _ ea)
  exact PySem.W.kia_one PySem.W.kitx_list I.kIn ⟨_,h1,rfl⟩ e (fun z=>nomatch z) h
 | @frz a ob xs ea =>
  cases (show u=Value.ref a from rx)
  obtain⟨_,_,_,n,_,h1⟩:=(show ObjOk X.prog X.w H s.heap a (.frz ob (.lst xs)) from I.hok a _ ea)
  exact PySem.W.kia_one PySem.W.kitx_list I.kIn ⟨_,h1,rfl⟩ e (fun z=>nomatch z) h
 | @tup a xs ea =>
  cases (show u=Value.ref a from rx)
  obtain⟨_,_,_,p⟩:=(show ObjOk X.prog X.w H s.heap a (.tup xs) from I.hok a _ ea)
  obtain⟨o,h1,h2,_⟩:=p
  exact PySem.W.kia_one PySem.W.kitx_tuple I.kIn ⟨o,h1,h2⟩ e (fun z=>nomatch z) h
 | @dK a kvs ea =>
  cases (show u=Value.ref a from rx)
  obtain⟨_,_,vs,_,p⟩:=(show ObjOk X.prog X.w H s.heap a (.dK kvs) from I.hok a _ ea)
  obtain⟨o,es,ep,h1,h2,_⟩:=p
  exact PySem.W.kia_one PySem.W.kitx_dict I.kIn ⟨o,h1,h2.1⟩ e (fun z=>nomatch z) h
 | @dT a kvs ea=>exact(show False from I.hok a _ ea).elim
 | @ins a C dx fs ea cl ha hn htk hm =>
  cases (show u=Value.ref a from rx)
  obtain⟨mA,O,_⟩:=Zjg I.hok ea
  obtain⟨od,J,_⟩:=O.look
  exact PySem.W.kia_one (PySem.W.kitx_own (cl.get _) cl.hd ha hn htk hm) I.kIn J e (fun z=>nomatch z) h
end
end L2
namespace L2
open PySem PySem.Spec PyProof.Rows
structure Room(k:Nat)(A:Around):Prop where
 hd:A.handled=none
 dp:A.depth+3*k+5<recursionLimit
 un:A.units+16*k+200<cLine
theorem Room.mono{j k:Nat}{A:Around}(r:Room k A)(h:j≤k):Room j A:=⟨r.hd,by have:=r.dp;omega,by have:=r.un;omega⟩
theorem Room.deeper{k:Nat}{A:Around}(r:Room (k+1) A)(env:Env):Room k (A.deeper env) :=
 ⟨r.hd,by have:=r.dp;show A.depth+1+3*k+5<_;omega,by have:=r.un;show A.units+3+16*k+200<_;omega⟩
theorem Zse{A:Around}{C:Addr}{us:List Value}{kw:List (Str×Value)}:(A.under (.builtin "type.__call__" ⟨.ref C::us,kw⟩)).depth=A.depth+1:=by
 first | rfl | simp[Around.under,Code.weight,Code.isCreation,Code.isGuard,Code.isCaller,Code.frames,Code.isFrame,guardIds]
theorem Zsd{A:Around}{C:Addr}{us:List Value}{kw:List (Str×Value)}:(A.under (.builtin "type.__call__" ⟨.ref C::us,kw⟩)).units=A.units+1:=by
 first | rfl | simp[Around.under,Code.cUnits,Code.frames,Code.isFrame]
theorem Room.make{k:Nat}{A:Around}(r:Room (k+1) A)(C:Addr)(us:List Value)(kw:List (Str×Value)):Room k (A.under (.builtin "type.__call__" ⟨.ref C::us,kw⟩)) :=
 ⟨r.hd,by have:=r.dp;rw[Zse];omega,by have:=r.un;rw[Zsd];omega⟩
theorem Room.depth{k:Nat}{A:Around}(r:Room k A):A.depth<recursionLimit:=by have:=r.dp;omega
noncomputable def tNil:TA:=fun _ H Q=>Q [] H
noncomputable def tCons(ta:TE)(tr:TA):TA:=fun σ H Q=>ta σ H fun x H1=>tr σ H1 fun xs H2=>Q (x::xs) H2
section
variable {X:Cx} {e:Expr} {es:List Expr} {te:TE} {t:TA} {pos:Pos}
theorem Ze:PA X [] tNil:=fun _ _ _ _ H Q I h=>Calls.spliced_nil ⟨[],H,I,.nil,h⟩
theorem Za(ha:PE X e te)(hr:PA X es t)(hs:starEach (e::es) X.env=(false,eval e X.env)::starEach es X.env:=by rfl):PA X (e::es) (tCons te t):=by
 intro pos pins s σ H Q I h
 rw[hs]
 show wpAny _ _ (spliced ((false,eval e X.env)::backTo pos (starEach es X.env))) _ _ s
 refine Calls.spliced_cons (thn (ha pins s σ H _ I h) fun u s1 zq=>?_)
 obtain⟨x,H1,I1,r1,q1⟩:=zq
 refine thn (hr pos pins s1 σ H1 _ I1 q1) fun us s2 zq=>?_
 obtain⟨xs,H2,I2,r2,q2⟩:=zq
 exact ⟨x::xs,H2,I2,.cons r1 r2,q2⟩
def tTup(t:TA):TE:=fun σ H Q=>t σ H fun xs H1=>xs.length≤sizeLine∧∀ p,H1 p=none→Q (.ref p) (upd H1 p (.tup xs))
def tLst(t:TA):TE:=fun σ H Q=>t σ H fun xs H1=>xs.length≤sizeLine∧∀ p,H1 p=none→Q (.ref p) (upd H1 p (.lst xs))
theorem Yz{x1}(h:PA X es t):PE X (.Tuple es x1 pos) (tTup t):=by
 intro pins s σ H Q I hq
 refine wpAny_Tuple_spliced (thn (h pos pins s σ H _ I hq) fun us s1 zq=>?_)
 obtain⟨xs,H1,I1,r,z,q⟩:=zq
 refine ⟨by rw[← r.length];exact z,?_⟩
 have hf:H1 s1.heap.objs.size=none:=I1.hok.fresh (Up _)
 refine⟨.ref s1.heap.objs.size,upd H1 s1.heap.objs.size (.tup xs),I1.laid (t':=s1.toks) (fun b u e=>Us _ e) (Up _) ?_,rfl,q _ hf⟩
 exact⟨z,us,r,⟨_,UG _ rfl,rfl,_,rfl⟩⟩
theorem Yp(h:PA X es t):PE X (.List es pos) (tLst t):=by
 intro pins s σ H Q I hq
 refine wpAny_List_spliced (thn (h pos pins s σ H _ I hq) fun us s1 zq=>?_)
 obtain⟨xs,H1,I1,r,z,q⟩:=zq
 refine ⟨by rw[← r.length];exact z,?_⟩
 have hf:H1 s1.heap.objs.size=none:=I1.hok.fresh (Up _)
 refine⟨.ref s1.heap.objs.size,upd H1 s1.heap.objs.size (.lst xs),I1.laid (t':=s1.toks) (fun b u e=>Us _ e) (Up _) ?_,rfl,q _ hf⟩
 exact⟨z,us,0,r,UG _ rfl⟩
end
noncomputable abbrev Sp:=List V→Hp→VK→XK→Prop
noncomputable abbrev CXT:=List Env→Hp→Shared→XK→Value→Shared→Prop
structure Env0(P:Program)(w:World)(K:Ua)(mg:Str→Option Value)(base:Heap)(A:Around)(outer:List Env)(s:Shared)(H:Hp):Prop where
 frames:A.frames=some outer
 mod:Mod K mg base
 bs:∀ b o,base.get? b=some o→s.heap.get? b=some o∧H b=none
 bsz:base.objs.size≤s.heap.objs.size
 funs:s.heap.FunFrames base outer
 frf:∀ b∈frs outer,H b=none
 hok:HOk P w H s.heap
 bare:AllBare s.gens
def CE(outer:List Env)(P:Program)(w:World)(H:Hp)(s:Shared)(Q:VK)(u:Value)(s':Shared):Prop :=
 ∃ v H',s'.os=s.os∧AllBare s'.gens∧Un (frs outer) [] H H' s.heap s'.heap∧HOk P w H' s'.heap∧RelV v u∧Q v H'
def CR(CX:CXT)(outer:List Env)(P:Program)(w:World)(H:Hp)(s:Shared)(Q:VK)(E:XK)(r:Result)(s':Shared):Prop :=
 match r with
 | .ok (.ret u)=>CE outer P w H s Q u s'
 | .ok _=>False
 | .error e=>CX outer H s E e s'
structure FnOk(P:Program)(w:World)(K:Ua)(mg:Str→Option Value)(base:Heap)(CX:CXT)(k:Nat)(f:Addr)(fd:FuncData)(ps:List Str)(sp:Sp):Prop where
 len:∀ vs H Q E,sp vs H Q E→vs.length=ps.length
 run:∀ (A:Around) (outer:List Env) (s:Shared) (H:Hp) (args:Args) (us:List Value) (vs:List V) (Q:VK) (E:XK),Room k A→Env0 P w K mg base A outer s H→BindsTo s fd args (ps.zip us)→Vals vs us→sp vs H Q E→
  codeAny (model P w) A (.call (.ref f) args) (CR CX outer P w H s Q E) s
theorem FnOk.mono{P:Program}{w:World}{K:Ua}{mg:Str→Option Value}{base:Heap}{CX:CXT}{j k:Nat}{f:Addr}{fd:FuncData}{ps:List Str}{sp:Sp}(F:FnOk P w K mg base CX j f fd ps sp)(h:j≤k) :
  FnOk P w K mg base CX k f fd ps sp:=⟨F.len,fun A outer s H args us vs Q E hr=>F.run A outer s H args us vs Q E (hr.mono h)⟩
theorem Env0.make{P:Program}{w:World}{K:Ua}{mg:Str→Option Value}{base:Heap}{A:Around}{outer:List Env}{s:Shared}{H:Hp}(e:Env0 P w K mg base A outer s H)(C:Addr)(us:List Value)(kw:List (Str×Value)) :
  Env0 P w K mg base (A.under (.builtin "type.__call__" ⟨.ref C::us,kw⟩)) outer s H:=⟨by first | exact e.frames | (simpa [Around.under,Code.envs,Code.isFrame,pushEnvs] using e.frames),e.mod,e.bs,e.bsz,e.funs,e.frf,e.hok,e.bare⟩
section
variable {X:Cx} {pins:List (Addr×Obj)} {σ:St} {H:Hp} {s s':Shared}
theorem Inv.env0(I:Inv X pins σ H s):Env0 X.prog X.w X.K X.mg X.base X.A X.stack s H :=
 ⟨I.ok.frames,I.ok.mod,I.bs,UC I.ok.bsz I.sz,I.stack,I.stkFree,I.hok,I.bare⟩
theorem Inv.after{Q:VK}{u:Value}(I:Inv X pins σ H s)(h:CE X.stack X.prog X.w H s Q u s'):EP X pins σ Q u s':=by
 obtain⟨v,H',os,bare,un,hok,r,q⟩:=h
 obtain⟨hh,g,d,t,os'⟩:=s'
 obtain rfl:os'=s.os:=os
 exact⟨v,H',I.call (h':=hh) (g':=g) (d':=d) (t':=t) (ch:=[]) un hok bare (fun b z=>absurd z (by simp)),r,q⟩
end
def tCall(sp:Sp)(dvs:List V)(E:XK)(t:TA):TE:=fun σ H Q=>t σ H fun vs H1=>sp (vs++dvs) H1 Q E
def tMeth(C:Addr)(m:Str)(sp:Sp)(dvs:List V)(E:XK)(ta:TE)(t:TA):TE:=fun σ H Q=>ta σ H fun x H1=>∃ a dx fs,x = .ref a∧H1 a=some (.ins C dx fs)∧fs.lookup m=none∧
 t σ H1 fun vs H2=>sp (x::(vs++dvs)) H2 Q E
def tMake(C:Addr)(sp:Sp)(dvs:List V)(E:XK)(t:TA):TE:=fun σ H Q=>t σ H fun vs H1=>∀ x dx,H1 x=none→H1 dx=none→dx≠x→
 sp (.ref x::(vs++dvs)) (upd (upd H1 dx (.own x)) x (.ins C dx [])) (fun v H2=>v = .non∧Q (.ref x) H2) E
def Binds(K:Ua)(fd:FuncData)(ps:List Str)(ds:List Value):Prop :=
 ∀ (s:Shared) (us:List Value),K.In s.heap→(us++ds).length=ps.length→BindsTo s fd ⟨us,[]⟩ (ps.zip (us++ds))
theorem Binds.all{K:Ua}{fd:FuncData}{ps:List Str}(h:∀ us:List Value,us.length=ps.length→bindArgs fd ⟨us,[]⟩=pure (ps.zip us)):Binds K fd ps []:=fun s us _ hl=>by
 rw[List.append_nil] at hl ⊢
 exact .of_eq (h us hl)
def Passes(CX:CXT)(X:Cx)(E:XK):Prop:=∀ (pins:List (Addr×Obj)) (σ:St) (H:Hp) (s:Shared) (e:Value) (s':Shared),Inv X pins σ H s→CX X.stack H s E e s'→X.xe e s'
section
variable {X:Cx} {CX:CXT} {k:Nat} {f C:Addr} {fd:FuncData} {ps:List Str} {sp:Sp} {dvs:List V} {ds:List Value} {E:XK} {x m:Str} {p pos apos:Pos} {e o:Expr} {es:List Expr} {ta:TE} {t:TA}
theorem Znz{pins:List (Addr×Obj)}{σ:St}{H:Hp}{s:Shared}{Q:VK}{us:List Value}{vs:List V}(F:FnOk X.prog X.w X.K X.mg X.base CX k f fd ps sp)(hr:Room k X.A)(hb:Binds X.K fd ps ds)(hd:Vals dvs ds)(hx:Passes CX X E)
  (I:Inv X pins σ H s) (r:Vals vs us) (h:sp (vs++dvs) H Q E):wpAny (model X.prog X.w) X.A (call (.ref f) us) (EP X pins σ Q) X.xe s:=by
 have r2:Vals (vs++dvs) (us++ds):=r.append hd
 have hl:(us++ds).length=ps.length:=by rw[← r2.length];exact F.len _ _ _ _ h
 refine wpAny_call (codeAny_mono (F.run X.A X.stack s H ⟨us,[]⟩ (us++ds) (vs++dvs) Q E hr I.env0 (hb s us I.kIn hl) r2 h) fun r s' hq=>?_)
 cases r with
 | error e=>exact hx pins σ H s e s' I hq
 | ok fl =>
  cases fl with
  | ret u=>exact I.after hq
  | next=>exact False.elim hq
  | brk=>exact False.elim hq
  | cont=>exact False.elim hq
theorem Zzk(F:FnOk X.prog X.w X.K X.mg X.base CX k f fd ps sp)(hr:Room k X.A)(hg:Gl X x)(hm:X.mg x=some (.ref f))(hk:PySem.W.keepIn X.K (.ref f)=true)(hb:Binds X.K fd ps ds)(hd:Vals dvs ds)(hx:Passes CX X E)
  (ha:PA X (e::es) t) (hdb:(x == ("__debug__":Str))=false:=by decide) (he:starEach (e::es) X.env=(false,eval e X.env)::starEach es X.env:=by rfl) (hpl:(backTo pos (starEach es X.env)).any (·.1)=false:=by rfl) :
  PE X (.Call (.Name x p) (e::es) [] pos) (tCall sp dvs E t):=by
 intro pins s σ H Q I h
 refine wpAny_Call_Name_kw (Zjf I hg hm ?_ hdb)
 refine PySem.W.callWith_K (h₀:=X.base) I.ok.mod.kin hk (thn (ha pos pins s σ H _ I h) fun us s1 zq=>?_) he hpl
 obtain⟨vs,H1,I1,r,q⟩:=zq
 refine ⟨I1.kIn,?_⟩
 exact Znz F hr hb hd hx I1 r q
theorem Zzh{pl:Sem Bool}(he:PE X o ta)(c:Cls X.K C)(hm:Meth X.K C m f)(F:FnOk X.prog X.w X.K X.mg X.base CX k f fd ps sp)(hr:Room k X.A)(hb:Binds X.K fd ps ds)(hd:Vals dvs ds)(hx:Passes CX X E)(ha:PA X (e::es) t)
  (hst:starEach (e::es) X.env=(false,eval e X.env)::starEach es X.env:=by rfl) (hpl:(backTo pos (starEach es X.env)).any (·.1)=false:=by rfl)
  (ht:eval (.Call (.Attribute o m apos) (e::es) [] pos) X.env=(do
   let ov ← eval o X.env
   standAt apos.atName
   let (f,first) ← holding [ov] (getMethod ov m pl)
   callWith pos f first (backTo pos (starEach (e::es) X.env)) (backToKw pos (keywordEach [] X.env))):=by rfl) :
  PE X (.Call (.Attribute o m apos) (e::es) [] pos) (tMeth C m sp dvs E ta t):=by
 intro pins s σ H Q I h
 refine PySem.W.methodCall_KW (pl:=pl) (thn (he pins s σ H _ I h) fun u s1 zq=>?_) ht
 obtain⟨x,H1,I1,rx,a,dx,fs,ex,ea,l,q⟩:=zq
 subst ex
 obtain rfl:u=Value.ref a:=rx
 refine Zfs I1 ea c hm l ?_
 refine PySem.W.callWith_K (first:=[.ref a]) (h₀:=X.base) I.ok.mod.kin hm.kp (thn (ha pos pins s1 σ H1 _ I1 q) fun us s2 zq=>?_) hst hpl
 obtain⟨vs,H2,I2,r,q2⟩:=zq
 refine ⟨I2.kIn,?_⟩
 exact Znz (us := .ref a::us) (vs := .ref a::vs) F hr hb hd hx I2 (.cons rfl r) q2
theorem Zwt{pl:Sem Bool}(he:PE X o ta)(c:Cls X.K C)(hm:Meth X.K C m f)(F:FnOk X.prog X.w X.K X.mg X.base CX k f fd ps sp)(hr:Room k X.A)(hb:Binds X.K fd ps ds)(hd:Vals dvs ds)(hx:Passes CX X E)
  (ht:eval (.Call (.Attribute o m apos) [] [] pos) X.env=(do
   let ov ← eval o X.env
   standAt apos.atName
   let (f,first) ← holding [ov] (getMethod ov m pl)
   callWith pos f first (backTo pos (starEach [] X.env)) (backToKw pos (keywordEach [] X.env))):=by rfl) :
  PE X (.Call (.Attribute o m apos) [] [] pos) (tMeth C m sp dvs E ta tNil):=by
 intro pins s σ H Q I h
 refine PySem.W.methodCall_KW (pl:=pl) (thn (he pins s σ H _ I h) fun u s1 zq=>?_) ht
 obtain⟨x,H1,I1,rx,a,dx,fs,ex,ea,l,q⟩:=zq
 subst ex
 obtain rfl:u=Value.ref a:=rx
 refine Zfs I1 ea c hm l ?_
 exact PySem.W.callWith_K0 (first:=[.ref a]) I1.kIn hm.kp (Znz (us:=[.ref a]) (vs:=[.ref a]) F hr hb hd hx I1 (.cons rfl .nil) q)
structure Mk(K:Ua)(C f:Addr):Prop where
 makes:PySem.W.makesIn K C=true
 init:PySem.W.findIn K (.ref C) "__init__"=some (some (.ref f))
 fn:PySem.W.isFn K (.ref f)=true
 kp:PySem.W.keepIn K (.ref C)=true
theorem Zwi{pins:List (Addr×Obj)}{σ:St}{H:Hp}{s:Shared}{Q:VK}{us:List Value}{vs:List V}(M:Mk X.K C f)(F:FnOk X.prog X.w X.K X.mg X.base CX k f fd ps sp)(hr:Room (k+1) X.A)(hb:Binds X.K fd ps ds)(hd:Vals dvs ds)
  (hx:Passes CX X E) (I:Inv X pins σ H s) (r:Vals vs us)
  (h:∀ x dx,H x=none→H dx=none→dx≠x→sp (.ref x::(vs++dvs)) (upd (upd H dx (.own x)) x (.ins C dx [])) (fun v H2=>v = .non∧Q (.ref x) H2) E) :
  wpAny (model X.prog X.w) X.A (call (.ref C) us) (EP X pins σ Q) X.xe s:=by
 have hq:=h (s.heap.objs.size+1) s.heap.objs.size (I.hok.fresh (Nat.le_succ _)) (I.hok.fresh (Up _)) (UR (Nat.lt_succ_self _))
 have I2:=Inv.made (C:=C) I
 have r2:Vals (V.ref (s.heap.objs.size+1)::(vs++dvs)) (Value.ref (s.heap.objs.size+1)::(us++ds)) := .cons rfl (r.append hd)
 have hl:(Value.ref (s.heap.objs.size+1)::us++ds).length=ps.length:=by
  have e:=r2.length
  rw[F.len _ _ _ _ hq] at e
  exact e.symm
 refine wpAny_call (Zxc (f:=f) I.kIn M.makes M.init (beq_iff_eq.mp M.fn) (codeAny_mono (F.run _ X.stack _ _ ⟨Value.ref (s.heap.objs.size+1)::us,[]⟩ (Value.ref (s.heap.objs.size+1)::(us++ds)) _ _ E (hr.make C us [])
  (I2.env0.make C us []) (hb _ (Value.ref (s.heap.objs.size+1)::us) I2.kIn hl) r2 hq) fun r s' hq'=>?_))
 cases r with
 | error e=>exact hx pins σ _ _ e s' I2 hq'
 | ok fl =>
  cases fl with
  | ret u =>
   obtain⟨v,H',I3,rv,ev,q3⟩:=I2.after hq'
   subst ev
   exact⟨rv,⟨V.ref (s.heap.objs.size+1),H',I3,rfl,q3⟩⟩
  | next=>exact False.elim hq'
  | brk=>exact False.elim hq'
  | cont=>exact False.elim hq'
theorem Zzi(M:Mk X.K C f)(F:FnOk X.prog X.w X.K X.mg X.base CX k f fd ps sp)(hr:Room (k+1) X.A)(hg:Gl X x)(hm:X.mg x=some (.ref C))(hb:Binds X.K fd ps ds)(hd:Vals dvs ds)(hx:Passes CX X E)
  (ha:PA X (e::es) t) (hdb:(x == ("__debug__":Str))=false:=by decide) (he:starEach (e::es) X.env=(false,eval e X.env)::starEach es X.env:=by rfl) (hpl:(backTo pos (starEach es X.env)).any (·.1)=false:=by rfl) :
  PE X (.Call (.Name x p) (e::es) [] pos) (tMake C sp dvs E t):=by
 intro pins s σ H Q I h
 refine wpAny_Call_Name_kw (Zjf I hg hm ?_ hdb)
 refine PySem.W.callWith_K (h₀:=X.base) I.ok.mod.kin M.kp (thn (ha pos pins s σ H _ I h) fun us s1 zq=>?_) he hpl
 obtain⟨vs,H1,I1,r,q⟩:=zq
 refine ⟨I1.kIn,?_⟩
 exact Zwi M F hr hb hd hx I1 r q
end
structure FnScope(N P:List Str)(sc:Scope):Prop where
 kind:sc.kind = .function
 co:sc.isCoroutine=false
 gen:sc.isGenerator=false
 nd:N.Nodup
 pre:N.take P.length=P
 par:∀ x∈P,sc.names.lookup x=some .local∨sc.names.lookup x=some .cell
 nofree:∀ y∈sc.names,y.2≠.free
theorem Znc{kindOf:Str→Option NameKind}{x:Str}:∀ {binds:List (Str×Value)} {m:Str→Option Value},(∀ v,(x,v)∉binds)→bindL kindOf binds m x=m x
 | [],_,_=>rfl
 | (n,v)::r,m,h=>by
  unfold bindL
  rw[Znc fun w hw=>h w (Ul _ hw)]
  split
  ·have:x≠n:=by rintro rfl;exact h v Ux
   simp[this]
  ·rfl
theorem Zne{kindOf:Str→Option NameKind}{x:Str}:∀ {binds:List (Str×Value)} {m:Str→Option Value},(∀ v,(x,v)∉binds)→bindC kindOf binds m x=m x
 | [],_,_=>rfl
 | (n,v)::r,m,h=>by
  unfold bindC
  rw[Zne fun w hw=>h w (Ul _ hw)]
  split
  ·rfl
  ·have:x≠n:=by rintro rfl;exact h v Ux
   simp[this]
theorem Znd{kindOf:Str→Option NameKind}{x:Str}{v:Value}:∀ {P:List Str} {vs:List Value} {i:Nat} {m:Str→Option Value},P.Nodup→P[i]?=some x→vs[i]?=some v→kindOf x=some .local→
  bindL kindOf (P.zip vs) m x=some v
 | [],_,_,_,_,h,_,_=>by simp at h
 | _::_,[],_,_,_,_,h,_=>by simp at h
 | p::P,w::vs,0,m,nd,h1,h2,hk=>by
  simp at h1 h2;subst h1;subst h2
  show bindL kindOf ((p,w)::P.zip vs) m p=_
  unfold bindL
  rw[Znc fun v hv=>(List.nodup_cons.mp nd).1 (List.of_mem_zip hv).1,if_pos hk]
  simp
 | p::P,w::vs,i+1,m,nd,h1,h2,hk=>by
  show bindL kindOf ((p,w)::P.zip vs) m x=_
  unfold bindL
  exact Znd (i:=i) (List.nodup_cons.mp nd).2 (by simpa using h1) (by simpa using h2) hk
theorem Znf{kindOf:Str→Option NameKind}{x:Str}{v:Value}:∀ {P:List Str} {vs:List Value} {i:Nat} {m:Str→Option Value},P.Nodup→P[i]?=some x→vs[i]?=some v→kindOf x≠some .local→
  bindC kindOf (P.zip vs) m x=some v
 | [],_,_,_,_,h,_,_=>by simp at h
 | _::_,[],_,_,_,_,h,_=>by simp at h
 | p::P,w::vs,0,m,nd,h1,h2,hk=>by
  simp at h1 h2;subst h1;subst h2
  show bindC kindOf ((p,w)::P.zip vs) m p=_
  unfold bindC
  rw[Zne fun v hv=>(List.nodup_cons.mp nd).1 (List.of_mem_zip hv).1,if_neg hk]
  simp
 | p::P,w::vs,i+1,m,nd,h1,h2,hk=>by
  show bindC kindOf ((p,w)::P.zip vs) m x=_
  unfold bindC
  exact Znf (i:=i) (List.nodup_cons.mp nd).2 (by simpa using h1) (by simpa using h2) hk
noncomputable def start(N:List Str)(vs:List V):St:=vs.map some++List.replicate (N.length - vs.length) none
noncomputable def cxOf(CX:CXT)(P:Program)(w:World)(K:Ua)(mg:Str→Option Value)(base:Heap)(N:List Str)(qual:Str)(scope:Scope)(f:Addr)(cd:Value)(A:Around)(outer:List Env)(s:Shared)(H:Hp)(E:XK):Cx where
 prog:=P
 w:=w
 K:=K
 mg:=mg
 base:=base
 A:=A.deeper (envOfC qual scope s.heap.objs.size f cd)
 N:=N
 s₀:=s
 H₀:=H
 env:=envOfC qual scope s.heap.objs.size f cd
 outer:=outer
 stack:=envOfC qual scope s.heap.objs.size f cd::outer
 ex:=[]
 calm:=true
 fn:=fun _=>true
 pn:=[]
 xe:=fun e s'=>wpAny (model P w) (A.deeper (envOfC qual scope s.heap.objs.size f cd)) (leaving (envOfC qual scope s.heap.objs.size f cd) e) (fun _ s''=>CX outer H s E e s'') (fun e' s''=>CX outer H s E e' s'') s'
theorem Zrg{sc:Scope}{n:Nat}{x:Str}(h:sc.names.lookup x=some .cell):∃ c,(cellsFrom n sc.names []).lookup x=some c:=by
 have q:=PySem.W.cellsFrom_some sc.names n [] (.inl h)
 exact Option.isSome_iff_exists.mp q
theorem Zuu{CX:CXT}{P:Program}{w:World}{K:Ua}{mg:Str→Option Value}{base:Heap}{N ps:List Str}{qual:Str}{scope:Scope}{f:Addr}{cd:Value}{A:Around}{outer:List Env}{s s1:Shared}{H:Hp}{E:XK}{us:List Value}{vs:List V}
  (S:FnScope N ps scope) (hd:A.handled=none) (e0:Env0 P w K mg base A outer s H) (hl:vs.length=ps.length) (r:Vals vs us)
  (x:InCallC s s.heap.objs.size (bindL (envOfC qual scope s.heap.objs.size f cd).kindOf (ps.zip us) fun _=>none) (cellsFrom (s.heap.objs.size+1) scope.names []) (bindC (envOfC qual scope s.heap.objs.size f cd).kindOf (ps.zip us) fun _=>none) s1) :
  Inv (cxOf CX P w K mg base N qual scope f cd A outer s H E) [] (start N vs) H s1:=by
 have hpl:ps.length≤N.length:=by have:=congrArg List.length S.pre;rw[US] at this;omega
 obtain⟨h1,tk,rfl,hk⟩:=x.done
 have noA:∀ b:Addr,b∉(cxOf CX P w K mg base N qual scope f cd A outer s H E).ex:=fun b z=>absurd (show b∈([]:List Addr) from z) (by simp)
 refine⟨⟨e0.mod,S.kind,rfl,rfl,Up _,fun y z c h1 h2=>?_,fun y hy=>?_,fun y c _ h=>?_,fun _=>hd,Around.frames_deeper e0.frames,.inr ⟨rfl,rfl⟩,fun b z=>absurd z (noA b),e0.bs,e0.bsz,fun b _ _=>noA b,fun b z=>absurd z (noA b),e0.funs,e0.frf⟩,
  rfl,e0.bare,Un.kept hk,⟨_,x.toInCall.ns,fun i y v h1 h2 h3=>?_⟩,fun y c h=>⟨_,x.cell y c h⟩,e0.hok.fresh (Up _),fun y c h=>?_,fun p hp=>absurd (show p∈([]:List (Addr×Obj)) from hp) (by simp),e0.hok.kept hk,?_⟩
 ·exact name_of_addr x.apart (PySem.mem_of_lookup h1) (PySem.mem_of_lookup h2)
 ·have hy:scope.names.lookup y=some .cell∨scope.names.lookup y=some .free:=hy
  rcases hy with hy | hy
  ·exact Zrg hy
  ·exact absurd rfl (S.nofree _ (PySem.mem_of_lookup hy))
 ·exact Nat.le_of_lt (x.above y c (PySem.mem_of_lookup h))
 ·have hi:i<vs.length:=by
   unfold start at h2
   by_cases hi:i<vs.length
   ·exact hi
   ·rw[List.getElem?_append_right (by simpa using hi)] at h2
    rw[List.getElem?_replicate] at h2
    split at h2<;>cases h2
  have ha:vs[i]?=some v:=by
   unfold start at h2
   rw[List.getElem?_append_left (by simpa using hi),Ur] at h2
   cases e:vs[i]? with
   | none=>rw[e] at h2;cases h2
   | some a=>rw[e] at h2;cases h2;rfl
  obtain⟨u,hu,rv⟩:=r.get ha
  have hp:ps[i]?=some y:=by
   rw[← S.pre,List.getElem?_take_of_lt (by omega)];exact h1
  have ndP:ps.Nodup:=by rw[← S.pre];exact S.nd.sublist (List.take_sublist _ _)
  refine⟨u,rv,?_⟩
  rcases S.par y (Uv hp) with k | k
  ·exact .inl ⟨k,Znd ndP hp hu k⟩
  ·obtain⟨c,e⟩:=Zrg (n:=s.heap.objs.size+1) k
   refine .inr ⟨.inl k,c,e,?_⟩
   have q:=x.cell y c e
   rw[Znf ndP hp hu (by show scope.names.lookup y≠_;rw[k];decide)] at q
   exact q
 ·exact e0.hok.fresh (Nat.le_of_lt (x.above y c (PySem.mem_of_lookup h)))
 ·unfold start
  show _=N.length
  rw[Uo,Uj,List.length_replicate]
  omega
theorem Xck{CX:CXT}{P:Program}{w:World}{K:Ua}{mg:Str→Option Value}{base:Heap}{k:Nat}{f:Addr}{name qual:Str}{params:Arguments}{body:List Stmt}{scope:Scope}{dV kV doc pm cdv ct oc:Value}{an od:Option Addr}
  {osl:Array (Option Value)} {N ps:List Str} {sp:Sp} (lk:K.lookup f=some ⟨oc,od,.func (PySem.W.fnOf name qual params body scope dV kV doc pm an cdv ct),osl⟩) (hcd:PySem.W.codeIn K cdv qual=true) (S:FnScope N ps scope)
  (len:∀ vs H Q E,sp vs H Q E→vs.length=ps.length)
  (hbody:∀ (A:Around) (outer:List Env) (s:Shared) (H:Hp) (vs:List V) (Q:VK) (E:XK),Room k (A.deeper (envOfC qual scope s.heap.objs.size f cdv))→sp vs H Q E→
   ∃ t,PSs (cxOf CX P w K mg base N qual scope f cdv A outer s H E) body t∧t {nx:=fun _ H'=>Q .non H',rt:=Q} (start N vs) H) :
  FnOk P w K mg base CX (k+1) f (PySem.W.fnOf name qual params body scope dV kV doc pm an cdv ct) ps sp:=by
 refine⟨len,fun A outer s H args us vs Q E hr e0 hb r hsp=>?_⟩
 have hl:=len _ _ _ _ hsp
 have KX:K.In s.heap:=e0.mod.kin.keeps fun b o e=>(e0.bs b o e).1
 have lim:s.heap.NoLimit:=e0.mod.nolimit.keeps fun b o e=>(e0.bs b o e).1
 have hkind:∀ y∈ps.zip us,scope.names.lookup y.1=some .local∨(scope.names.lookup y.1=some .cell∧((cellsFrom (s.heap.objs.size+1) scope.names []).lookup y.1).isSome=true):=fun⟨n,v⟩ hy=>by
  rcases S.par n (List.of_mem_zip hy).1 with q | q
  ·exact .inl q
  ·exact .inr ⟨q,PySem.W.cellsFrom_some _ _ _ (.inl q)⟩
 refine codeAny_call_function hr.depth (KX _ _ lk) rfl S.co S.gen rfl (PySem.W.codeRec_of KX hcd) (hb _ _ _ _ ?_)
 refine wpAny_newFunctionEnv_cells S.kind hkind fun env he s1 x=>?_
 subst he
 refine⟨lim.keeps x.toInCall.keep,codeAny_func ?_⟩
 obtain⟨t,ht,hq⟩:=hbody A outer s H vs Q E (hr.deeper _) hsp
 have I:Inv (cxOf CX P w K mg base N qual scope f cdv A outer s H E) [] (start N vs) H s1:=Zuu S hr.hd e0 hl r x
 refine wpAny_mono (ht [] s1 (start N vs) H _ I hq) (fun fl s' hs=>?_) fun e s' hs=>hs
 have fin:∀ {σ':St} {H':Hp} {v:V} {u:Value},Inv (cxOf CX P w K mg base N qual scope f cdv A outer s H E) [] σ' H' s'→RelV v u→Q v H'→CE outer P w H s Q u s' :=
  fun {σ' H' v u} J rv q=>⟨v,H',J.os,J.bare,J.base,J.hok,rv,q⟩
 cases fl with
 | ret u =>
  obtain⟨v,σ',H',J,rv,q⟩:=hs
  exact fin J rv q
 | next =>
  obtain⟨σ',H',J,q⟩:=hs
  exact fin (v:=V.non) (u:=Value.none) J rfl q
 | brk =>
  obtain⟨_,_,_,q⟩:=hs
  exact False.elim q
 | cont =>
  obtain⟨_,_,_,q⟩:=hs
  exact False.elim q
end L2
namespace L2
open PySem PySem.Spec PyProof.Rows
section
variable {X:Cx} {x:Str} {p pos:Pos} {e:Expr} {es:List Expr} {t:TA} {id T:String} {r:List V→Hp→VK→Prop}
def tCB(r:List V→Hp→VK→Prop)(t:TA):TE:=fun σ H Q=>t σ H fun vs H1=>r vs H1 Q
theorem Zm(hc:CallR X (.builtin id) r)(hg:Gl X x)(hm:X.mg x=none)(hv:bootBuiltins x=some (.builtin id))(ha:PA X (e::es) t)(hn:x≠"__name__":=by decide)(hdb:(x == ("__debug__":Str))=false:=by decide)
  (he:starEach (e::es) X.env=(false,eval e X.env)::starEach es X.env:=by rfl) (hpl:(backTo pos (starEach es X.env)).any (·.1)=false:=by rfl):PE X (.Call (.Name x p) (e::es) [] pos) (tCB r t):=by
 intro pins s σ H Q I h
 refine wpAny_Call_Name_kw (Zbu I hg hm hv ?_ hn hdb)
 refine PyProof.Rows.callWith_builtin1 (thn (ha pos pins s σ H _ I h) fun us s1 zq=>?_) he hpl
 obtain⟨vs,H1,I1,r1,q1⟩:=zq
 exact hc pins s1 σ H1 vs us Q I1 r1 q1
theorem Wc(hc:CallR X (.type T) r)(hg:Gl X x)(hm:X.mg x=none)(hv:bootBuiltins x=some (.type T))(ha:PA X (e::es) t)(hn:x≠"__name__":=by decide)(hdb:(x == ("__debug__":Str))=false:=by decide)
  (he:starEach (e::es) X.env=(false,eval e X.env)::starEach es X.env:=by rfl) (hpl:(backTo pos (starEach es X.env)).any (·.1)=false:=by rfl):PE X (.Call (.Name x p) (e::es) [] pos) (tCB r t):=by
 intro pins s σ H Q I h
 refine wpAny_Call_Name_kw (Zbu I hg hm hv ?_ hn hdb)
 refine PyProof.Rows.callWith_type1 (thn (ha pos pins s σ H _ I h) fun us s1 zq=>?_) he hpl
 obtain⟨vs,H1,I1,r1,q1⟩:=zq
 exact hc pins s1 σ H1 vs us Q I1 r1 q1
end
end L2
namespace HT
open PySem PyProof.Rows
noncomputable def lexLt:List Int→List Int→Bool
 | [],[]=>false
 | [],_::_=>true
 | _::_,[]=>false
 | x::xs,y::ys=>if x=y then lexLt xs ys else decide (x<y)
theorem lexLt_cons(x y:Int)(xs ys:List Int):lexLt (x::xs) (y::ys)=if x=y then lexLt xs ys else decide (x<y):=rfl
theorem Zkt(y:Int)(ys:List Int):lexLt [] (y::ys)=true:=rfl
theorem Zku(x:Int)(xs:List Int):lexLt (x::xs) []=false:=rfl
theorem Zwo(A:Around)(s:Shared)(a:Int)(t:Tok)(c:Int)(u:Tok)(prog:Program)(w:World)(E:Value→Shared→Prop)(Q:Value→Shared→Prop)(h:Q (.bool (decide (a<c))) s) :
  wpAny (model prog w) A (richCompare .Lt (.int a t) (.int c u)) Q E s :=
 (PyProof.Rows.lt_int h:wpAny (model prog w) A (compareOp .Lt (.int a t) (.int c u)) Q E s)
section
open PySem.SeqAt
open PySem.AutoSeq1 (wpAny_loadPart')
open PySem.MeetsSeq PySem.MeetsSeq2 PySem.MeetsSeq3
end
section
variable {prog:Program} {w:World} {A:Around} {E:Value→Shared→Prop} {s:Shared}
noncomputable def sIx(n d:Nat):Option Int→Nat
 | none=>d
 | some v=>if v<0 then (v+(n:Int)).toNat else min v.toNat n
theorem sIx_none(n d:Nat):sIx n d none=d:=rfl
theorem sIx_nat(n d k:Nat):sIx n d (some (k:Int))=min k n:=by
 show (if (k:Int)<0 then ((k:Int)+(n:Int)).toNat else min (k:Int).toNat n)=min k n
 rw[if_neg (by omega),Int.toNat_natCast]
theorem sIx_le(n d:Nat)(hd:d≤n)(o:Option Int):sIx n d o≤n:=by
 cases o with
 | none=>exact hd
 | some v =>
  show (if v<0 then (v+(n:Int)).toNat else min v.toNat n)≤n
  by_cases hv:v<0
  ·rw[if_pos hv];omega
  ·rw[if_neg hv];exact Nat.min_le_right _ _
end
end HT
namespace L2
open PySem PySem.Spec PyProof.Rows
noncomputable abbrev TO:=St→Hp→(Option Int→Hp→Prop)→Prop
def PO(X:Cx)(e:Option Expr)(t:TO):Prop :=
 ∀ (pins:List (Addr×Obj)) (s:Shared) (σ:St) (H:Hp) (Q:Option Int→Hp→Prop),Inv X pins σ H s→t σ H Q→
  wpAny (model X.prog X.w) X.A (evalPart e X.env) (fun u s'=>∃ o H',Inv X pins σ H' s'∧IsPart u o∧Q o H') X.xe s
noncomputable def tNoPart:TO:=fun _ H Q=>Q none H
noncomputable def tPart(t:TE):TO:=fun σ H Q=>t σ H fun x H1=>∃ i,x = .int i∧Q (some i) H1
theorem Zdb{ns:List Int}:∀ {us:List Value},Vals (ns.map V.int) us→IntsAre us ns:=by
 induction ns with
 | nil=>intro us r;rw[List.map_nil] at r;cases r;exact .nil
 | cons n ns ih =>
  intro us r
  rw[UP] at r
  cases r with
  | cons r1 r2 =>
   obtain⟨t,e⟩:=r1
   subst e
   exact .cons n t (ih r2)
section
variable {X:Cx} {e:Expr} {te:TE} {lo hi:Option Expr} {tl th:TO} {pos p2:Pos}
theorem Zcy:PO X none tNoPart:=by
 intro pins s σ H Q I h
 rw[evalPart_none]
 exact wpAny_pure ⟨none,H,I,.none,h⟩
theorem Zcx(h:PE X e te):PO X (some e) (tPart te):=by
 intro pins s σ H Q I hw
 rw[evalPart_some]
 refine thn (h pins s σ H _ I hw) fun u s1 zq=>?_
 obtain⟨x,H1,I1,r1,q1⟩:=zq
 obtain⟨i,rfl,q⟩:=q1
 obtain⟨t,rfl⟩:=r1
 exact⟨some i,H1,I1,.int i t,q⟩
def SlR(X:Cx)(r:V→Option Int→Option Int→Hp→VK→Prop):Prop :=
 ∀ (pins:List (Addr×Obj)) (s:Shared) (σ:St) (H:Hp) (x:V) (v vl vu:Value) (lo hi:Option Int) (sl:Addr) (Q:VK),Inv X pins σ H s→RelV x v→s.heap.IsSliceOf sl vl vu .none→IsPart vl lo→IsPart vu hi→r x lo hi H Q→
  ∃ T id,typeLookup (.type T) "__getitem__"=pure (some (.builtin id))∧s.TypeIs v T∧wpAny (model X.prog X.w) X.A (getItem v (.ref sl)) (EP X pins σ Q) X.xe s
theorem SlR.or{r r':V→Option Int→Option Int→Hp→VK→Prop}(h:SlR X r)(h':SlR X r'):SlR X (fun x lo hi H Q=>r x lo hi H Q∨r' x lo hi H Q):=by
 intro pins s σ H x v vl vu lo hi sl Q I rx hs pl pu q
 rcases q with q | q
 ·exact h pins s σ H x v vl vu lo hi sl Q I rx hs pl pu q
 ·exact h' pins s σ H x v vl vu lo hi sl Q I rx hs pl pu q
def tSl(r:V→Option Int→Option Int→Hp→VK→Prop)(te:TE)(tl th:TO):TE:=fun σ H Q=>te σ H fun x H1=>tl σ H1 fun l H2=>th σ H2 fun u H3=>r x l u H3 Q
theorem Zax{r:V→Option Int→Option Int→Hp→VK→Prop}(hr:SlR X r)(he:PE X e te)(hl:PO X lo tl)(hu:PO X hi th):PE X (.Subscript e (.Slice lo hi none p2) pos) (tSl r te tl th):=by
 intro pins s σ H Q I h
 refine Subscript_ (thn (he pins s σ H _ I h) fun v s1 zq=>?_)
 obtain⟨x,H1,I1,r1,q1⟩:=zq
 refine wpAny_Slice (thn (hl pins s1 σ H1 _ I1 q1) fun vl s2 ⟨l,H2,I2,pl,q2⟩=>thn (hu pins s2 σ H2 _ I2 q2) fun vu s3 zq=>?_)
 obtain⟨u,H3,I3,pu,q3⟩:=zq
 rw[evalPart_none]
 refine wpAny_pure ?_
 have I4:Inv X pins σ H3 {s3 with heap:=s3.heap.push {cls := .type "slice",data := .fields #[vl,vu,.none]}}:=I3.kept (t':=s3.toks) fun b ob q=>Us _ q
 obtain⟨T,id,hT,ht,hg⟩:=hr pins {s3 with heap:=s3.heap.push {cls := .type "slice",data := .fields #[vl,vu,.none]}} σ H3 x v vl vu l u s3.heap.objs.size Q I4 r1 (Heap.IsSliceOf.new ..) pl pu q3
 show wpAny (model X.prog X.w) X.A (subscriptTail e (.Slice lo hi none p2) v (.ref s3.heap.objs.size)) (EP X pins σ Q) X.xe {s3 with heap:=s3.heap.push {cls := .type "slice",data := .fields #[vl,vu,.none]}}
 exact tail_any (ops:=[.ref s3.heap.objs.size,v]) ht hT hg (by with_unfolding_all rfl)
noncomputable def cutV(xs:List V)(lo hi:Option Int):List V:=(xs.drop (HT.sIx xs.length 0 lo)).take (HT.sIx xs.length xs.length hi - HT.sIx xs.length 0 lo)
theorem Zrc(xs:List V)(lo hi:Option Int):(cutV xs lo hi).length≤xs.length:=by
 unfold cutV
 rw[US,Va]
 omega
end
end L2
namespace L2
open PySem PySem.Spec PyProof.Rows
noncomputable def ixN(n:Nat)(i:Int):Option Nat:=if 0≤i then (if i<n then some i.toNat else none) else if -(n:Int)≤i then some (i+n).toNat else none
noncomputable def atI{α:Type}(xs:List α)(i:Int):Option α:=(ixN xs.length i).bind fun j=>xs[j]?
theorem Xaf{n:Nat}{i:Int}{j:Nat}(h:ixN n i=some j):seqIndex? i n=some j∧j<n∧-(n:Int)≤i∧i<n:=by
 unfold ixN at h
 by_cases h0:0≤i
 ·rw[if_pos h0] at h
  by_cases h1:i<n
  ·rw[if_pos h1] at h
   have e:i.toNat=j:=Ub h
   exact⟨by rw[seqIndex_of h0 h1,e],by omega,by omega,h1⟩
  ·rw[if_neg h1] at h;cases h
 ·rw[if_neg h0] at h
  by_cases h1 : -(n:Int)≤i
  ·rw[if_pos h1] at h
   have e:(i+n).toNat=j:=Ub h
   exact⟨by rw[seqIndex_neg (by omega) h1,e],by omega,h1,by omega⟩
  ·rw[if_neg h1] at h;cases h
theorem Zji{α:Type}{xs:List α}{i:Int}{v:α}(h:atI xs i=some v):∃ j,seqIndex? i xs.length=some j∧xs[j]?=some v∧j<xs.length∧-(xs.length:Int)≤i∧i<xs.length:=by
 unfold atI at h
 cases e:ixN xs.length i with
 | none=>rw[e] at h;cases h
 | some j =>
  rw[e] at h
  obtain⟨h1,h2,h3,h4⟩:=Xaf e
  exact⟨j,h1,h,h2,h3,h4⟩
theorem Zx{α:Type}{xs:List α}{j:Nat}{v:α}(h:xs[j]?=some v):atI xs (j:Int)=some v:=by
 have hj:j<xs.length:=(Uw.mp h).1
 have e:ixN xs.length (j:Int)=some j:=by
  unfold ixN
  rw[if_pos (by omega),if_pos (by omega)];simp
 unfold atI;rw[e];exact h
theorem Zyh{α:Type}(xs:List α)(v:α):atI (xs++[v]) (-1)=some v:=by
 have hl:(xs++[v]).length=xs.length+1:=by simp
 have e:ixN (xs++[v]).length (-1)=some xs.length:=by
  unfold ixN
  rw[hl,if_neg (by decide),if_pos (by omega)]
  congr 1
  omega
 unfold atI
 rw[e]
 show (xs++[v])[xs.length]?=some v
 simp
def PlainIx(b:Expr):Prop:=∀ o i,subscripted b false o i=operate [o,i] (getItem o i)
def IxR(X:Cx)(r:R2):Prop :=
 ∀ (value slice:Expr) (pins:List (Addr×Obj)) (s:Shared) (σ:St) (H:Hp) (x y:V) (v u:Value) (Q:VK),Inv X pins σ H s→RelV x v→RelV y u→r x y H Q→
  subscripted slice false v u=operate [v,u] (getItem v u)→wpAny (model X.prog X.w) X.A (subscriptTail value slice v u) (EP X pins σ Q) X.xe s
def MtR(X:Cx)(id:String)(r:V→List V→Hp→VK→Prop):Prop :=
 ∀ (pins:List (Addr×Obj)) (s:Shared) (σ:St) (H:Hp) (x:V) (xs:List V) (v:Value) (us:List Value) (Q:VK),Inv X pins σ H s→RelV x v→Vals xs us→r x xs H Q→
  wpAny (model X.prog X.w) X.A (call (.builtin id) (v::us)) (EP X pins σ Q) X.xe s
section
variable {X:Cx} {a b:Expr} {ta tb:TE} {pos:Pos}
theorem IxR.or{r r':R2}(h:IxR X r)(h':IxR X r'):IxR X (fun x y H Q=>r x y H Q∨r' x y H Q):=by
 intro value slice pins s σ H x y v u Q I rx ry q hs
 rcases q with q | q
 ·exact h value slice pins s σ H x y v u Q I rx ry q hs
 ·exact h' value slice pins s σ H x y v u Q I rx ry q hs
theorem Zs{r:R2}(hr:IxR X r)(ha:PE X a ta)(hb:PE X b tb)(hs:PlainIx b):PE X (.Subscript a b pos) (tOp r ta tb):=by
 intro pins s σ H Q I h
 exact Subscript_ (binT ha hb I h fun v u s2 x y H2 I2 rx ry q=>hr a b pins s2 σ H2 x y v u Q I2 rx ry q (hs _ _))
def rIxL(K:Ua):R2:=fun x y H Q=>∃ p xs i v,x = .ref p∧y = .int i∧SqL K H p xs∧atI xs i=some v∧Q v H
def rIxT(K:Ua):R2:=fun x y H Q=>∃ p xs i v,x = .ref p∧y = .int i∧SqT K H p xs∧atI xs i=some v∧Q v H
def rIxS:R2:=fun x y H Q=>∃ z i c,x = .str z∧y = .int i∧z.length≤sizeLine∧atI z.cps.toList i=some c∧Q (.str ⟨#[c]⟩) H
theorem Xae:IxR X (rIxL X.K):=by
 intro value slice pins s σ H x y v u Q I rx ry h hs
 obtain⟨p,xs,i,z,rfl,rfl,hq,he,q⟩:=h
 cases rx
 obtain⟨t,rfl⟩:=ry
 obtain⟨its,r,pl,hz⟩:=I.list hq
 obtain⟨j,h1,h2,h3,h4,h5⟩:=Zji he
 obtain⟨w,ew,rw'⟩:=r.get h2
 have hl:=r.length
 have hn:=line63
 have fin:EP X pins σ Q w s:=⟨z,H,I,rw',q⟩
 by_cases h0:0≤i
 ·have hj:i.toNat=j:=by
   rw[seqIndex_of h0 h5] at h1
   exact Ub h1
  exact item_listR pl.isList h0 (by omega) (by rw[hj];simpa using ew) fin hs
 ·have hj:(i+(its.toArray.size:Int)).toNat=j:=by
   rw[seqIndex_neg (by omega) h4] at h1
   rw[Uu,← hl]
   exact Ub h1
  exact subscriptTail_builtinR (x:=w) pl.isList.typeIs slot_list_getitem.lookup
   (wpAny_getItem_list_neg (Q:=fun r s'=>r=w∧EP X pins σ Q r s') pl.isList (by omega) (by rw[Uu]<;>omega) (by omega) (by rw[hj];simpa using ew) ⟨rfl,fin⟩) hs
theorem Xbs:IxR X (rIxT X.K):=by
 intro value slice pins s σ H x y v u Q I rx ry h hs
 obtain⟨p,xs,i,z,rfl,rfl,hq,he,q⟩:=h
 cases rx
 obtain⟨t,rfl⟩:=ry
 obtain⟨its,r,pl,hz⟩:=I.tuple hq
 obtain⟨j,h1,h2,h3,h4,h5⟩:=Zji he
 obtain⟨w,ew,rw'⟩:=r.get h2
 have hl:=r.length
 have hn:=line63
 have fin:EP X pins σ Q w s:=⟨z,H,I,rw',q⟩
 exact subscriptTail_builtinR (x:=w) pl.typeIs slot_tuple_getitem.lookup
  (getItem_tuple (j:=j) (Q:=fun r s'=>r=w∧EP X pins σ Q r s') pl (by omega) (by omega) (by rw[Uu,← hl];exact h1) (by simpa using ew) ⟨rfl,fin⟩) hs
theorem Xbt:IxR X rIxS:=by
 intro value slice pins s σ H x y v u Q I rx ry h hs
 obtain⟨z,i,c,rfl,rfl,hz,he,q⟩:=h
 obtain⟨t,rfl⟩:=rx
 obtain⟨t',rfl⟩:=ry
 obtain⟨j,h1,h2,h3,h4,h5⟩:=Zji he
 have hl:z.cps.toList.length=z.length:=by simp[Str.length]
 rw[hl] at h1 h4 h5
 have hn:=line63
 exact tail_any (typeIs_str s z t) slot_str_getitem.lookup (getItem_str (c:=c) (by
  have e1:decide (i < -(2 ^ 63:Int))=false:=UB (by omega)
  have e2:decide (i≥2 ^ 63)=false:=UB (by omega)
  rw[e1,e2,Bool.or_false]) (by rw[h1];simpa using h2) ⟨.str ⟨#[c]⟩,H,I.tok _,⟨_,rfl⟩,q⟩) hs
theorem Zno(lo hi:Option Int)(n:Nat):(sliceBounds lo hi none n).1=((HT.sIx n 0 lo:Nat):Int)∧(sliceBounds lo hi none n).2.1=((HT.sIx n n hi:Nat):Int)∧(sliceBounds lo hi none n).2.2=1:=by
 refine⟨?_,?_,rfl⟩
 ·cases lo with
  | none=>simp[sliceBounds,HT.sIx]
  | some i =>
   simp only[sliceBounds,HT.sIx,Option.getD_none,show (1:Int) > 0 by decide,if_true]
   by_cases h:i<0
   ·simp only[h,if_true]<;>omega
   ·simp only[h,if_false]<;>omega
 ·cases hi with
  | none=>simp[sliceBounds,HT.sIx]
  | some i =>
   simp only[sliceBounds,HT.sIx,Option.getD_none,show (1:Int) > 0 by decide,if_true]
   by_cases h:i<0
   ·simp only[h,if_true]<;>omega
   ·simp only[h,if_false]<;>omega
theorem Zlb(its:List Value)(lo hi:Option Int):slicePick its.toArray lo hi none=((its.drop (HT.sIx its.length 0 lo)).take (HT.sIx its.length its.length hi - HT.sIx its.length 0 lo)).toArray:=by
 obtain⟨h1,h2,h3⟩:=Zno lo hi its.toArray.size
 unfold slicePick
 rw[h1,h2,h3]
 simp only[sliceRange_one,pick_run,Uu]<;>rfl
noncomputable def rSlL(K:Ua):V→Option Int→Option Int→Hp→VK→Prop:=fun x lo hi H Q=>∃ a xs,x = .ref a∧SqL K H a xs∧∀ p,H p=none→Q (.ref p) (upd H p (.lst (cutV xs lo hi)))
theorem Zyx:SlR X (rSlL X.K):=by
 intro pins s σ H x v vl vu lo hi sl Q I rx hs pl pu h
 obtain⟨a,xs,rfl,hx,q⟩:=h
 cases rx
 obtain⟨its,r,ht,hz⟩:=I.list hx
 have hlen:=r.length
 refine⟨"list",_,slot_list_getitem.lookup,ht.isList.typeIs,?_⟩
 refine wpAny_getItem_list_slice ht.isList hs pl pu .none (by simp) ?_ (by rw[Uu]<;>omega)
 rw[Zlb,← hlen]
 refine⟨.ref s.heap.objs.size,_,I.laid (t':=s.toks) (o := .lst (cutV xs lo hi)) (fun b ob q=>Us _ q) (Up _) ?_,rfl,q _ (I.hok.fresh (Up _))⟩
 exact⟨UC (Zrc xs lo hi) hz,_,0,(r.drop (HT.sIx xs.length 0 lo)).take (HT.sIx xs.length xs.length hi - HT.sIx xs.length 0 lo),UG _ rfl⟩
noncomputable def flatV:V→Bool
 | .non=>true
 | .bl _=>true
 | .int _=>true
 | .str _=>true
 | _=>false
noncomputable def eqV:V→V→Bool
 | .non,.non=>true
 | .bl a,.bl b=>a == b
 | .bl a,.int b=>(if a then 1 else 0) == b
 | .int a,.bl b=>a == (if b then 1 else 0)
 | .int a,.int b=>a == b
 | .str a,.str b=>a == b
 | _,_=>false
theorem Xbv{A:Around}{s:Shared}{y x:V}{u v:Value}(ry:RelV y u)(rx:RelV x v)(fy:flatV y=true)(fx:flatV x=true):SeqAt.EqAt A s u v (eqV y x):=by
 cases y with
 | non =>
  cases ry
  cases x with
  | non=>cases rx;exact SeqAt.EqAt.same _
  | bl b=>cases rx;exact SeqAt.EqAt.none_bool b
  | int b=>obtain⟨t,rfl⟩:=rx;exact SeqAt.EqAt.none_int b t
  | str b=>obtain⟨t,rfl⟩:=rx;exact SeqAt.EqAt.none_str b t
  | _=>exact absurd (show false=true from fx) UI
 | bl a =>
  cases ry
  cases x with
  | non=>cases rx;exact SeqAt.EqAt.bool_none a
  | bl b=>cases rx;exact SeqAt.EqAt.bool_bool a b
  | int b=>obtain⟨t,rfl⟩:=rx;exact SeqAt.EqAt.bool_int a b t
  | str b=>obtain⟨t,rfl⟩:=rx;exact SeqAt.EqAt.bool_str a b t
  | _=>exact absurd (show false=true from fx) UI
 | int a =>
  obtain⟨t',rfl⟩:=ry
  cases x with
  | non=>cases rx;exact SeqAt.EqAt.int_none a t'
  | bl b=>cases rx;exact SeqAt.EqAt.int_bool a t' b
  | int b=>obtain⟨t,rfl⟩:=rx;exact SeqAt.EqAt.int_int a t' b t
  | str b=>obtain⟨t,rfl⟩:=rx;exact SeqAt.EqAt.int_str a t' b t
  | _=>exact absurd (show false=true from fx) UI
 | str a =>
  obtain⟨t',rfl⟩:=ry
  cases x with
  | non=>cases rx;exact SeqAt.EqAt.str_none a t'
  | bl b=>cases rx;exact SeqAt.EqAt.str_bool a t' b
  | int b=>obtain⟨t,rfl⟩:=rx;exact SeqAt.EqAt.str_int a t' b t
  | str b=>obtain⟨t,rfl⟩:=rx;exact SeqAt.EqAt.str_str a t' b t
  | _=>exact absurd (show false=true from fx) UI
 | _=>exact absurd (show false=true from fy) UI
noncomputable def eqU(x:V)(u:Value):Bool:=match u with
 | .none=>eqV .non x
 | .bool b=>eqV (.bl b) x
 | .int i _=>eqV (.int i) x
 | .str z _=>eqV (.str z) x
 | _=>false
theorem Zxt{x y:V}{u:Value}(r:RelV y u)(f:flatV y=true):eqU x u=eqV y x:=by
 cases y with
 | non=>cases r;rfl
 | bl b=>cases r;rfl
 | int i=>obtain⟨t,rfl⟩:=r;rfl
 | str z=>obtain⟨t,rfl⟩:=r;rfl
 | _=>exact absurd (show false=true from f) UI
theorem Zpb{x:V}:∀ {xs:List V} {us:List Value},Vals xs us→xs.all flatV=true→us.any (eqU x)=xs.any fun y=>eqV y x
 | _,_,.nil,_=>rfl
 | y::xs,u::us,.cons r t,f=>by
  rw[List.all_cons,UN] at f
  rw[List.any_cons,List.any_cons,Zxt r f.1,Zpb t f.2]
theorem Zkr{A:Around}{s:Shared}{x:V}{v:Value}(rx:RelV x v)(fx:flatV x=true):∀ {xs:List V} {us:List Value},Vals xs us→xs.all flatV=true→∀ u∈us,SeqAt.EqAt A s u v (eqU x u)
 | _,_,.nil,_=>fun u hu=>by cases hu
 | y::xs,u::us,.cons r t,f=>fun u' hu=>by
  rw[List.all_cons,UN] at f
  rcases Um.mp hu with rfl | hu
  ·rw[Zxt r f.1];exact Xbv r rx f.1 fx
  ·exact Zkr rx fx t f.2 u' hu
noncomputable def inV(x:V)(xs:List V):Bool:=xs.any fun y=>eqV y x
def rIn(K:Ua)(neg:Bool):R2:=fun x y H Q=>∃ p xs,y = .ref p∧(SqL K H p xs∨SqT K H p xs)∧flatV x=true∧xs.all flatV=true∧Q (.bl (if neg then !inV x xs else inV x xs)) H
theorem Zun:OpR X (compareOp .In) (rIn X.K false):=by
 intro pins s σ H x y v u Q I rx ry h
 obtain⟨p,xs,rfl,hq,fx,fs,q⟩:=h
 cases ry
 rcases hq with hq | hq
 ·obtain⟨its,r,pl,hz⟩:=I.list hq
  refine SeqAt.in_listAt (eqU x) pl.isList (fun w hw=>Zkr rx fx r fs w (by simpa using hw)) ⟨.bl _,H,I,rfl,?_⟩
  rw[show its.toArray.any (eqU x)=its.any (eqU x) by simp,Zpb r fs]
  exact q
 ·obtain⟨its,r,pl,hz⟩:=I.tuple hq
  refine SeqAt.in_tupleAt (eqU x) pl (fun w hw=>Zkr rx fx r fs w (by simpa using hw)) ⟨.bl _,H,I,rfl,?_⟩
  rw[show its.toArray.any (eqU x)=its.any (eqU x) by simp,Zpb r fs]
  exact q
theorem Zex:CallR X (.type "tuple") (fun xs H Q=>∃ p ys,xs=[.ref p]∧((SqL X.K H p ys∧∀ l,H l=none→Q (.ref l) (upd H l (.tup ys)))∨(SqT X.K H p ys∧Q (.ref p) H))):=by
 intro pins s σ H xs us Q I r h
 obtain⟨p,ys,rfl,h⟩:=h
 obtain⟨u,rfl,rx⟩:=vals1 r
 cases rx
 rcases h with⟨hq,q⟩ | ⟨hq,q⟩
 ·obtain⟨its,r',pl,hz⟩:=I.list hq
  have hlen:=r'.length
  refine call_tuple_list pl.isList (fun h' kp=>?_) (by simp only[Uu]<;>omega)
  have I1:Inv X pins σ H {s with heap:=h'}:=I.kept (t':=s.toks) kp
  have I2:Inv X pins σ (upd H h'.objs.size (.tup ys)) {s with heap:=h'.push {cls := .type "tuple",data := .seq its.toArray}} :=
   I1.laid (t':=s.toks) (fun b o e=>Us _ e) (Up _) (show ObjOk X.prog X.w _ _ _ (.tup ys) from⟨hz,its,r',IsTup.new _ _⟩)
  exact⟨.ref h'.objs.size,_,I2,rfl,q _ (I1.hok.fresh (Up _))⟩
 ·obtain⟨its,r',pl,hz⟩:=I.tuple hq
  exact call_tuple_same pl ⟨.ref p,H,I,rfl,q⟩
def tyV(K:Ua)(T:String)(x:V)(H:Hp):Prop:=match x with
 | .str _=>T="str"
 | .int _=>T="int"
 | .ref p=>(T="list"∧∃ xs,SqL K H p xs)∨(T="tuple"∧∃ o,K.lookup p=some o∧o.cls = .type "tuple"∧o.dict=none)∨
   (T="dict"∧((∃ kvs,H p=some (.dK kvs))∨∃ kvs,H p=some (.dT kvs)))∨(T="set"∧∃ S n,H p=some (.set S n))
 | _=>False
theorem Zvw{pins:List (Addr×Obj)}{σ:St}{H:Hp}{s:Shared}{T:String}{x:V}{v:Value}(I:Inv X pins σ H s)(r:RelV x v)(ty:tyV X.K T x H) :
  s.TypeIs v T∧∀ a,v = .ref a→∃ ob,s.heap.get? a=some ob∧ob.dict=none:=by
 cases x with
 | str z =>
  obtain⟨t,rfl⟩:=r
  cases (show T="str" from ty)
  exact⟨typeIs_str s z t,fun _ e=>nomatch e⟩
 | int i =>
  obtain⟨t,rfl⟩:=r
  cases (show T="int" from ty)
  exact⟨typeIs_int s i t,fun _ e=>nomatch e⟩
 | ref p =>
  cases r
  rcases ty with⟨rfl,xs,hq⟩ | ⟨rfl,o,hk,hc,hd⟩ | ⟨rfl,hk⟩ | ⟨rfl,S,n,hk⟩
  ·obtain⟨its,_,pl,_⟩:=I.list hq
   refine⟨pl.isList.typeIs,fun a e=>?_⟩
   cases e
   obtain⟨o,n,e,c,hd,_⟩:=pl
   exact⟨o,e,hd⟩
  ·refine⟨⟨o,I.kIn p o hk,hc⟩,fun a e=>?_⟩
   cases e
   exact⟨o,I.kIn _ o hk,hd⟩
  ·have z:∃ o,s.heap.get? p=some o∧o.ExactDict:=by
    rcases hk with⟨kvs,hk⟩ | ⟨kvs,hk⟩
    ·obtain⟨_,_,_,_,o,_,_,e,ex,_⟩:=I.hok p _ hk
     exact⟨o,e,ex⟩
    ·exact(show False from I.hok p _ hk).elim
   obtain⟨o,e,ex⟩:=z
   refine⟨⟨o,e,ex.1⟩,fun a e2=>?_⟩
   cases e2
   exact⟨o,e,ex.2.1⟩
  ·obtain⟨o,_,_,_,e,ex,_⟩:=I.hok p _ hk
   refine⟨⟨o,e,ex.1⟩,fun a e2=>?_⟩
   cases e2
   exact⟨o,e,ex.2.1⟩
 | _=>exact False.elim ty
def tBM0(K:Ua)(T:String)(r:V→List V→Hp→VK→Prop)(to:TE):TE:=fun σ H Q=>to σ H fun x H1=>tyV K T x H1∧r x [] H1 Q
def tBM(K:Ua)(T:String)(r:V→List V→Hp→VK→Prop)(to:TE)(t:TA):TE:=fun σ H Q=>to σ H fun x H1=>tyV K T x H1∧t σ H1 fun xs H2=>r x xs H2 Q
variable {o e:Expr} {es:List Expr} {to:TE} {t:TA} {name:Str} {apos cpos:Pos} {T id:String} {r:V→List V→Hp→VK→Prop}
theorem Zkf(pa:PlainAttrs T)(slot:Slot T name id)(hty:typeOf (.builtin id)=pure (.type "method_descriptor"))(hm:MtR X id r)(ho:PE X o to)
  (hbase:attributeBase o name X.env (eval o X.env)=eval o X.env:=by rfl) (hline:(apos.endLine == cpos.line)=true:=by rfl):PE X (.Call (.Attribute o name apos) [] [] cpos) (tBM0 X.K T r to):=by
 intro pins s σ H Q I h
 refine wpAny_Call_method0_late hbase hline (thn (ho pins s σ H _ I h) fun v s1 zq=>?_)
 obtain⟨x,H1,I1,r1,ty,q1⟩:=zq
 obtain⟨h1,h2⟩:=Zvw I1 r1 ty
 exact⟨T,id,pa,slot,hty,h1,h2,Calls.callWith_builtin rfl (PySem.evalArgs_none (hm pins s1 σ H1 x [] v [] Q I1 r1 .nil q1))⟩
theorem Wb(pa:PlainAttrs T)(slot:Slot T name id)(hty:typeOf (.builtin id)=pure (.type "method_descriptor"))(hm:MtR X id r)(ho:PE X o to)(ha:PA X (e::es) t)
  (hbase:attributeBase o name X.env (eval o X.env)=eval o X.env:=by rfl)
  (hfew:((backTo cpos (starEach (e::es) X.env)).all (fun x=>!x.1)&&(backToKw cpos (keywordEach [] X.env)).all (fun x=>x.1.isSome)
   && decide ((e::es).length+([]:List Keyword).length+(if ([]:List Keyword).isEmpty then 0 else 1)<30))=true:=by rfl)
  (hline:(apos.endLine == cpos.line)=true:=by rfl) (hs:starEach (e::es) X.env=(false,eval e X.env)::starEach es X.env:=by rfl) (hplain:(backTo cpos (starEach es X.env)).any (·.1)=false:=by rfl) :
  PE X (.Call (.Attribute o name apos) (e::es) [] cpos) (tBM X.K T r to t):=by
 intro pins s σ H Q I h
 refine wpAny_Call_method_late hbase hfew hline rfl (thn (ho pins s σ H _ I h) fun v s1 zq=>?_)
 obtain⟨x,H1,I1,r1,ty,q1⟩:=zq
 obtain⟨h1,h2⟩:=Zvw I1 r1 ty
 refine⟨T,id,pa,slot,hty,h1,h2,?_⟩
 have hA:=ha cpos pins s1 σ H1 _ I1 q1
 rw[hs] at hA ⊢
 refine Calls.callWith_builtin (by show (false||(backTo cpos (starEach es X.env)).any (·.1))=false;rw[hplain]<;>rfl) (Calls.evalArgs_plain ?_)
 refine thn hA fun us s2 zq=>?_
 obtain⟨vs,H2,I2,r2,q2⟩:=zq
 exact hm pins s2 σ H2 x vs v us Q I2 r1 r2 q2
end
end L2
namespace L2
open PySem PySem.Spec PyProof.Rows
def MtM(X:Cx)(id:String)(r:V→List V→Hp→VK→Prop):Prop :=
 ∀ (pins:List (Addr×Obj)) (s:Shared) (σ:St) (H:Hp) (x:V) (xs:List V) (v:Value) (us:List Value) (Q:VK),Inv X pins σ H s→RelV x v→Vals xs us→r x xs H Q→
  wpAny (model X.prog X.w) X.A (call (.builtin id) (v::us)) (EP X pins σ Q) X.xe s
theorem Vals.one:∀ {x:V} {us:List Value},Vals [x] us→∃ u,us=[u]∧RelV x u
 | _,_,.cons r .nil=>⟨_,rfl,r⟩
theorem Vals.eraseIdx:∀ {xs:List V} {us:List Value} (i:Nat),Vals xs us→Vals (xs.eraseIdx i) (us.eraseIdx i)
 | _,_,_,.nil => .nil
 | _,_,0,.cons _ t=>t
 | _,_,i+1,.cons r t => .cons r (Vals.eraseIdx i t)
theorem Zml{α:Type}:∀ (l:List α) (i:Nat),(l.eraseIdx i).length≤l.length
 | [],_=>Up _
 | _::_,0=>Nat.le_succ _
 | _::r,i+1=>Nat.succ_le_succ (Zml r i)
section
variable {X:Cx} {pins:List (Addr×Obj)} {σ:St} {H:Hp} {s:Shared} {l b:Addr} {xs ys zs:List V}
theorem Inv.lset{its its':List Value}{n:Nat}{f:Array Value→Array Value}{t':Nat}(I:Inv X pins σ H s)(hH:H l=some (.lst xs))
  (e:s.heap.get? l=some {cls := .type "list",data := .seq its.toArray n}) (hf:f its.toArray=its'.toArray) (hv:Vals ys its') (hz:ys.length≤sizeLine) :
  Inv X pins σ (upd H l (.lst ys)) {s with heap:=s.heap.update l (Obj.mapSeq f),toks:=t'}:=by
 have q:=PySem.IsL.update e f
 rw[hf] at q
 refine I.write (x:=l) (e:=l) (by rw[hH];exact trivial) (.inl rfl) (fun b' u hb hu=>(Heap.get?_update_other s.heap (Obj.mapSeq f) (Uh hb)).trans hu) ⟨_,q⟩ ?_
 exact⟨hz,its',_,hv,q⟩
theorem Inv.fresh(I:Inv X pins σ H s):H s.heap.objs.size=none:=I.hok.fresh (Up _)
theorem Inv.lstM(I:Inv X pins σ H s)(hH:H l=some (.lst xs)):xs.length≤sizeLine∧∃ (its:List Value) (n:Nat),Vals xs its∧xs.length=its.length∧s.heap.get? l=some {cls := .type "list",data := .seq its.toArray n}:=by
 obtain⟨z,its,n,r,e⟩:=I.hok l _ hH
 exact⟨z,its,n,r,r.length,e⟩
end
section
variable {X:Cx}
noncomputable def rAppend:V→List V→Hp→VK→Prop:=fun x vs H Q=>∃ l xs y,x = .ref l∧vs=[y]∧H l=some (.lst xs)∧xs.length<sizeLine∧Q .non (upd H l (.lst (xs++[y])))
theorem Ji:MtM X "list.append" rAppend:=by
 intro pins s σ H x vs v us Q I rx rv h
 obtain⟨l,xs,y,rfl,rfl,hH,hz,q⟩:=h
 cases rx
 obtain⟨u,rfl,ru⟩:=rv.one
 obtain⟨z,its,n,r,hl,e⟩:=I.lstM hH
 refine call_meets F.slot_list_append ⟨_,e,rfl⟩ F.entry_list_append (F.args_list_append_2 _ _) (PySem.list_append l its.toArray n u (by rw[Uu];omega)) ⟨e,?_⟩
 refine⟨.non,_,I.lset (its':=its++[u]) hH e (by simp) (r.append (.cons ru .nil)) ?_,rfl,q⟩
 rw[Uo,UQ]
 omega
noncomputable def rPopAt:V→List V→Hp→VK→Prop:=fun x vs H Q=>∃ l xs i k y,x = .ref l∧vs=[.int i]∧H l=some (.lst xs)∧-(2 ^ 63)≤i∧i<2 ^ 63∧seqIndex? i xs.length=some k∧xs[k]?=some y∧Q y (upd H l (.lst (xs.eraseIdx k)))
theorem Zwz:MtM X "list.pop" rPopAt:=by
 intro pins s σ H x vs v us Q I rx rv h
 obtain⟨l,xs,i,k,y,rfl,rfl,hH,h1,h2,hk,hy,q⟩:=h
 cases rx
 obtain⟨u,rfl,ru⟩:=rv.one
 obtain⟨t,rfl⟩:=ru
 obtain⟨z,its,n,r,hl,e⟩:=I.lstM hH
 obtain⟨w,hw,rw'⟩:=r.get hy
 refine call_meets F.slot_list_pop ⟨_,e,rfl⟩ F.entry_list_pop (F.args_list_pop_2 _ _)
  (MeetsSeq.list_pop_at l its.toArray n i t k w (fitsIndex_both h1 h2) (by rw[Uu,← hl];exact hk) (by rw[← Array.getElem?_toList];exact hw) (by rw[Uu];omega)) ⟨e,?_⟩
 refine⟨y,_,I.lset (its':=its.eraseIdx k) hH e ?_ (r.eraseIdx k) ?_,rw',q⟩
 ·show its.toArray.eraseIdxIfInBounds k=(its.eraseIdx k).toArray
  rw[List.eraseIdxIfInBounds_toArray]
 ·have:=Zml xs k
  omega
end
end L2
namespace Att
open PySem PySem.W PySem.Calls PyProof.Rows
theorem Ziz{P:Params}{h:Heap}:∀ (ns:List Int) (vs:List Value),WellAll P h vs (ns.map WData.int)→IntsAre vs ns:=by
 intro ns
 induction ns with
 | nil =>
  intro vs w
  rw[List.map_nil] at w
  cases w
  exact .nil
 | cons n ns ih =>
  intro vs w
  rw[UP] at w
  cases w with
  | cons a b =>
   cases a
   exact .cons _ _ (ih _ b)
theorem Zub{l:OpenLaw}{n:Nat}(hn:l.most=some n){P:Params}{h:Heap}{args:List WData}{vals:List Value}
  (hpre:l.row.toRowW.claim.pre args=true) (hwl:WellAll P h vals args) :
  ∃ a vs ns,vals=[Value.ref a]∧args=[WData.list (ns.map WData.int)]∧h.get? a=some {cls := .type "list",data := .seq vs.toArray}∧IntsAre vs ns∧ns.length≤n:=by
 have hsh:WShape.hasAll [] args [.list .int]=true:=(pre_splitW hpre).1
 have hc:l.pre.holds [] {args:=args}=true:=(pre_splitW hpre).2
 obtain⟨d,r,rfl,h1,h2⟩:=hasAllW_cons hsh
 obtain rfl:=hasAllW_nil h2
 obtain⟨xs,rfl,h3⟩:=hasW_list h1
 obtain⟨ns,rfl⟩:=items_int h3
 have hlen:ns.length≤n:=by
  unfold OpenLaw.pre at hc
  have h4:(WTm.not (.lt (.lit (.int (n:Int))) (.len (.arg 0)))).holds [] {args:=[.list (ns.map .int)]}=true:=by
   have h4:=(holds_andW hc).1
   rw[hn] at h4
   exact h4
  have h5:=condW_of h4 (w_not (w_lt w_lit (w_len_list (w_arg rfl))))
  rw[Uj] at h5
  refine Nat.le_of_not_lt fun q=>?_
  have q':(n:Int)<((ns.length:Nat):Int):=by omega
  first
   | (rw[Ut q'] at h5;exact absurd h5 (by decide))
   | (simp at h5;omega)
 cases hwl with
 | cons w1 w2 =>
  cases w2
  cases w1 with
  | list ho hall=>exact⟨_,_,ns,rfl,rfl,ho,Ziz ns _ hall,hlen⟩
theorem Zuf(l:OpenLaw)(args:List WData):l.row.toRowW.claim.post args (.bool true) args=true :=
 postW_of (r:=l.row.toRowW) (X:=(true == true))
  (show WShape.has [] (.bool true) .bool=true by first | rfl | decide | simp[WShape.has,WShape.arms,WShape.armsAll])
  (show (WTm.eq .res (.lit (.bool true))).value [] {args:=args,res:=some (.bool true),after:=args}=some (.bool (true == true)) from w_eq_bool (w_res rfl) w_lit) rfl
theorem attach_call{l:OpenLaw}{n:Nat}{q:Program}{loose:List Str}{XP:(Str→Option Value)→Heap→Prop}{YP:World→Heap→Prop}{d:DefRec}
  (hn:l.most=some n) (hdf:d.params.defaults=[])
  (call:∀ (w:World) (s₀ s₁:Shared) (mg mb:Str→Option Value) (fa:Addr) (o:Obj) (pm cd doc:Value) (a:Addr) (vs:List Value) (ns:List Int),
   Ground q loose [] XP w s₀ mg mb s₁.heap→YP w s₁.heap→
   s₁.heap.get? fa=some o→o.data = .func (docDef d.name d.params d.body d.scope pm cd doc)→s₁.heap.CodeRec cd d.name→mg d.name=some (.ref fa)→
   s₁.heap.get? a=some {cls := .type "list",data := .seq vs.toArray}→IntsAre vs ns→ns.length≤n→s₁.gens=#[]→
   codeAny (model l.prog w) callerA (.call (.ref fa) ⟨[.ref a],[]⟩) (fun r s'=>r = .ok (.ret (.bool true))∧OldK s₁.heap s'.heap∧s'.os=s₁.os∧AllBare s'.gens) s₁) :
  WalkO q loose XP YP l.row.toRowW d [] (fun f vs=>PySem.call f vs):=by
 intro w s₀ s₁ mg mb G Y fa o pm cd doc dV kV ho hd hcd hD hmg hg args vals as hpre hlay hrd hwl hlo
 obtain rfl:dV = .none:=Dflts.none hD hdf
 obtain rfl:kV = .none:=Dflts.noKw hD
 obtain⟨a,vs,ns,rfl,rfl,hobj,hints,hlen⟩:=Zub hn hpre hwl
 refine enter_call (codeAny_mono (call w s₀ s₁ mg mb fa o pm cd doc a vs ns G Y ho (fd_plain hd) hcd hmg hobj hints hlen hg) fun r s' hq=>?_)
 obtain⟨rfl,h2,h3,h4⟩:=hq
 exact⟨.inl ⟨.bool true,.bool true,[],rfl,fun _=>rfl,.bool true,Zuf l _,fun _=>⟨List.Pairwise.nil,fun _ hm=>(nomatch hm)⟩⟩,h2,h3,h4⟩
section
variable {prog:Program} {w:World} {A:Around} {E:Value→Shared→Prop} {s:Shared} {K:Frag}
noncomputable def ledger(h:Heap)(L d:Addr):List (Addr×Obj):=(List.range h.objs.size).filterMap fun a=>if a=L∨a=d then none else (h.get? a).map fun o=>(a,o)
end
end Att
namespace L2
open PySem PySem.Spec PyProof.Rows
theorem Zlw:∀ {vs:List Value} {ns:List Int},IntsAre vs ns→Vals (ns.map V.int) vs
 | _,_,.nil => .nil
 | _,_,.cons n t h => .cons ⟨t,rfl⟩ (Zlw h)
def Only(H:Hp):Prop:=∀ b,H b=none∨∃ o xs,H b=some (.frz o (.lst xs))
theorem law_call{P:Program}{w:World}{K:Ua}{mg mb:Str→Option Value}{CX:CXT}{k:Nat}{fa a:Addr}{fd:FuncData}{x:Str}{sp:Sp}{s₁:Shared}{vs:List Value}{ns:List Int}
  (KX:K.In s₁.heap) (hns:s₁.heap.Ns mainGlobals mg) (hb:s₁.heap.Ns builtinsNs mb) (hbb:∀ x:Str,x≠"__name__"→mb x=bootBuiltins x) (hlim:s₁.heap.NoLimit) (hg:s₁.gens=#[])
  (ha:s₁.heap.get? a=some {cls := .type "list",data := .seq vs.toArray}) (hi:IntsAre vs ns) (hl:ns.length≤sizeLine) (hr:Room k callerA)
  (F:∀ base:Heap,K.In base→base.Ns mainGlobals mg→FnOk P w K mg base CX k fa fd [x] sp) (hbind:∀ (s:Shared) (u:Value),BindsTo s fd ⟨[u],[]⟩ [(x,u)])
  (hsp:∀ H:Hp,Only H→SqL K H a (ns.map V.int)→sp [.ref a] H (fun v _=>v = .bl true) fun _ _ _=>False)
  (hCX:∀ H e s',CX [] H s₁ (fun _ _ _=>False) e s'→False) :
  codeAny (model P w) callerA (.call (.ref fa) ⟨[.ref a],[]⟩) (fun r s'=>r = .ok (.ret (.bool true))∧OldK s₁.heap s'.heap∧s'.os=s₁.os∧AllBare s'.gens) s₁:=by
 have rv:=Zlw hi
 have lenV:=hi.length
 have core:∀ H:Hp,Only H→SqL K H a (ns.map V.int)→HOk P w H s₁.heap→(∀ b,H b≠none→b=a)→(H a≠none→K.lookup a=none)→
   codeAny (model P w) callerA (.call (.ref fa) ⟨[.ref a],[]⟩) (fun r s'=>r = .ok (.ret (.bool true))∧OldK s₁.heap s'.heap∧s'.os=s₁.os∧AllBare s'.gens) s₁:=by
  intro H hO hS hok hA hK
  have base_of:∀ {b:Addr} {o:Obj},s₁.heap.get? b=some o→H b=none→(hidT s₁.heap H).get? b=some o:=fun e n=>Zxh e n
  have noA:∀ {b:Addr} {o:Obj} {es:Array DictEntry} {ep:Nat},s₁.heap.get? b=some o→o.data = .dict es ep→H b=none:=fun {b o es ep} e d=>by
   cases q:H b with
   | none=>rfl
   | some u =>
    have e':b=a:=hA b (by rw[q];simp)
    subst e'
    rw[ha] at e;cases e
    have d':Data.seq vs.toArray _=Data.dict es ep:=d
    cases d'
  have nsK:∀ {b:Addr} {m:Str→Option Value},s₁.heap.Ns b m→(hidT s₁.heap H).Ns b m:=fun {b m} ⟨o,es,ep,e,d,r⟩=>⟨o,es,ep,base_of e (noA e d),d,r⟩
  have hKb:K.In (hidT s₁.heap H):=fun b o e=>base_of (KX b o e) (by
   cases q:H b with
   | none=>rfl
   | some u =>
    have e':b=a:=hA b (by rw[q];simp)
    subst e'
    rw[hK (by rw[q];simp)] at e;cases e)
  have hM:Mod K mg (hidT s₁.heap H):=⟨hKb,nsK hns,⟨mb,nsK hb,hbb⟩,let ⟨mc,h1,h2⟩:=hlim;⟨mc,nsK h1,h2⟩⟩
  have e0:Env0 P w K mg (hidT s₁.heap H) callerA [] s₁ H:=⟨rfl,hM,fun b o e=>Zzt e,Nat.le_of_eq (Zux _ _),trivial,fun b hb=>absurd (show b∈([]:List Addr) from hb) (by simp),hok,.of_eq hg⟩
  refine codeAny_mono ((F _ hKb (nsK hns)).run callerA [] s₁ H ⟨[.ref a],[]⟩ [.ref a] [.ref a] _ _ hr e0 (hbind s₁ (.ref a)) (.cons rfl .nil) (hsp H hO hS)) fun r s' h=>?_
  cases r with
  | error e=>exact(hCX H e s' h).elim
  | ok fl =>
   cases fl with
   | next=>exact False.elim h
   | brk=>exact False.elim h
   | cont=>exact False.elim h
   | ret u =>
    obtain⟨v,H',os,bare,un,hok',r',q⟩:=h
    have q':v = .bl true:=q
    subst q'
    obtain rfl:u=Value.bool true:=r'
    refine⟨rfl,OldK.of_keep fun b o e=>?_,os,bare⟩
    cases q:H b with
    | none=>exact un.keep b o e q (by intro z;exact absurd (show b∈([]:List Addr) from z) (by simp)) (by simp)
    | some u =>
     rcases hO b with z | ⟨ob,xs,z⟩
     ·rw[q] at z;cases z
     ·have z2:=un.frzs b ob _ z
      obtain⟨e1,_⟩:=hok b _ z
      obtain⟨e2,_⟩:=hok' b _ z2
      rw[e] at e1;cases e1
      exact e2
 cases hk:K.lookup a with
 | some o =>
  have e:=KX a o hk
  rw[ha] at e
  cases e
  refine core (fun _=>none) (fun _ => .inl rfl) (.inr ⟨_,vs.toArray,_,hk,rfl,rfl,rfl,by rw[Uu,lenV];exact hl,by simpa using rv⟩) (fun b u z=>by have z':(none:Option HO)=some u:=z;cases z') (fun b z=>absurd rfl z) fun z=>absurd rfl z
 | none =>
  refine core (fun b=>if b=a then some (.frz {cls := .type "list",data := .seq vs.toArray} (.lst (ns.map V.int))) else none) (fun b=>?_) (.inl (.inr ⟨{cls := .type "list",data := .seq vs.toArray},if_pos rfl⟩)) (fun b u z=>?_) (fun b z=>?_) fun _=>hk
  ·by_cases hb:b=a
   ·exact .inr ⟨_,_,if_pos hb⟩
   ·exact .inl (if_neg hb)
  ·by_cases hb:b=a
   ·have z':=(if_pos hb).symm.trans z
    cases z'
    subst hb
    exact⟨ha,by rw[Uj];exact hl,vs,_,rv,ha⟩
   ·have z':=(if_neg hb).symm.trans z
    cases z'
  ·by_cases hb:b=a
   ·exact hb
   ·exact absurd (if_neg hb) z
end L2
namespace L2
open PySem PySem.Spec PyProof.Rows
theorem Zyt{l:PySem.W.OpenLaw}{n k:Nat}{q:Program}{loose:List Str}{XP:(Str→Option Value)→Heap→Prop}{YP:World→Heap→Prop}{d:DefRec}{K:Params→Ua}{CX:World→CXT}{sp:World→Sp}{x:Str}
  (hn:l.most=some n) (hn2:n≤sizeLine) (hdf:d.params.defaults=[]) (hr:Room k callerA)
  (hY:∀ (w:World) (h:Heap),YP w h→(K w.params).In h)
  (F:∀ (w:World) (mg:Str→Option Value) (fa:Addr) (h:Heap),(K w.params).In h→h.Ns mainGlobals mg→mg d.name=some (.ref fa)→
   ∃ fd:FuncData,(∀ (s:Shared) (u:Value),BindsTo s fd ⟨[u],[]⟩ [(x,u)])∧
    ∀ base:Heap,(K w.params).In base→base.Ns mainGlobals mg→FnOk l.prog w (K w.params) mg base (CX w) k fa fd [x] (sp w))
  (hsp:∀ (w:World) (H:Hp) (a:Addr) (ns:List Int),ns.length≤n→Only H→SqL (K w.params) H a (ns.map V.int)→sp w [.ref a] H (fun v _=>v = .bl true) fun _ _ _=>False)
  (hCX:∀ (w:World) (H:Hp) (s:Shared) (e:Value) (s':Shared),CX w [] H s (fun _ _ _=>False) e s'→False) :
  PySem.W.WalkO q loose XP YP l.row.toRowW d [] (fun f vs=>PySem.call f vs):=by
 refine Att.attach_call hn hdf fun w s₀ s₁ mg mb fa o pm cd doc a vs ns G Y ho hd hcd hmg hobj hints hlen hg=>?_
 have KX:=hY w _ Y
 obtain⟨fd,hb,hF⟩:=F w mg fa _ KX G.T.g hmg
 exact law_call KX G.T.g G.T.b G.T.builtins G.T.nolimit hg hobj hints (UC hlen hn2) hr hF hb (fun H hO hS=>hsp w H a ns hlen hO hS) fun H e s'=>hCX w H s₁ e s'
end L2
namespace L2
open PySem PySem.Spec PyProof.Rows
noncomputable def Xb(s:Stmt)(j:Nat):Stmt:=match s with
 | .ClassDef _ _ _ body _ _ _ _ _ _ _=>body.getD j (.Pass ⟨0,0,0,0⟩)
 | _ => .Pass ⟨0,0,0,0⟩
noncomputable def defArgs(s:Stmt):Arguments:=match s with
 | .FunctionDef _ a _ _ _ _ _ _ _ _=>a
 | _=>{posonlyargs:=[],args:=[],vararg:=none,kwonlyargs:=[],kw_defaults:=[],kwarg:=none,defaults:=[]}
noncomputable def defBody(s:Stmt):List Stmt:=match s with
 | .FunctionDef _ _ b _ _ _ _ _ _ _=>b
 | _=>[]
noncomputable def Zg(s:Stmt):Scope:=match s with
 | .FunctionDef _ _ _ _ _ _ sc _ _ _=>sc
 | _=>{kind := .function,names:=[],isGenerator:=false,isCoroutine:=false}
noncomputable abbrev CX0:CXT:=fun _ _ _ _ _ _=>False
abbrev E0:XK:=fun _ _ _=>False
theorem pass0{X:Cx}:Passes CX0 X E0:=fun _ _ _ _ _ _ _ h=>h.elim
structure Fun(K:Ua)(x qual:Str)(st:Stmt)(f:Addr)(fd:FuncData):Prop where
 ex:∃ (oc:Value) (od:Option Addr) (kV doc pm:Value) (an:Option Addr) (cdv ct:Value) (osl:Array (Option Value)),
  fd=PySem.W.fnOf x qual (defArgs st) (defBody st) (Zg st) .none kV doc pm an cdv ct∧K.lookup f=some ⟨oc,od,.func fd,osl⟩∧PySem.W.codeIn K cdv qual=true
 kp:PySem.W.keepIn K (.ref f)=true
section
variable {P:Program} {w:World} {K:Ua} {mg:Str→Option Value} {base:Heap}
theorem Fun.ok{x qual:Str}{st:Stmt}{f:Addr}{fd:FuncData}{N ps:List Str}{k:Nat}{sp:Sp}(F:Fun K x qual st f fd)(S:FnScope N ps (Zg st))(len:∀ vs H Q E,sp vs H Q E→vs.length=ps.length)
  (hbody:∀ (cdv:Value) (A:Around) (outer:List Env) (s:Shared) (H:Hp) (vs:List V) (Q:VK) (E:XK),Room k (A.deeper (envOfC qual (Zg st) s.heap.objs.size f cdv))→sp vs H Q E→
   ∃ t,PSs (cxOf CX0 P w K mg base N qual (Zg st) f cdv A outer s H E).nox (defBody st) t∧t {nx:=fun _ H'=>Q .non H',rt:=Q} (start N vs) H):FnOk P w K mg base CX0 (k+1) f fd ps sp:=by
 obtain⟨oc,od,kV,doc,pm,an,cdv,ct,osl,rfl,lk,hcd⟩:=F.ex
 refine Xck lk hcd S len fun A outer s H vs Q E hr hsp=>?_
 obtain⟨t,h,q⟩:=hbody cdv A outer s H vs Q E hr hsp
 exact⟨t,h.nox,q⟩
theorem Fun.binds{x qual:Str}{st:Stmt}{f:Addr}{fd:FuncData}{ps:List Str}(F:Fun K x qual st f fd)
  (h:∀ (kV doc pm:Value) (an:Option Addr) (cdv ct:Value) (us:List Value),us.length=ps.length→bindArgs (PySem.W.fnOf x qual (defArgs st) (defBody st) (Zg st) .none kV doc pm an cdv ct) ⟨us,[]⟩=pure (ps.zip us)):Binds K fd ps []:=by
 obtain⟨oc,od,kV,doc,pm,an,cdv,ct,osl,rfl,lk,hcd⟩:=F.ex
 exact .all (h kV doc pm an cdv ct)
theorem Zxj{x qual:Str}{st:Stmt}{f:Addr}{oc:Value}{od an:Option Addr}{osl:Array (Option Value)}{kV doc pm cdv ct:Value}(l:K.lookup f=some ⟨oc,od,.func (PySem.W.fnOf x qual (defArgs st) (defBody st) (Zg st) .none kV doc pm an cdv ct),osl⟩)
  (c:PySem.W.codeIn K cdv qual=true) (k:PySem.W.keepIn K (.ref f)=true):Fun K x qual st f (PySem.W.fnOf x qual (defArgs st) (defBody st) (Zg st) .none kV doc pm an cdv ct):=⟨⟨oc,od,kV,doc,pm,an,cdv,ct,osl,rfl,l,c⟩,k⟩
end
section
variable {X:Cx}
theorem pv(i:Nat){x:Str}{pos:Pos}(hN:X.N[i]?=some x:=by rfl)(hv:Vis X.env.scope x:=by first | exact Or.inl rfl | exact Or.inr (Or.inl rfl) | exact Or.inr (Or.inr rfl))(hd:(x == ("__debug__":Str))=false:=by decide)
  (hcd:(x == ("__classdict__":Str))=false:=by decide):PE X (.Name x pos) (tVar i):=Xbf hN hv hd hcd
end
theorem iteF{A B:Prop}(h:B):if false=true then A else B:=by
 rw[if_neg UI]
 exact h
theorem iteT{A B:Prop}(h:A):if true=true then A else B:=by
 rw[if_pos rfl]
 exact h
theorem iteNS{c A B:Prop}[Decidable c](hc:c)(h:B):if (!decide c)=true then A else B:=by
 rw[Ut hc]
 exact iteF h
def Same(H H':Hp):Prop:=∀ b o,H b=some o→H' b=some o
theorem Same.refl(H:Hp):Same H H:=fun _ _ h=>h
theorem Same.trans{H H1 H2:Hp}(a:Same H H1)(b:Same H1 H2):Same H H2:=fun c o h=>b c o (a c o h)
theorem Same.free{H H':Hp}(e:Same H H'){l:Addr}(h:H' l=Option.none):H l=Option.none:=by
 cases q:H l with
 | none=>rfl
 | some o =>
  rw[e l o q] at h
  cases h
theorem Same.seq{K:Ua}{H H':Hp}{a:Addr}{xs:List V}(e:Same H H')(h:SqL K H a xs):SqL K H' a xs:=by
 rcases h with(h | ⟨o,h⟩) | h
 ·exact .inl (.inl (e _ _ h))
 ·exact .inl (.inr ⟨o,e _ _ h⟩)
 ·exact .inr h
end L2
section
namespace TS
open PySem PyProof.Rows
section
variable {prog:Program} {w:World} {A:Around} {E:Value→Shared→Prop} {s:Shared} {κ:KeyKind}
noncomputable def kv(κ:KeyKind)(p:Keyed):κ.α:=(κ.keyOf p.1).getD κ.dflt
def Has(κ:KeyKind)(p:Keyed):Prop:=∃ a,κ.keyOf p.1=some a
def le(κ:KeyKind)(p q:Keyed):Prop:=κ.kle (kv κ p) (kv κ q)
structure MS(κ:KeyKind)(T out X Y:List Keyed):Prop where
 px:(out++X).Pairwise (le κ)
 py:(out++Y).Pairwise (le κ)
 pm:(out++X++Y).Perm T
variable {T out X Y P:List Keyed}
def Seg(κ:KeyKind)(arr:Array Keyed)(lo hi:Nat):Prop:=∀ i j (hi':i<arr.size) (hj:j<arr.size),lo≤i→i≤j→j<hi→le κ arr[i] arr[j]
section lo
variable {a b:Array Keyed} {o:Array Keyed} {ia ib k:Nat}
def R(κ:KeyKind)(a b:Array Keyed)(o:Array Keyed)(ia ib:Nat):Prop:=MS κ (a.toList++b.toList) o.toList (a.toList.drop ia) (b.toList.drop ib)
def Good(κ:KeyKind)(a b m:Array Keyed):Prop:=m.toList.Pairwise (le κ)∧m.toList.Perm (a.toList++b.toList)
end lo
noncomputable abbrev LS:=Option (Array Keyed)×Array Keyed×Nat×Nat×Nat×Nat×Nat
section lo2
variable {a b o:Array Keyed} {ia ib x:Nat} {st st3:SortSt} {Q:ForInStep LS→SortSt→Prop}
end lo2
section hi
variable {a b:Array Keyed} {o:Array Keyed} {na nb k:Nat}
end hi
noncomputable abbrev HS:=Option (Array Keyed)×Nat×Nat×Array Keyed×Nat×Nat×Nat
section hi2
variable {a b o:Array Keyed} {na nb x:Nat} {st st3:SortSt} {Q:ForInStep HS→SortSt→Prop}
end hi2
end
end TS
end
section
namespace TS
open PySem PyProof.Rows
section
variable {prog:Program} {w:World} {A:Around} {E:Value→Shared→Prop} {s:Shared} {κ:KeyKind}
structure Kp(κ:KeyKind)(st0:SortSt)(lo:Nat)(st:SortSt):Prop where
 perm:(arrOf st).Perm (arrOf st0)
 kind:kindOf st=oneType'
 failed:failedOf st=none
 pend:pendingOf st=pendingOf st0
 low:∀ j,j<lo→(arrOf st)[j]?=(arrOf st0)[j]?
 has:∀ p,p∈(arrOf st).toList→Has κ p
variable {st0 st:SortSt} {lo:Nat}
def KS(κ:KeyKind)(arr:Array Keyed)(lo hi:Nat):Prop:=∀ i j,lo≤i→i≤j→j<hi→κ.kle (KK κ arr i) (KK κ arr j)
def NI(κ:KeyKind)(arr:Array Keyed)(lo hi:Nat):Prop:=∀ i j,lo≤i→i≤j→j<hi→κ.kle (KK κ arr j) (KK κ arr i)
end
end TS
end
section
namespace TS
open PySem PyProof.Rows
section
variable {prog:Program} {w:World} {A:Around} {E:Value→Shared→Prop} {s:Shared} {κ:KeyKind}
noncomputable def Pd(κ:KeyKind)(arr:Array Keyed):List (Nat×Nat×Nat)→Nat→Nat→Prop
 | [],s,e=>s=e
 | p::ps,s,e=>p.1=s∧1≤p.2.1∧Seg κ arr s (s+p.2.1)∧Pd κ arr ps (s+p.2.1) e
structure G(κ:KeyKind)(a0:Array Keyed)(st:SortSt)(e:Nat):Prop where
 perm:(arrOf st).Perm a0
 kind:kindOf st=oneType'
 failed:failedOf st=none
 has:∀ p,p∈(arrOf st).toList→Has κ p
 pd:Pd κ (arrOf st) (pendingOf st).toList 0 e
variable {a0:Array Keyed} {st:SortSt} {e:Nat}
end
end TS
end
section
namespace L2
open PySem PySem.Spec PyProof.Rows
section
variable {X:Cx}
theorem Zcf:MtR X "int.bit_length" (fun x xs H Q=>∃ i,x = .int i∧xs=[]∧Q (.int ((Builtin.Int.intBits i:Nat):Int)) H):=by
 intro pins s σ H x xs v us Q I rx rv h
 obtain⟨i,rfl,rfl,q⟩:=h
 obtain⟨t,rfl⟩:=rx
 cases rv
 exact call_gives F.slot_int_bit_length (typeIs_int s i t) F.entry_int_bit_length (F.args_int_bit_length_1 _) (AutoIntG2.int_bit_length_int_0 i t) ⟨.int _,H,I.tok _,⟨_,rfl⟩,q⟩
theorem Zew:MtR X "str.startswith" (fun x xs H Q=>∃ y z,x = .str y∧xs=[.str z]∧Q (.bl (Txt.startswith y z)) H):=by
 intro pins s σ H x xs v us Q I rx rv h
 obtain⟨y,z,rfl,rfl,q⟩:=h
 obtain⟨t,rfl⟩:=rx
 obtain⟨u,rfl,t',rfl⟩:=rv.one
 exact call_gives F.slot_str_startswith (typeIs_str s y t) F.entry_str_startswith (F.args_str_startswith_2 _ _) (gives_str_startswith y z t t') ⟨.bl _,H,I,rfl,q⟩
theorem Zsx:∀ {ys:List Str} {its:List Value},Vals (ys.map V.str) its→StrsAre its ys
 | [],_,.nil => .nil
 | _::_,_,.cons ⟨_,e⟩ r=>by subst e;exact .cons _ _ (Zsx r)
theorem Zem:MtR X "str.join" (fun x xs H Q=>∃ y a ys,x = .str y∧xs=[.ref a]∧SqL X.K H a (ys.map V.str)∧(ys.map (·.length)).sum+ys.length*y.length≤16777216∧Q (.str (Txt.join y ys)) H):=by
 intro pins s σ H x xs v us Q I rx rv h
 obtain⟨y,a,ys,rfl,rfl,hq,hz,q⟩:=h
 obtain⟨t,rfl⟩:=rx
 obtain⟨u,rfl,ru⟩:=rv.one
 cases ru
 obtain⟨its,r,pl,_⟩:=I.list hq
 exact join_list pl.isList (by simpa using Zsx r) hz fun t' k=>⟨.str _,H,I.tok _,⟨_,rfl⟩,q⟩
theorem Zrz:OpR X (binaryOp .Mult) (fun x y H Q=>∃ z i,x = .str z∧y = .int i∧i<2 ^ 40∧-(2 ^ 40)<i∧z.length*i.toNat≤sizeLine∧Q (.str (Txt.mul z i)) H):=by
 intro pins s σ H x y v u Q I rx ry h
 obtain⟨z,i,rfl,rfl,h1,h2,h3,q⟩:=h
 obtain⟨t,rfl⟩:=rx
 obtain⟨t',rfl⟩:=ry
 refine SB.mul ⟨?_,fun h4 _=>?_,fun h4 _=>?_⟩ fun t' k=>⟨.str _,H,I.tok _,⟨_,rfl⟩,q⟩
 ·simp only[Bool.or_eq_false_iff,decide_eq_false_iff_not];omega
 ·intro c
  have hn:(0:Int)<i:=by omega
  have h63:=line63
  have e:(z.length:Int)*i≤2 ^ 63 - 1:=by
   have:((z.length*i.toNat:Nat):Int)=(z.length:Int)*i:=by rw[Int.natCast_mul];congr 1;omega
   omega
  have:=(Int.le_ediv_iff_mul_le hn).mpr e
  omega
 ·unfold Builtin.Str.tooLong;simpa using h3
theorem Zlv:CallR X (.type "int") (fun xs H Q=>∃ x n,xs=[.str x]∧PySem.intText? x=some n∧x.length≤640∧Q (.int n) H):=by
 intro pins s σ H xs us Q I r h
 obtain⟨x,n,rfl,hn,hl,q⟩:=h
 obtain⟨u,rfl,t,rfl⟩:=vals1 r
 exact PySem.W.KIN.call_text hn hl ⟨.int n,H,I.tok _,⟨_,rfl⟩,q⟩
theorem Xaz:SlR X (fun x lo hi H Q=>∃ z,x = .str z∧z.length≤sizeLine∧Q (.str (Txt.slice z lo hi)) H):=by
 intro pins s σ H x v vl vu lo hi sl Q I rx hs pl pu h
 obtain⟨z,rfl,hz,q⟩:=h
 obtain⟨t,rfl⟩:=rx
 refine⟨"str",_,F.slot_str_getitem.lookup,typeIs_str s z t,?_⟩
 have fin:∀ (t':Tok) (k:Nat),EP X pins σ Q (.str (Txt.slice z lo hi) t') {s with toks:=k}:=fun t' k=>⟨.str _,H,I.tok _,⟨_,rfl⟩,q⟩
 obtain⟨o,ho,hc,hd⟩:=hs
 cases pl with
 | none =>
  cases pu with
  | none=>exact wpAny_getItem_str_slice (l:=none) (u:=none) (st:=none) ⟨o,ho,hc,hd⟩ rfl (post_val_or_str ⟨UC (Txt.slice_le z _ _) hz,fin⟩)
  | int j uj=>exact wpAny_getItem_str_slice (l:=none) (u:=some (j,uj)) (st:=none) ⟨o,ho,hc,hd⟩ rfl (post_val_or_str ⟨UC (Txt.slice_le z _ _) hz,fin⟩)
 | int i ui =>
  cases pu with
  | none=>exact wpAny_getItem_str_slice (l:=some (i,ui)) (u:=none) (st:=none) ⟨o,ho,hc,hd⟩ rfl (post_val_or_str ⟨UC (Txt.slice_le z _ _) hz,fin⟩)
  | int j uj=>exact wpAny_getItem_str_slice (l:=some (i,ui)) (u:=some (j,uj)) (st:=none) ⟨o,ho,hc,hd⟩ rfl (post_val_or_str ⟨UC (Txt.slice_le z _ _) hz,fin⟩)
theorem Zrh:CallR X (.builtin "isinstance") (fun xs H Q=>∃ x T t b,xs=[x,.ty T]∧TyOf X.K H x t∧PySem.W.kitOne X.K t (.type T)=some b∧Q (.bl b) H):=by
 intro pins s σ H xs us Q I r h
 obtain⟨x,T,t,b,rfl,ty,e,q⟩:=h
 obtain⟨u,w',rfl,r1,r2⟩:=vals2 r
 cases (show w'=Value.type T from r2)
 exact Zmq I r1 ty e fun tk=>⟨.bl b,H,I.tok _,rfl,q⟩
theorem Zox:CallR X (.builtin "isinstance") (fun xs H Q=>∃ x C t b,xs=[x,.ref C]∧TyOf X.K H x t∧PySem.W.kitOne X.K t (.ref C)=some b∧Q (.bl b) H):=by
 intro pins s σ H xs us Q I r h
 obtain⟨x,C,t,b,rfl,ty,e,q⟩:=h
 obtain⟨u,w',rfl,r1,r2⟩:=vals2 r
 cases (show w'=Value.ref C from r2)
 exact Zmq I r1 ty e fun tk=>⟨.bl b,H,I.tok _,rfl,q⟩
end
noncomputable def Itc(lo c:Int)(n:Nat):It:=⟨fun i _=>i<n,fun i H x H'=>H'=H∧x = .int (lo+i*c),fun i _=>n≤i⟩
theorem Zpf{P:Program}{w:World}{K:Ua}{tg:Expr}(it:Addr)(lo c:Int)(n:Nat):Turn P w K tg (Itc lo c n) [it] it (fun i h=>IsRangeIter h it (lo+(i:Nat)*c) ((n:Int) - (i:Nat)) c) where
 mem:=by simp
 obj:=fun i h st b hb=>by
  have e:b=it:=by simpa using hb
  subst e
  exact⟨_,st,fun v z=>by
   have z':Data.fields _=Data.cell v:=z
   cases z'⟩
 keep:=fun i h h' st k=>k it (by simp) _ st
 item:=by
  intro X hP hw hK hc i pins s σ H E I hf st hg
  subst hP hw hK
  obtain⟨f0,f1,f2,f3,f4,f5⟩:=hf it (by simp)
  have W:=Walks.range (prog:=X.prog) (w:=X.w) (I.ok.hd hc) it lo c n
  refine W.item i s _ _ hg st fun v h' tk hv st' kk=>?_
  obtain⟨t,rfl⟩:=hv
  have I1:Inv X pins σ H {s with heap:=h',toks:=tk}:=I.turned (fun b o hb e=>kk b o (by simpa using hb) e) f0 f1 f3 f4 f5
  exact⟨_,rfl,Zqv (s:={s with heap:=h',toks:=tk}) (n:="range_iterator") st' rfl rfl (by decide) ⟨.int (lo+i*c),H,I1,⟨t,rfl⟩,⟨rfl,rfl⟩,st',fun b hb=>(hf b hb).1⟩⟩
 done:=by
  intro X hP hw hK hc i pins s σ H E I hf st hg
  subst hP hw hK
  obtain⟨f0,f1,f2,f3,f4,f5⟩:=hf it (by simp)
  exact wpAny_pyNext_range_end (I.ok.hd hc) st (by have:n≤i:=hg;omega) fun h' eb=>⟨rfl,I.turned (t':=s.toks) (fun b o hb e=>eb b o hb e) f0 f1 f3 f4 f5⟩
 self:=fun _ _ _ _ _ st h=>wpAny_pyIter_rangeiter st h
section
variable {X:Cx} {tg:Expr}
def iRngD(ta:TA):TI:=fun σ H R=>ta σ H fun vs H1=>∃ i j:Int,vs=[.int i,.int j,.int (-1)]∧(-(2 ^ 61)≤i∧i<2 ^ 61∧-(2 ^ 61)≤j∧j<2 ^ 61)∧R (Itc i (-1) (i - j).toNat) H1
end
end L2
end
section
namespace L2
open PySem PySem.Spec PyProof.Rows
section
variable {X:Cx} {tg:Expr}
theorem Zrp{a b:Int}(ha : -(2 ^ 61)≤a)(ha':a<2 ^ 61)(hb : -(2 ^ 61)≤b)(hb':b<2 ^ 61):Builtin.Range.small a b (-1)=true:=by
 unfold Builtin.Range.small Builtin.Range.rangeSize
 simp only[Builtin.Range.rangeFitsLong,UN,Bool.or_eq_true,UW,beq_iff_eq,show ¬((-1:Int) > 0) by decide,if_false,Int.neg_neg,Int.ediv_one]
 split<;>omega
theorem Zkc(a b:Int):Builtin.Range.rangeSize a b (-1)=(((a - b).toNat:Nat):Int):=by
 unfold Builtin.Range.rangeSize
 rw[if_neg (by decide)]
 simp only[Int.neg_neg,Int.ediv_one]
 split<;>omega
theorem Zmg{a b c:Expr}{ta:TA}{p pos:Pos}(hg:Gl X "range")(hm:X.mg "range"=none)(ha:PA X [a,b,c] ta)
  (hs:starEach [a,b,c] X.env=[(false,eval a X.env),(false,eval b X.env),(false,eval c X.env)]:=by rfl) (hs2:starEach [b,c] X.env=[(false,eval b X.env),(false,eval c X.env)]:=by rfl) :
  PI X tg (.Call (.Name "range" p) [a,b,c] [] pos) (iRngD ta):=by
 intro pins s σ H R I h
 refine Call_ (Zbu I hg hm boot_range (PyProof.Rows.callWith_type1 (thn (ha pos pins s σ H _ I h) fun us s1 ⟨vs,H1,I1,r1,q1⟩=>?_) (by rw[hs,hs2]) (by rw[hs2];rfl)))
 obtain⟨i,j,e,⟨q1,q2,q3,q4⟩,q⟩:=q1
 subst e
 cases r1 with
 | cons r rr =>
  cases rr with
  | cons r' rr =>
   cases rr with
   | cons r'' rr =>
    cases rr
    obtain⟨t,rfl⟩:=r
    obtain⟨t',rfl⟩:=r'
    obtain⟨t'',rfl⟩:=r''
    refine call_range_3 (by decide) ?_ (.inl (PyProof.noPylong_small (by decide)))
    refine wpAny_pyIter_range (IsRange.new ..) (Zrp q1 q2 q3 q4) ?_
    have I2:Inv X pins σ H1 {s1 with heap:=s1.heap.push {cls := .type "range",data := .fields #[.int i t,.int j t',.int (-1) t'']}}:=I1.kept (t':=s1.toks) fun b o e=>Us _ e
    refine⟨_,[_],_,_,H1,rfl,I2.kept (t':=s1.toks) fun b o e=>Us _ e,Zpf _ i (-1) (i - j).toNat,?_,fun b hb=>?_,q⟩
    ·have e1:i+((0:Nat):Int)*(-1)=i:=by simp
     have e2:(((i - j).toNat:Nat):Int) - ((0:Nat):Int)=Builtin.Range.rangeSize i j (-1):=by rw[Zkc];simp
     show IsRangeIter _ _ (i+((0:Nat):Int)*(-1)) ((((i - j).toNat:Nat):Int) - ((0:Nat):Int)) (-1)
     rw[e1,e2]
     exact UG _ rfl
    ·have e:=UD.mp hb
     subst e
     exact I2.fpOk (Up _) (I2.hok.fresh (Up _))
end
noncomputable def Its(x:Str):It:=⟨fun i _=>i<x.cps.size,fun i H v H'=>H'=H∧∃ c,x.cps[i]?=some c∧v = .str ⟨#[c]⟩,fun i _=>x.cps.size≤i⟩
section
variable {X:Cx} {tg:Expr}
theorem Zpe{P:Program}{w:World}{K:Ua}{tg:Expr}(x:Str)(it:Addr)(n:String)(t:Tok)(W:∀ A':Around,A'.handled=none→Walks P w A' it [it] [it] x.cps.size (SignAt x) (fun i h=>h.IsStrIter it n x t i))
  (hn:["enumerate","zip","dict_itemiterator","dict_reverseitemiterator","odict_iterator","itertools.zip_longest","itertools.pairwise"].contains n=false)
  (hdone:∀ (A:Around) (i:Nat) (s:Shared) (Q:Option Value→Shared→Prop) (E:Value→Shared→Prop),A.handled=none→s.heap.IsStrIter it n x t i→x.cps.size≤i→(∀ h',(∀ b o,b≠it→s.heap.get? b=some o→h'.get? b=some o)→Q none {s with heap:=h'})→wpAny (model P w) A (pyNext (.ref it)) Q E s)
  (hself:∀ (A:Around) (i:Nat) (s:Shared) (Q:Value→Shared→Prop) (E:Value→Shared→Prop),s.heap.IsStrIter it n x t i→Q (.ref it) s→wpAny (model P w) A (pyIter (.ref it)) Q E s) :
  Turn P w K tg (Its x) [it] it (fun i h=>h.IsStrIter it n x t i) where
 mem:=by simp
 obj:=fun i h st b hb=>by
  have e:b=it:=by simpa using hb
  subst e
  obtain⟨o,ho,hc,hd⟩:=st
  exact⟨o,ho,fun v z=>by rw[hd] at z;cases z⟩
 keep:=fun i h h' st k=>by
  obtain⟨o,ho,r⟩:=st
  exact⟨o,k it (by simp) o ho,r⟩
 item:=by
  intro X hP hw hK hc i pins s σ H E I hf st hg
  subst hP hw hK
  obtain⟨f0,f1,f2,f3,f4,f5⟩:=hf it (by simp)
  refine(W X.A (I.ok.hd hc)).item i s _ _ hg st fun v h' tk hv st' kk=>?_
  obtain⟨c,u,hc',rfl⟩:=hv
  have I1:Inv X pins σ H {s with heap:=h',toks:=tk}:=I.turned (fun b o hb e=>kk b o (by simpa using hb) e) f0 f1 f3 f4 f5
  obtain⟨o,ho,hcl,hd⟩:=id st'
  exact⟨_,rfl,Zqv (s:={s with heap:=h',toks:=tk}) (n:=n) ho hcl hd hn ⟨.str ⟨#[c]⟩,H,I1,⟨u,rfl⟩,⟨rfl,c,hc',rfl⟩,st',fun b hb=>(hf b hb).1⟩⟩
 done:=by
  intro X hP hw hK hc i pins s σ H E I hf st hg
  subst hP hw hK
  obtain⟨f0,f1,f2,f3,f4,f5⟩:=hf it (by simp)
  exact hdone X.A i s _ _ (I.ok.hd hc) st hg fun h' eb=>⟨rfl,I.turned (t':=s.toks) (fun b o hb e=>eb b o hb e) f0 f1 f3 f4 f5⟩
 self:=fun A i s Q E st h=>hself A i s Q E st h
def iStr(tl:TE):TI:=fun σ H R=>tl σ H fun x H1=>∃ y,x = .str y∧R (Its y) H1
theorem Xbd{l:Expr}{tl:TE}(hl:PE X l tl):PI X tg l (iStr tl):=by
 intro pins s σ H R I h
 refine thn (hl pins s σ H _ I h) fun v s1 zq=>?_
 obtain⟨x,H1,I1,r1,q1⟩:=zq
 obtain⟨y,e,q⟩:=q1
 subst e
 obtain⟨t,rfl⟩:=r1
 have fin:∀ (o:Obj) (tn:Nat→Heap→Prop),Turn X.prog X.w X.K tg (Its y) [s1.heap.objs.size] s1.heap.objs.size tn→tn 0 (s1.heap.push o)→PIE X pins σ tg R (.ref s1.heap.objs.size) {s1 with heap:=s1.heap.push o}:=fun o tn T h0=>by
  refine⟨s1.heap.objs.size,[s1.heap.objs.size],tn,Its y,H1,rfl,I1.kept (t':=s1.toks) fun b o e=>Us _ e,T,h0,fun b hb=>?_,q⟩
  have e:=UD.mp hb
  subst e
  exact I1.fpOk (Up _) (I1.hok.fresh (Up _))
 cases ha:y.cps.all (· < 128)
 ·refine wpAny_pyIter_wide ha (fin _ _ (Zpe y _ "str_iterator" t (fun A' hA=>Walks.strWide hA _ y t) (by decide) (fun A i s Q E hh st hi hQ=>?_) fun A i s Q E st hq=>wpAny_pyIter_striter_wide st hq) ⟨_,UG _ rfl,rfl,rfl⟩)
  exact wpAny_pyNext_wide_end hh st (by simpa using hi) fun h' he'=>hQ h' fun b o hb e=>he' b o hb e
 ·refine wpAny_pyIter_ascii ha (fin _ _ (Zpe y _ "str_ascii_iterator" t (fun A' hA=>Walks.strAscii hA _ y t) (by decide) (fun A i s Q E hh st hi hQ=>?_) fun A i s Q E st hq=>wpAny_pyIter_striter_ascii st hq) ⟨_,UG _ rfl,rfl,rfl⟩)
  exact wpAny_pyNext_ascii_end hh st (by simpa using hi) fun h' he'=>hQ h' fun b o hb e=>he' b o hb e
end
noncomputable def compScopeOk(sc:Scope)(cs:List Str):Bool :=
 sc.kind == .function&&sc.names.all (fun y=>y.2 != .cell)&&sc.names.all (fun y=>y.2 != .local||sc.names.lookup y.1 == some .local) &&
  sc.names.all (fun y=>y.2 != .free||cs.contains y.1)&&cs.all (fun x=>sc.names.lookup x == some .free)
noncomputable def CapsOk(X:Cx):List (Nat×Str)→Prop
 | []=>True
 | (j,x)::r=>X.N[j]?=some x∧(X.env.kindOf x=some .cell∨X.env.kindOf x=some .free)∧CapsOk X r
theorem CapsOk.at{X:Cx}:∀ {cs:List (Nat×Str)},CapsOk X cs→∀ p∈cs,X.N[p.1]?=some p.2∧(X.env.kindOf p.2=some .cell∨X.env.kindOf p.2=some .free)
 | [],_,_,h=>nomatch h
 | (j,x)::r,⟨h1,h2,h3⟩,p,h=>by
  rcases Um.mp h with e | e
  ·subst e;exact⟨h1,h2⟩
  ·exact CapsOk.at h3 p e
noncomputable def cxComp(X:Cx)(scope:Scope)(cl:List (Str×Addr))(C:Addr)(N:List Str)(s2:Shared)(H2:Hp)(fp:List Addr):Cx where
 prog:=X.prog
 w:=X.w
 K:=X.K
 mg:=X.mg
 base:=X.base
 A:=X.A
 N:=N
 s₀:=s2
 H₀:=H2
 env:=compEnvC scope cl C X.env
 outer:=X.stack
 stack:=X.stack
 ex:=fp
 calm:=X.calm
 fn:=fun _=>false
 pn:=[]
 xe:=fun _ _=>False
theorem Zft{env:Env}:∀ (names:List (Str×NameKind)),(∀ y∈names,y.2 = .free→∃ c,env.cells.lookup y.1=some c)→
  ∀ acc:List (Str×Addr),(∀ x c,acc.lookup x=some c→env.cells.lookup x=some c)→∃ cl,
  (forIn names acc fun(x:Str×NameKind) r=>do
   if x.2 == .free then pure (ForInStep.yield ((x.1,← cellOf env x.1)::r)) else pure (ForInStep.yield r):Sem (List (Str×Addr)))=pure cl∧
  (∀ x c,cl.lookup x=some c→env.cells.lookup x=some c)∧(∀ y∈names,y.2 = .free→∃ c,cl.lookup y.1=some c)∧∀ x c,acc.lookup x=some c→∃ c',cl.lookup x=some c'
 | [],_,acc,ha=>⟨acc,rfl,ha,(fun _ h=>nomatch h),fun _ c h=>⟨c,h⟩⟩
 | (n,k)::r,hn,acc,ha=>by
  by_cases hk:k = .free
  ·subst hk
   obtain⟨c,hc⟩:=hn _ Ux rfl
   have ha':∀ x c',((n,c)::acc).lookup x=some c'→env.cells.lookup x=some c':=fun x c' e=>by
    rw[List.lookup_cons] at e
    by_cases hx:x=n
    ·subst hx
     rw[beq_self_eq_true] at e
     cases e
     exact hc
    ·rw[beq_false_of_ne hx] at e
     exact ha x c' e
   obtain⟨cl,e,h1,h2,h3⟩:=Zft r (fun y hy=>hn y (Ul _ hy)) ((n,c)::acc) ha'
   refine⟨cl,?_,h1,fun y hy hf=>?_,fun x c' hx=>?_⟩
   ·rw[List.forIn_cons]
    simp only[cellOf,hc,beq_self_eq_true,if_true]
    exact e
   ·rcases Um.mp hy with e' | e'
    ·subst e'
     exact h3 n c (by rw[List.lookup_cons,beq_self_eq_true])
    ·exact h2 y e' hf
   ·by_cases hxn:x=n
    ·subst hxn
     exact h3 x c (by rw[List.lookup_cons,beq_self_eq_true])
    ·exact h3 x c' (by rw[List.lookup_cons,beq_false_of_ne hxn];exact hx)
  ·obtain⟨cl,e,h1,h2,h3⟩:=Zft r (fun y hy=>hn y (Ul _ hy)) acc ha
   refine⟨cl,?_,h1,fun y hy hf=>?_,h3⟩
   ·rw[List.forIn_cons]
    have hb:(k == NameKind.free)=false:=by simpa using hk
    simp only[hb,Bool.false_eq_true,if_false]
    exact e
   ·rcases Um.mp hy with e' | e'
    ·subst e'
     exact absurd hf hk
    ·exact h2 y e' hf
end L2
end
section
namespace L2
open PySem PySem.Spec PyProof.Rows
def CompGo(J:It)(g:TG)(tc:TT)(te:TE)(Q:VK)(σ0:St)(H1:Hp)(D:Addr):Prop :=
 ∃ W:Nat→Nat→St→Hp→Prop,(∃ m,W 0 m σ0 (upd H1 D (.lst [])))∧∀ i m σ1 H2,W i m σ1 H2→
  (J.stop i H2∧Q (.ref D) H2)∨
  (J.go i H2∧∀ x H3,J.yld i H2 x H3→g x σ1 H3 fun σ2 H4=>tc σ2 H4 fun b H5 =>
   if b=true then te σ2 H5 fun y H6=>∃ xs m',H6 D=some (.lst xs)∧xs.length<sizeLine∧m'<m∧W (i+1) m' σ2 (upd H6 D (.lst (xs++[y])))
   else ∃ m',m'<m∧W (i+1) m' σ2 H5)
def tComp(wi:TI)(g:TG)(tc:TT)(te:TE)(σ0:St→St):TE:=fun σ H Q=>wi σ H fun J H1=>∀ D,H1 D=none→CompGo J g tc te Q (σ0 σ) H1 D
def tYes:TT:=fun _ H Q=>Q true H
def PTs(X:Cx)(ifs:List Expr)(t:TT):Prop :=
 ∀ (pins:List (Addr×Obj)) (s:Shared) (σ:St) (H:Hp) (Q:Bool→Hp→Prop),Inv X pins σ H s→t σ H Q→
  wpAny (model X.prog X.w) X.A (forIn ifs true fun c r=>if r=true then do let ok ← isTrue c X.env (eval c X.env);pure (ForInStep.yield ok) else pure (ForInStep.yield r)) (TP X pins σ Q) X.xe s
theorem Xs{X:Cx}:PTs X [] tYes:=fun _ _ _ H _ I h=>wpAny_tests_nil ⟨H,I,h⟩
theorem Zze{X:Cx}{c:Expr}{t:TT}(h:PT X c t):PTs X [c] t:=fun pins s σ H Q I q=>wpAny_tests_one (h pins s σ H Q I q)
section
variable {prog:Program} {w:World} {A:Around} {E:Value→Shared→Prop} {R:Result→Shared→Prop} {s:Shared}
theorem Zot{elt target iter:Expr}{ifs:List Expr}{scope:Scope}{pos:Pos}{it acc:Value}{env:Env}(I:Nat→Shared→Prop)
  (turn:∀ n s,I n s→wpAny (model prog w) A (pyNext it) (fun r s₁=>match r with
   | none=>R (.ok .next) s₁
   | some v=>wpAny (model prog w) A (letOwnedTupleGo target it v) (fun _ s₁'=>wpAny (model prog w) A (assign target env v) (fun _ s₂ =>
     wpAny (model prog w) A (forIn ifs true fun c r=>if r=true then do let ok ← isTrue c env (eval c env);pure (ForInStep.yield ok) else pure (ForInStep.yield r)) (fun ok s₃ =>
      if ok=true then wpAny (model prog w) A (eval elt env) (fun x s₄ =>
       wpAny (model prog w) A (call (.builtin "list.append") [acc,x]) (fun _ s₅=>∃ m,m<n∧I m s₅) (notedBy (model prog w) A env fun e s'=>R (.error e) s') s₄) (notedBy (model prog w) A env fun e s'=>R (.error e) s') s₃
      else ∃ m,m<n∧I m s₃) (notedBy (model prog w) A env fun e s'=>R (.error e) s') s₂) (notedBy (model prog w) A env fun e s'=>R (.error e) s') s₁') (notedBy (model prog w) A env fun e s'=>R (.error e) s') s₁) (notedBy (model prog w) A env fun e s'=>R (.error e) s') s)
  (n:Nat) (h:I n s) :
  codeAny (model prog w) A (.compLoop (.ListComp elt [⟨target,iter,ifs,0⟩] scope pos) 0 it acc env) R s:=by
 refine codeAny_loop rfl I (fun n s hI=>?_) n h
 show wpAny _ A ((compTurn (.ListComp elt [⟨target,iter,ifs,0⟩] scope pos) 0 it acc env).onRaise (fun x=>do noteFrame x env;theTreesLotGoes x)) _ _ s
 refine wpAny_noted ?_
 rw[compTurn_list]
 refine wpAny_bind (wpAny_standAt (wpAny_bind (wpAny_mono (turn n s hI) (fun r s₁ h₁=>?_) fun _ _ h'=>h')))
 cases r with
 | none=>exact wpAny_pure h₁
 | some v =>
  refine wpAny_bind (wpAny_mono h₁ (fun _ s₁' h₁'=>?_) fun _ _ h'=>h')
  refine wpAny_bind (wpAny_mono h₁' (fun _ s₂ h₂=>wpAny_bind (wpAny_mono h₂ (fun ok s₃ h₃=>?_) fun _ _ h'=>h')) fun _ _ h'=>h')
  cases ok with
  | false=>exact wpAny_pure ⟨rfl,h₃⟩
  | true =>
   exact wpAny_bind (wpAny_bind (wpAny_mono h₃ (fun x s₄ h₄=>wpAny_bind (wpAny_mono h₄ (fun _ s₅ h₅=>wpAny_pure (wpAny_pure ⟨rfl,h₅⟩)) fun _ _ h'=>h')) fun _ _ h'=>h'))
end
section
variable {X:Cx} {elt target iter:Expr} {ifs:List Expr} {scope:Scope} {pos p:Pos} {caps:List (Nat×Str)} {tgs:List Str} {wi:TI} {g:TG} {tc:TT} {te:TE}
noncomputable def compSt(tgs:List Str)(caps:List (Nat×Str)):St→St:=fun σ=>List.replicate tgs.length none++caps.map fun p=>(σ[p.1]?).join
theorem Zgc{env:Env}:∀ {names:List (Str×NameKind)} {x:Str},names.lookup x=some .free→
  ((names.map fun(n,k)=>if (k == NameKind.free&&env.scope.kind == .function&&env.kindOf n == some .cell) then (n,NameKind.cell) else (n,k)).lookup x=some .cell∨
   (names.map fun(n,k)=>if (k == NameKind.free&&env.scope.kind == .function&&env.kindOf n == some .cell) then (n,NameKind.cell) else (n,k)).lookup x=some .free)
 | [],_,h=>by cases h
 | (n,k)::r,x,h=>by
  rw[List.lookup_cons] at h
  rw[UP]
  by_cases hx:x=n
  ·subst hx
   rw[beq_self_eq_true] at h
   cases h
   dsimp only
   split
   ·exact .inl (by rw[List.lookup_cons,beq_self_eq_true])
   ·exact .inr (by rw[List.lookup_cons,beq_self_eq_true])
  ·rw[beq_false_of_ne hx] at h
   have ih:=Zgc (env:=env) h
   dsimp only
   split<;>(rw[List.lookup_cons,beq_false_of_ne hx];exact ih)
theorem Zgd{env:Env}:∀ {names:List (Str×NameKind)} {x:Str},((names.map fun(n,k)=>if (k == NameKind.free&&env.scope.kind == .function&&env.kindOf n == some .cell) then (n,NameKind.cell) else (n,k)).lookup x=some .cell∨
   (names.map fun(n,k)=>if (k == NameKind.free&&env.scope.kind == .function&&env.kindOf n == some .cell) then (n,NameKind.cell) else (n,k)).lookup x=some .free)→(∀ y∈names,y.2≠.cell)→names.lookup x=some .free
 | [],_,h,_=>by rcases h with h | h<;>cases h
 | (n,k)::r,x,h,hn=>by
  rw[List.lookup_cons]
  by_cases hx:x=n
  ·subst hx
   rw[beq_self_eq_true]
   have hk:=hn _ Ux
   rw[UP] at h
   dsimp only at h
   split at h
   ·rename_i c
    simp only[UN,beq_iff_eq] at c
    exact congrArg some c.1.1
   ·rw[List.lookup_cons,beq_self_eq_true] at h
    rcases h with h | h
    ·cases h;exact absurd rfl hk
    ·exact h
  ·rw[beq_false_of_ne hx]
   refine Zgd (env:=env) ?_ fun y hy=>hn y (Ul _ hy)
   rw[UP] at h
   dsimp only at h
   split at h<;>(rw[List.lookup_cons,beq_false_of_ne hx] at h;exact h)
theorem Zac:∀ {names:List (Str×NameKind)} {x:Str} {k:NameKind},names.lookup x=some k→(x,k)∈names
 | [],_,_,h=>by cases h
 | (n,k')::r,x,k,h=>by
  rw[List.lookup_cons] at h
  by_cases hx:x=n
  ·subst hx
   rw[beq_self_eq_true] at h
   cases h
   exact Ux
  ·rw[beq_false_of_ne hx] at h
   exact Ul _ (Zac h)
set_option maxHeartbeats 1000000
theorem Zmz{use:Option (Value→Sem Unit)}{Qf:Value→Shared→Prop}{pins:List (Addr×Obj)}{σ:St}{H:Hp}{s:Shared}{Q:VK}
  (hc:X.calm=true) (hsc:compScopeOk scope (caps.map (·.2))=true) (hcap:CapsOk X caps) (hi:PI X target iter wi)
  (hg:∀ cl C s2 H2 fp,PG (cxComp X scope cl C (tgs++caps.map (·.2)) s2 H2 fp) target g)
  (ht:∀ cl C s2 H2 fp,PTs (cxComp X scope cl C (tgs++caps.map (·.2)) s2 H2 fp) ifs tc)
  (he:∀ cl C s2 H2 fp,PE (cxComp X scope cl C (tgs++caps.map (·.2)) s2 H2 fp) elt te)
  (I:Inv X pins σ H s) (h:tComp wi g tc te (compSt tgs caps) σ H Q)
  (fin:∀ D C H' s',Inv X pins σ H' s'→Q (.ref D) H'→H' C=none→C≠X.env.locals→X.s₀.heap.objs.size≤C→(∀ x c,X.env.cells.lookup x=some c→c≠C)→(∀ p∈X.pn++pins,p.1≠C)→(∃ m,s'.heap.Ns C m)→
   compPost (model X.prog X.w) X.A X.xe use Qf (.ref D) C (.ok .next) s')
  (hs:∀ x,foldedSetIterable iter X.env x=pure x:=by intro _;rfl) :
  wpAny (model X.prog X.w) X.A (comprehension (.ListComp elt [⟨target,iter,ifs,0⟩] scope pos) scope X.env p (newList []) false (eval iter X.env) use) Qf X.xe s:=by
 simp only[compScopeOk,UN,Ve,beq_iff_eq,bne_iff_ne,Bool.or_eq_true,List.contains_iff_mem] at hsc
 obtain⟨⟨⟨⟨k1,k2⟩,k3⟩,k4⟩,k5⟩:=hsc
 have hnames:∀ y∈scope.names,y.2 = .local→scope.names.lookup y.1=some .local:=fun y hy hl=>(k3 y hy).resolve_left fun z=>z hl
 have capAt:=hcap.at
 have hfr:∀ y∈scope.names,y.2 = .free→∃ c,X.env.cells.lookup y.1=some c:=fun y hy hf=>by
  have hm:=(k4 y hy).resolve_left fun z=>z hf
  obtain⟨q,hq,e⟩:=List.mem_map.mp hm
  have:=(capAt q hq).2
  rw[e] at this
  exact I.ok.has _ this
 obtain⟨cl,hcl,hin,hall,_⟩:=Zft scope.names hfr [] (fun x c e=>by cases e)
 have hclos:closureFor scope X.env=pure cl:=by
  refine(show closureFor scope X.env=(_ >>= pure) from rfl).trans ((congrArg (· >>= pure) hcl).trans ?_)
  rfl
 refine wpAny_comprehension_free (use:=use) rfl hs hclos k1 hnames (thn (hi pins s σ H _ I h) fun v s1 h1=>thn h1 fun itv s2 h2=>?_)
 obtain⟨it,fp,tn,J,H2,e,I2,T,st2,f2,hW⟩:=h2
 subst e
 have fD:H2 s2.heap.objs.size=none:=I2.fresh
 obtain⟨W,⟨m0,w0⟩,turn⟩:=hW _ fD
 refine wpAny_newObj_type (wpAny_newFunctionEnv k2 (by intro y hy;simp at hy) (fun h₁ hns₁ hsb₁=>?_) k1)
 dsimp only at hns₁ hsb₁ ⊢
 generalize hH3:s2.heap.push {cls := .type "list",dict:=none,data := .seq ([]:List Value).toArray}=H3 at hns₁ hsb₁ ⊢
 have hC:H3.objs.size=s2.heap.objs.size+1:=by rw[← hH3,Heap.size_push]
 have hDC:s2.heap.objs.size≠H3.objs.size:=by rw[hC];exact UR (Nat.lt_succ_self _)
 have hCle:s2.heap.objs.size≤H3.objs.size:=by rw[hC];exact Nat.le_succ _
 have below:∀ b,b<s2.heap.objs.size→b≠H3.objs.size:=fun b hb=>by rw[hC];exact UR (Nat.lt_succ_of_lt hb)
 have old:∀ b o,s2.heap.get? b=some o→h₁.get? b=some o:=fun b o e=>hsb₁.extBut b o (below b (UL e)) (Us _ (hH3 ▸ Us _ e))
 have hacc:h₁.get? s2.heap.objs.size=some {cls := .type "list",dict:=none,data := .seq ([]:List Value).toArray}:=hsb₁.extBut _ _ hDC (Us _ (hH3 ▸ UG _ rfl))
 have fC:H2 H3.objs.size=none:=I2.hok.fresh hCle
 have fpl:∀ b∈fp,b<s2.heap.objs.size:=fun b hb=>by
  obtain⟨o,ho,_⟩:=T.obj _ _ st2 b hb
  exact UL ho
 let X':=cxComp X scope cl H3.objs.size (tgs++caps.map (·.2)) s2 H2 fp
 have ok':X'.Ok:=by
  refine⟨I2.ok.mod,k1,I2.ok.glob,I2.ok.blt,hCle,fun x y c hx hy=>I2.ok.inj x y c (hin _ _ hx) (hin _ _ hy),fun x hx=>?_,(fun x c hf=>nomatch hf),I2.ok.hd,I2.ok.frames,.inl rfl,fun b hb=>⟨below b (fpl b hb),fun x c hx=>(f2 b hb).2.2.2.2.1 x c (hin _ _ hx)⟩,I2.bs,
   UC I2.ok.bsz I2.sz,fun b o e hb=>?_,fun b hb z=>?_,I2.stack,I2.stkFree⟩
  ·exact hall (x,.free) (Zac (Zgd hx k2)) rfl
  ·rcases(f2 b hb).2.2.2.1 with z | z
   ·exact I2.ok.noex b o e z
   ·exact absurd (UA (UL e) I2.ok.bsz) (Nat.not_lt.mpr z)
  ·rcases Um.mp (I2.stkSub b z) with q | q
   ·exact(f2 b hb).2.1 q
   ·exact(f2 b hb).2.2.1 q
 have un4:Un (frs X.stack) fp H2 (upd H2 s2.heap.objs.size (.lst [])) s2.heap h₁:=Un.laid old (Up _) fD
 have hok4:HOk X.prog X.w (upd H2 s2.heap.objs.size (.lst [])) h₁:=I2.hok.laid old (Up _) ⟨UF _,[],0,.nil,hacc⟩
 have I4:∀ tk,Inv X' [] (compSt tgs caps σ) (upd H2 s2.heap.objs.size (.lst [])) {s2 with heap:=h₁,toks:=tk}:=fun tk=>by
  refine⟨ok',rfl,I2.bare,un4,⟨_,hns₁,fun i x v e1 e2 e3=>?_⟩,fun x c hx=>?_,?_,fun x c hx=>?_,fun q hq=>?_,hok4,?_⟩
  ·
   obtain⟨m2,_,hl2⟩:=I2.loc
   have hlt:tgs.length≤i:=by
    rcases UZ i tgs.length with z | z
    ·have:(compSt tgs caps σ)[i]?=some none:=by
      unfold compSt
      rw[List.getElem?_append_left (by simpa using z),List.getElem?_replicate,if_pos z]
     rw[this] at e2
     cases e2
    ·exact z
   have e1':(tgs++caps.map (·.2))[i]?=some x:=e1
   rw[List.getElem?_append_right hlt,Ur] at e1'
   have e2':(caps.map fun p=>(σ[p.1]?).join)[i - tgs.length]?=some (some v):=by
    have:(compSt tgs caps σ)[i]?=(caps.map fun p=>(σ[p.1]?).join)[i - tgs.length]?:=by
     unfold compSt
     rw[List.getElem?_append_right (by simpa using hlt),List.length_replicate]
    rw[← this]
    exact e2
   rw[Ur] at e2'
   cases hq:caps[i - tgs.length]? with
   | none=>rw[hq] at e1';cases e1'
   | some q =>
    rw[hq] at e1' e2'
    obtain rfl:q.2=x:=Ub e1'
    have e2'':(σ[q.1]?).join=some v:=Ub e2'
    have hσ:σ[q.1]?=some (some v):=by
     cases z:σ[q.1]? with
     | none=>rw[z] at e2'';cases e2''
     | some y=>rw[z] at e2'';exact congrArg some e2''
    have hqm:q∈caps:=Uv hq
    obtain⟨n1,n2⟩:=capAt q hqm
    have hvis:Vis X.env.scope q.2:=by
     rcases n2 with z | z
     ·exact .inr (.inl z)
     ·exact .inr (.inr z)
    obtain⟨u,ru,lk⟩:=hl2 q.1 q.2 v n1 hσ hvis
    have hfree:scope.names.lookup q.2=some .free:=k5 q.2 (List.mem_map_of_mem hqm)
    refine⟨u,ru,.inr ⟨Zgc hfree,?_⟩⟩
    rcases lk with⟨z,_⟩ | ⟨_,c,hcc,oc,hoc,hocd⟩
    ·rcases n2 with y | y<;>(rw[y] at z;cases z)
    ·obtain⟨c',hc'⟩:=hall (q.2,.free) (Zac hfree) rfl
     have:=hin _ _ hc'
     rw[hcc] at this
     cases this
     exact⟨c,hc',oc,old _ _ hoc,hocd⟩
  ·obtain⟨v,o,ho,hd⟩:=I2.cell x c (hin _ _ hx)
   exact⟨v,o,old _ _ ho,hd⟩
  ·show upd H2 s2.heap.objs.size (.lst []) H3.objs.size=none
   rw[Zn (Uh hDC)]
   exact fC
  ·have hcf:=I2.freeC x c (hin _ _ hx)
   obtain⟨v,o,ho,hd⟩:=I2.cell x c (hin _ _ hx)
   rw[Zn (UR (UL ho))]
   exact hcf
  ·have:q∈([]:List (Addr×Obj)):=hq
   cases this
  ·show (compSt tgs caps σ).length=(tgs++caps.map (·.2)).length
   simp[compSt]
 have stat:∀ {pins':List (Addr×Obj)} {H':Hp},(∀ b∈fp,H' b=none)→(∀ q∈pins',q.1∉fp)→∀ b∈fp,FpOk X' pins' H' b:=fun hn hp b hb =>
  ⟨hn b hb,below b (fpl b hb),fun z=>by
   rcases Um.mp (I2.stkSub b z) with q | q
   ·exact(f2 b hb).2.1 q
   ·exact(f2 b hb).2.2.1 q,.inl hb,fun x c hx=>(f2 b hb).2.2.2.2.1 x c (hin _ _ hx),fun q hq z=>hp q hq (z ▸ hb)⟩
 have noPin:∀ q∈([]:List (Addr×Obj)),q.1∉fp:=fun _ z=>nomatch z
 have tn0:tn 0 h₁:=T.keep _ _ _ st2 fun b hb o e=>old b o e
 have fr0:∀ b∈fp,(upd H2 s2.heap.objs.size (.lst [])) b=none:=fun b hb=>by
  rw[Zn (UR (fpl b hb))]
  exact(f2 b hb).1
 have loop:∀ s₃:Shared,s₃={s2 with heap:=h₁,toks:=s2.toks+([]:List (Str×Value)).length}→
   codeAny (model X.prog X.w) X.A (.compLoop (.ListComp elt [⟨target,iter,ifs,0⟩] scope pos) 0 (.ref it) (.ref s2.heap.objs.size) (compEnvC scope cl H3.objs.size X.env))
    (compPost (model X.prog X.w) X.A X.xe use Qf (.ref s2.heap.objs.size) H3.objs.size) s₃:=by
  rintro s₃ rfl
  refine Zot (fun n s'=>∃ i σ' H',Inv X' [] σ' H' s'∧tn i s'.heap∧(∀ b∈fp,H' b=none)∧W i n σ' H') ?_ m0 ⟨0,_,_,I4 _,tn0,fr0,w0⟩
  rintro n s3 ⟨i,σ3,H3',I3,st3,fr3,w3⟩
  rcases turn i n σ3 H3' w3 with⟨stop,qn⟩ | ⟨go,step⟩
  ·refine thn (T.done X' rfl rfl rfl hc i [] s3 σ3 H3' _ I3 (stat fr3 noPin) st3 stop) fun r s4 zq=>?_
   obtain⟨hr,I4'⟩:=zq
   subst hr
   have un:=I4'.base
   refine fin _ _ H3' s4 (I2.call' I4'.os un I4'.hok I4'.bare fun b hb=>?_) qn I4'.free ?_ (UC I2.sz hCle) ?_ ?_ ?_
   ·exact⟨(f2 b hb).2.2.2.1,(f2 b hb).2.1,(f2 b hb).2.2.2.2.1,(f2 b hb).2.2.2.2.2⟩
   ·exact Uh (below _ I2.lt)
   ·intro x c hx
    obtain⟨v,o,ho,hd⟩:=I2.cell x c hx
    exact below c (UL ho)
   ·intro q hq
    obtain⟨e,_⟩:=I2.pin q hq
    exact below _ (UL e)
   ·obtain⟨m,hm,_⟩:=I4'.loc
    exact⟨m,hm⟩
  ·refine thn (T.item X' rfl rfl rfl hc i [] s3 σ3 H3' _ I3 (stat fr3 noPin) st3 go) fun r s4 zq=>?_
   obtain⟨u,hr,h4⟩:=zq
   subst hr
   refine thn h4 fun _ s5 zq=>?_
   obtain⟨x,H5,I5,r5,y5,st5,fr5⟩:=zq
   have I5':=I5.pinned (stat fr5 noPin) (T.obj _ _ st5)
   refine wpAny_mono (hg _ _ _ _ _ _ s5 σ3 H5 x u _ I5' r5 (step x H5 y5)) (fun _ s6 zq=>?_) fun _ _ z=>z.elim
   obtain⟨σ6,H6,I6,q6⟩:=zq
   have again:∀ {σ7:St} {H7:Hp} {s7:Shared} {m':Nat},Inv X' ([]++pinsAt fp s5.heap) σ7 H7 s7→m'<n→W (i+1) m' σ7 H7→∃ m,m<n∧∃ i σ' H',Inv X' [] σ' H' s7∧tn i s7.heap∧(∀ b∈fp,H' b=none)∧W i m σ' H':=fun {σ7 H7 s7 m'} I7 hm w7=>by
    refine⟨m',hm,i+1,σ7,H7,I7.unpinned,T.keep _ _ _ st5 fun b hb o e=>(I7.pin (b,o) (Ue _ (Ue _ (Zcz hb e)))).1,fun b hb=>?_,w7⟩
    obtain⟨o,e,d⟩:=T.obj _ _ st5 b hb
    exact(I7.pin (b,o) (Ue _ (Ue _ (Zcz hb e)))).2.1
   refine wpAny_mono (ht _ _ _ _ _ _ s6 σ6 H6 _ I6 q6) (fun ok s7 zq=>?_) fun _ _ z=>z.elim
   obtain⟨H7,I7,q7⟩:=zq
   cases ok with
   | false =>
    obtain⟨m',hm,w7⟩:=q7
    exact again I7 hm w7
   | true =>
    refine wpAny_mono (he _ _ _ _ _ _ s7 σ6 H7 _ I7 q7) (fun yv s8 zq=>?_) fun _ _ z=>z.elim
    obtain⟨y,H8,I8,r8,q8⟩:=zq
    obtain⟨xs,m',hD,hz,hm,w8⟩:=q8
    refine wpAny_mono (Ji (X:=X') _ s8 σ6 H8 (.ref s2.heap.objs.size) [y] (.ref s2.heap.objs.size) [yv] (fun _ H9=>W (i+1) m' σ6 H9) I8 rfl (.cons r8 .nil) ⟨_,xs,y,rfl,rfl,hD,hz,w8⟩) (fun _ s9 zq=>?_) fun _ _ z=>z.elim
    obtain⟨_,H9,I9,_,q9⟩:=zq
    exact again I9 hm q9
 exact codeAny_compStart_list (loop _ rfl) (T.self _ 0 _ _ _ tn0 (loop _ rfl))
noncomputable abbrev BK(α:Type):=List (Str×Addr)→Addr→Shared→Hp→List Addr→α
theorem Yd{g:BK TG}{tc:BK TT}{te:BK TE}(tgs:List Str)(caps:List (Nat×Str))(hc:X.calm=true)(hsc:compScopeOk scope (caps.map (·.2))=true)(hcap:CapsOk X caps)(hi:PI X target iter wi)
  (hg:∀ cl C s2 H2 fp,PG (cxComp X scope cl C (tgs++caps.map (·.2)) s2 H2 fp) target (g cl C s2 H2 fp))
  (ht:∀ cl C s2 H2 fp,PTs (cxComp X scope cl C (tgs++caps.map (·.2)) s2 H2 fp) ifs (tc cl C s2 H2 fp))
  (he:∀ cl C s2 H2 fp,PE (cxComp X scope cl C (tgs++caps.map (·.2)) s2 H2 fp) elt (te cl C s2 H2 fp))
  (eg:∀ cl C s2 H2 fp,g cl C s2 H2 fp=g [] 0 X.s₀ X.H₀ []:=by intros;rfl) (et:∀ cl C s2 H2 fp,tc cl C s2 H2 fp=tc [] 0 X.s₀ X.H₀ []:=by intros;rfl) (ee:∀ cl C s2 H2 fp,te cl C s2 H2 fp=te [] 0 X.s₀ X.H₀ []:=by intros;rfl)
  (hs:∀ x,foldedSetIterable iter X.env x=pure x:=by intro _;rfl) :
  PE X (.ListComp elt [⟨target,iter,ifs,0⟩] scope pos) (tComp wi (g [] 0 X.s₀ X.H₀ []) (tc [] 0 X.s₀ X.H₀ []) (te [] 0 X.s₀ X.H₀ []) (compSt tgs caps)):=by
 intro pins s σ H Q I h
 rw[eval_ListComp]
 refine Zmz (use:=none) hc hsc hcap hi (fun cl C s2 H2 fp=>eg cl C s2 H2 fp ▸ hg cl C s2 H2 fp) (fun cl C s2 H2 fp=>et cl C s2 H2 fp ▸ ht cl C s2 H2 fp) (fun cl C s2 H2 fp=>ee cl C s2 H2 fp ▸ he cl C s2 H2 fp) I h (fun D C H' s' I' q hC h1 h2 h3 h4 zq=>?_) hs
 obtain⟨m,hm⟩:=zq
 refine⟨m,hm,fun h' hsb=>?_⟩
 exact⟨.ref D,H',I'.turned (t':=s'.toks) (fun b o hb e=>hsb.extBut b o hb e) hC h1 (.inr h2) h3 h4,rfl,q⟩
theorem Wk{g:BK TG}{tc:BK TT}{te:BK TE}{i:Nat}{y:Str}{py spos:Pos}(tgs:List Str)(caps:List (Nat×Str))(hN:X.N.Nodup)(hiN:X.N[i]?=some y)(hy:X.env.scope.names.lookup y=some .local)(hc:X.calm=true)(hsc:compScopeOk scope (caps.map (·.2))=true)(hcap:CapsOk X caps)(hi:PI X target iter wi)
  (hg:∀ cl C s2 H2 fp,PG (cxComp X scope cl C (tgs++caps.map (·.2)) s2 H2 fp) target (g cl C s2 H2 fp))
  (ht:∀ cl C s2 H2 fp,PTs (cxComp X scope cl C (tgs++caps.map (·.2)) s2 H2 fp) ifs (tc cl C s2 H2 fp))
  (he:∀ cl C s2 H2 fp,PE (cxComp X scope cl C (tgs++caps.map (·.2)) s2 H2 fp) elt (te cl C s2 H2 fp))
  (eg:∀ cl C s2 H2 fp,g cl C s2 H2 fp=g [] 0 X.s₀ X.H₀ []:=by intros;rfl) (et:∀ cl C s2 H2 fp,tc cl C s2 H2 fp=tc [] 0 X.s₀ X.H₀ []:=by intros;rfl) (ee:∀ cl C s2 H2 fp,te cl C s2 H2 fp=te [] 0 X.s₀ X.H₀ []:=by intros;rfl)
  (hsw:swapsWith (.ListComp elt [⟨target,iter,ifs,0⟩] scope pos) (some (.Name y py)) spos.line X.env=pure true:=by rfl)
  (hs:∀ x,foldedSetIterable iter X.env x=pure x:=by intro _;rfl) :
  PS X (.Assign [.Name y py] (.ListComp elt [⟨target,iter,ifs,0⟩] scope pos) spos) (tAsg (tComp wi (g [] 0 X.s₀ X.H₀ []) (tc [] 0 X.s₀ X.H₀ []) (te [] 0 X.s₀ X.H₀ []) (compSt tgs caps)) (gName i)):=by
 intro pins s σ H D I h
 rw[exec_Assign_Name_used _ _ _ _ hsw]
 refine wpAny_bind (wpAny_standAt (wpAny_bind ?_))
 show wpAny _ X.A (do let _ ← comprehension (.ListComp elt [⟨target,iter,ifs,0⟩] scope pos) scope X.env _ (newList []) false (eval iter X.env) (some (assign (.Name y py) X.env))) _ _ s
 refine wpAny_bind (thn (Zmz (use:=some (assign (.Name y py) X.env)) (Qf:=fun _ s'=>SP X pins D .next s') hc hsc hcap hi (fun cl C s2 H2 fp=>eg cl C s2 H2 fp ▸ hg cl C s2 H2 fp) (fun cl C s2 H2 fp=>et cl C s2 H2 fp ▸ ht cl C s2 H2 fp) (fun cl C s2 H2 fp=>ee cl C s2 H2 fp ▸ he cl C s2 H2 fp) I h (fun Dd C H' s' I' q hC h1 h2 h3 h4 zq=>?_) hs) fun _ s' hq=>wpAny_pure (wpAny_pure hq))
 obtain⟨m,hm⟩:=zq
 show wpAny _ X.A (assign (.Name y py) X.env (.ref Dd)) _ _ _
 refine wpAny_assign_Name (Zlz I' hN hiN (.inl hy) (v := .ref Dd) rfl (fun s'' I'' zq=>?_) (.inr hy))
 obtain⟨a,hsb,ha⟩:=zq
 have hCa:C≠a:=by
  rcases ha with z | z
  ·rw[z];exact h1
  ·exact Uh (h3 _ _ z)
 refine⟨m,hm.sameBut hsb hCa,fun h' hsb'=>?_⟩
 exact⟨_,H',I''.turned (t':=s''.toks) (fun b o hb e=>hsb'.extBut b o hb e) hC h1 (.inr h2) h3 h4,q⟩
end
end L2
end
section
namespace L2
open PySem PySem.Spec PyProof.Rows
noncomputable def OwnIn(H:Hp)(a:Addr):HO→Prop
 | .ins _ dx _=>H dx=some (.own a)
 | .frz _ u=>OwnIn H a u
 | _=>True
def Closed(H:Hp):Prop:=∀ a o,H a=some o→OwnIn H a o
theorem OwnIn.of{P:Program}{w:World}{H:Hp}{h:Heap}{a:Addr}{o:HO}(x:ObjOk P w H h a o):OwnIn H a o:=by
 induction o with
 | ins C dx fs=>exact x.1
 | frz ob u ih=>exact ih x.2
 | _=>trivial
theorem HOk.closed{P:Program}{w:World}{H:Hp}{h:Heap}(x:HOk P w H h):Closed H:=fun a o e=>OwnIn.of (x a o e)
theorem OwnIn.mono{H H':Hp}{a:Addr}{o:HO}(s:∀ b u,H b=some u→H' b=some u)(x:OwnIn H a o):OwnIn H' a o:=by
 induction o with
 | ins C dx fs=>exact s _ _ x
 | frz ob u ih=>exact ih x
 | _=>trivial
theorem ObjOk.sub{P:Program}{w:World}{H H':Hp}{h:Heap}{a:Addr}{o:HO}(x:ObjOk P w H' h a o)(ow:OwnIn H a o):ObjOk P w H h a o:=by
 induction o with
 | ins C dx fs=>exact⟨ow,x.2⟩
 | frz ob u ih=>exact⟨x.1,ih x.2 ow⟩
 | lst _=>exact x
 | tup _=>exact x
 | dK _=>exact x
 | dT _=>exact x
 | set _ _=>exact x
 | own _=>exact x
 | xd _=>exact x
 | met _ _=>exact x
 | rng _ _=>exact x
 | tbl _=>exact x
 | ext _=>exact x
structure Sub(H H'' H':Hp):Prop where
 le:Same H'' H'
 ge:∀ b o,H b=some o→∃ u,H'' b=some u
 cl:Closed H→Closed H''
theorem Sub.refl{H H':Hp}(h:Same H H'):Sub H H H':=⟨h,fun _ o e=>⟨o,e⟩,id⟩
theorem Sub.all{H H':Hp}(h:∀ b o,H b=some o→∃ u,H' b=some u)(c:Closed H→Closed H'):Sub H H' H':=⟨Same.refl _,h,c⟩
theorem Zq{H:Hp}{p:Addr}{o:HO}(h:H p=none):Same H (upd H p o):=fun b u q=>by rw[Zn (Xa q h)];exact q
theorem Qa{H:Hp}{p:Addr}{o:HO}(c:Closed H)(h:H p=none)(ho:OwnIn (upd H p o) p o):Closed (upd H p o):=fun a u e=>by
 by_cases z:a=p
 ·subst z;rw[Zb] at e;cases e;exact ho
 ·rw[Zn z] at e
  exact(c a u e).mono (Zq h)
theorem Sub.new{H H':Hp}{p:Addr}{o:HO}(h:H p=none)(hs:Same H H')(e:H' p=some o)(ho:OwnIn (upd H p o) p o):Sub H (upd H p o) H' :=
 ⟨fun b u q=>by
  by_cases z:b=p
  ·subst z;rw[Zb] at q;cases q;exact e
  ·rw[Zn z] at q;exact hs b u q,fun b u q=>⟨u,Zq h b u q⟩,fun c=>Qa c h ho⟩
theorem Sub.ins{H H':Hp}{p C dx:Addr}{fs fs':List (Str×V)}(h:H p=some (.ins C dx fs))(hs:∀ b u,b≠p→H b=some u→H' b=some u)(e:H' p=some (.ins C dx fs')):Sub H (upd H p (.ins C dx fs')) H' :=
 ⟨fun b u q=>by
  by_cases z:b=p
  ·subst z;rw[Zb] at q;cases q;exact e
  ·rw[Zn z] at q;exact hs b u z q,fun b u q=>by
  by_cases z:b=p
  ·subst z;exact⟨_,Zb⟩
  ·exact⟨u,by rw[Zn z];exact q⟩,fun c a u q=>by
  have hd:H dx=some (.own p):=c p _ h
  have nd:dx≠p:=fun z=>by rw[z,h] at hd;cases hd
  by_cases z:a=p
  ·subst z;rw[Zb] at q;cases q
   show upd H a _ dx=_
   rw[Zn nd];exact hd
  ·rw[Zn z] at q
   have x:=c a u q
   revert x
   generalize u=o
   clear q
   induction o with
   | ins C' d' f' =>
    intro (x:H d'=some (.own a))
    show upd H p _ d'=_
    rw[Zn (fun y=>by rw[y,h] at x;cases x)];exact x
   | frz ob u ih=>intro x;exact ih x
   | _=>intro _;trivial⟩
section
variable {X:Cx} {pins:List (Addr×Obj)} {σ:St} {H H' H'':Hp} {s s0:Shared}
theorem Un.sub{fs ex:List Addr}{H0:Hp}{h h1 h2:Heap}(u0:Un fs ex H0 H h h1)(u:Un fs ex H0 H' h h2)(d:Sub H H'' H'):Un fs ex H0 H'' h h2:=by
 refine⟨u.keep,u.slot,fun b o e n hx=>?_,u.there,fun b xs e=>?_,fun b o v e=>?_,fun b ps e=>?_⟩
 ·cases q:H'' b with
  | none=>rfl
  | some v=>have:=d.le b v q;rw[u.free b o e n hx] at this;cases this
 ·obtain⟨v,hv⟩:=d.ge b _ (u0.tups b xs e)
  have:=d.le b v hv;rw[u.tups b xs e] at this;cases this;exact hv
 ·obtain⟨z,hv⟩:=d.ge b _ (u0.frzs b o v e)
  have:=d.le b z hv;rw[u.frzs b o v e] at this;cases this;exact hv
 ·obtain⟨m0,e0⟩:=u0.tbls b ps e
  obtain⟨z,hv⟩:=d.ge b _ e0
  obtain⟨m,e1⟩:=u.tbls b ps e
  have:=d.le b z hv;rw[e1] at this;cases this;exact⟨m,hv⟩
theorem HOk.sub{P:Program}{w:World}{h:Heap}(x:HOk P w H' h)(c:Closed H'')(d:Same H'' H'):HOk P w H'' h:=fun a o e=>(x a o (d a o e)).sub (c a o e)
end
theorem FnOk.keep{P:Program}{w:World}{K:Ua}{mg:Str→Option Value}{base:Heap}{k:Nat}{f:Addr}{fd:FuncData}{ps:List Str}{sp sp':Sp}(F:FnOk P w K mg base CX0 k f fd ps sp)
  (h:∀ vs H Q E,sp' vs H Q E→sp vs H (fun v H'=>∃ H'',Sub H H'' H'∧Q v H'') E):FnOk P w K mg base CX0 k f fd ps sp':=by
 refine⟨fun vs H Q E q=>F.len vs H _ E (h vs H Q E q),fun A outer s H args us vs Q E hr e0 hb r q=>codeAny_mono (F.run A outer s H args us vs _ E hr e0 hb r (h vs H Q E q)) fun rs s' c=>?_⟩
 cases rs with
 | error e=>exact c
 | ok fl =>
  cases fl with
  | ret u =>
   obtain⟨v,H',os,bare,un,hok,rv,H'',d,q'⟩:=c
   exact⟨v,H'',os,bare,Un.sub (Un.refl (h:=s.heap)) un d,hok.sub (d.cl e0.hok.closed) d.le,rv,q'⟩
  | next=>exact c
  | brk=>exact c
  | cont=>exact c
theorem Fun.okK{P:Program}{w:World}{K:Ua}{mg:Str→Option Value}{base:Heap}{x qual:Str}{st:Stmt}{f:Addr}{fd:FuncData}{N ps:List Str}{k:Nat}{sp:Sp}(F:Fun K x qual st f fd)(S:FnScope N ps (Zg st))(len:∀ vs H Q E,sp vs H Q E→vs.length=ps.length)
  (hbody:∀ (cdv:Value) (A:Around) (outer:List Env) (s:Shared) (H:Hp) (vs:List V) (Q:VK) (E:XK),Room k (A.deeper (envOfC qual (Zg st) s.heap.objs.size f cdv))→sp vs H Q E→
   ∃ t,PSs (cxOf CX0 P w K mg base N qual (Zg st) f cdv A outer s H E).nox (defBody st) t∧t {nx:=fun _ H'=>∃ H'',Sub H H'' H'∧Q .non H'',rt:=fun v H'=>∃ H'',Sub H H'' H'∧Q v H''} (start N vs) H):FnOk P w K mg base CX0 (k+1) f fd ps sp :=
 (F.ok (sp:=fun vs H Q E=>∃ Q',Q=(fun v H'=>∃ H'',Sub H H'' H'∧Q' v H'')∧sp vs H Q' E) S (fun vs H Q E ⟨Q',_,h⟩=>len vs H Q' E h) (fun cdv A outer s H vs Q E hr ⟨Q',e,h⟩=>by
  subst e
  exact hbody cdv A outer s H vs Q' E hr h)).keep fun vs H Q E h=>⟨Q,rfl,h⟩
end L2
end
section
namespace KM
noncomputable def Xh(n:Nat):Nat→List Bool
 | 0=>[]
 | w+1=>n.testBit w::Xh n w
noncomputable def blen(n:Nat):Nat:=if n=0 then 0 else n.log2+1
theorem Xe(n w:Nat):(Xh n w).length=w:=by
 induction w with
 | zero=>rfl
 | succ w ih=>simp[Xh,ih]
theorem Qq(n:Nat):n<2 ^ blen n:=by
 unfold blen
 split
 ·omega
 ·exact Nat.lt_log2_self
theorem Yh{n w:Nat}(h:n<2 ^ w):blen n≤w:=by
 unfold blen
 split
 ·omega
 ·rename_i h0
  exact(Nat.log2_lt h0).mpr h
theorem Wo{n:Nat}(h:n≠0):0<blen n:=by unfold blen;rw[if_neg h];omega
theorem Zpa{n:Nat}(h:n≠0):2 ^ (blen n - 1)≤n:=by
 unfold blen;rw[if_neg h];exact Nat.log2_self_le h
theorem Zna{m n:Nat}(h:m≤n):blen m≤blen n:=Yh (Nat.lt_of_le_of_lt h (Qq n))
theorem Znj(n:Nat)(b:Bool):(2*n+b.toNat).testBit 0=b:=by
 cases b<;>simp[Nat.testBit_zero]<;>omega
theorem Zrn(n k:Nat)(b:Bool):(2*n+b.toNat).testBit (k+1)=n.testBit k:=by
 rw[Nat.testBit_succ]
 congr 1
 cases b<;>simp<;>omega
theorem Zkz(n w:Nat)(b:Bool):Xh (2*n+b.toNat) (w+1)=Xh n w++[b]:=by
 induction w with
 | zero=>simp only[Xh,List.nil_append,Znj]
 | succ w ih =>
  rw[Xh,ih,Zrn]
  rfl
noncomputable def rd(a:Nat)(l:List Bool):Nat:=l.foldl (fun x b=>2*x+b.toNat) a
theorem Xcl(a:Nat):rd a []=a:=rfl
theorem Zzb(a:Nat)(b:Bool)(l:List Bool):rd a (b::l)=rd (2*a+b.toNat) l:=rfl
theorem Zud(a:Nat)(l m:List Bool):rd a (l++m)=rd (rd a l) m:=by simp[rd,List.foldl_append]
theorem Zzc(a n w:Nat):rd a (Xh n w)=a*2 ^ w+n%2 ^ w:=by
 induction w generalizing a with
 | zero=>simp[Xh,rd,Nat.mod_one]
 | succ w ih =>
  rw[Xh,Zzb,ih]
  have h:n%2 ^ (w+1)=(n.testBit w).toNat*2 ^ w+n%2 ^ w:=by
   rw[Nat.pow_succ,Nat.mod_mul,Nat.testBit_eq_decide_div_mod_eq,Nat.add_comm,Nat.mul_comm]
   congr 1
   have:n/2 ^ w%2<2:=Nat.mod_lt _ (by decide)
   by_cases q:n/2 ^ w%2=1
   ·simp[q]
   ·have:n/2 ^ w%2=0:=by omega
    simp[this]
  rw[h,Nat.pow_succ,Nat.add_mul]
  have e:2*a*2 ^ w=a*(2 ^ w*2):=by rw[Nat.mul_comm 2 a,Nat.mul_assoc,Nat.mul_comm 2 (2 ^ w)]
  omega
theorem Zwn{n:Nat}(h:n≠0):rd 1 (Xh n (blen n - 1))=n:=by
 rw[Zzc,Nat.one_mul]
 have h1:=Zpa h
 have h2:=Qq n
 have h3:=Wo h
 have e:2 ^ blen n=2 ^ (blen n - 1)*2:=by rw[← Nat.pow_succ];congr 1;omega
 have:n%2 ^ (blen n - 1)=n - 2 ^ (blen n - 1):=by
  rw[Nat.mod_eq_sub_mod h1,Nat.mod_eq_of_lt (by omega)]
 omega
def Sep(a b:List Bool):Prop:=∃ c x y,a=c++false::x∧b=c++true::y
theorem Sep.pre(p:List Bool){a b:List Bool}(h:Sep a b):Sep (p++a) (p++b):=by
 obtain⟨c,x,y,rfl,rfl⟩:=h
 exact⟨p++c,x,y,by simp,by simp⟩
theorem Sep.post{a b:List Bool}(h:Sep a b)(u v:List Bool):Sep (a++u) (b++v):=by
 obtain⟨c,x,y,rfl,rfl⟩:=h
 exact⟨c,x++u,y++v,by simp,by simp⟩
theorem Sep.turn{a b:List Bool}(h:Sep a b):Sep (b.map (!·)) (a.map (!·)):=by
 obtain⟨c,x,y,rfl,rfl⟩:=h
 exact⟨c.map (!·),y.map (!·),x.map (!·),by simp,by simp⟩
theorem Sep.np{a b:List Bool}(h:Sep a b):¬a <+: b:=by
 obtain⟨c,x,y,rfl,rfl⟩:=h
 rintro⟨t,e⟩
 simp only[UH] at e
 have:=List.append_cancel_left e
 simp at this
theorem Sep.np'{a b:List Bool}(h:Sep a b):¬b <+: a:=by
 obtain⟨c,x,y,rfl,rfl⟩:=h
 rintro⟨t,e⟩
 simp only[UH] at e
 have:=List.append_cancel_left e
 simp at this
theorem Zfw{n n' w:Nat}(h:n<n')(h':n'<2 ^ w):Sep (Xh n w) (Xh n' w):=by
 induction w generalizing n n' with
 | zero=>omega
 | succ w ih =>
  have e:n=2*(n/2)+(decide (n%2=1)).toNat:=by
   by_cases q:n%2=1
   ·simp[q];omega
   ·simp[q];omega
  have e':n'=2*(n'/2)+(decide (n'%2=1)).toNat:=by
   by_cases q:n'%2=1
   ·simp[q];omega
   ·simp[q];omega
  rw[e,e',Zkz,Zkz]
  rw[Nat.pow_succ] at h'
  by_cases q:n/2<n'/2
  ·exact(ih q (by omega)).post _ _
  ·have:n/2=n'/2:=by omega
   rw[this]
   have a:n%2=0:=by omega
   have b:n'%2=1:=by omega
   simp only[a,b]
   exact⟨_,[],[],rfl,rfl⟩
theorem Zza{i j:Nat}(h:i<j)(x y:List Bool):Sep (List.replicate i true++false::x) (List.replicate j true++y):=by
 refine⟨List.replicate i true,x,List.replicate (j - i - 1) true++y,rfl,?_⟩
 have:j=i+(1+(j - i - 1)):=by omega
 conv=>lhs;rw[this]
 rw[← List.replicate_append_replicate,← List.replicate_append_replicate]
 simp
noncomputable def cend(e:Nat):List Bool:=if e=8 then [] else [false]
noncomputable def cnt(n:Nat):List Bool :=
 List.replicate (blen (blen (n+1)) - 1) true++(cend (blen (blen (n+1)))++(Xh (blen (n+1)) (blen (blen (n+1)) - 1)++Xh (n+1) (blen (n+1) - 1)))
theorem Zte{n:Nat}(h:n≠0):n%2 ^ (blen n - 1)=n - 2 ^ (blen n - 1):=by
 have h1:=Zpa h
 have h2:=Qq n
 have h3:=Wo h
 have e:2 ^ blen n=2 ^ (blen n - 1)*2:=by rw[← Nat.pow_succ];congr 1;omega
 rw[Nat.mod_eq_sub_mod h1,Nat.mod_eq_of_lt (by omega)]
theorem Znb(n w:Nat):Xh n w=Xh (n%2 ^ w) w:=by
 have:∀ j,j≤w→Xh n j=Xh (n%2 ^ w) j:=by
  intro j hj
  induction j with
  | zero=>rfl
  | succ j ih =>
   rw[Xh,Xh,ih (by omega),Nat.testBit_mod_two_pow]
   simp[show j<w by omega]
 exact this w (Up _)
theorem Zsz{n n':Nat}(h0:n≠0)(h:n<n')(e:blen n=blen n'):Sep (Xh n (blen n - 1)) (Xh n' (blen n' - 1)):=by
 have h0':n'≠0:=by omega
 rw[Znb n,Znb n',Zte h0,Zte h0',← e]
 have h1:=Zpa h0
 have h2:=Qq n'
 rw[← e] at h2
 have h3:=Wo h0
 have e2:2 ^ blen n=2 ^ (blen n - 1)*2:=by rw[← Nat.pow_succ];congr 1;omega
 exact Zfw (by omega) (by omega)
theorem Zou{n n':Nat}(h:n<n')(h':n'+1<2 ^ 255):Sep (cnt n) (cnt n'):=by
 unfold cnt
 have hd:blen (n'+1)≤255:=Yh h'
 have hp:0<blen (n+1):=Wo (by omega)
 have hp':0<blen (n'+1):=Wo (by omega)
 have he:blen (blen (n'+1))≤8:=Yh (by omega)
 have m1:blen (n+1)≤blen (n'+1):=Zna (by omega)
 have m2:blen (blen (n+1))≤blen (blen (n'+1)):=Zna m1
 have hq:0<blen (blen (n+1)):=Wo (by omega)
 by_cases q:blen (blen (n+1))<blen (blen (n'+1))
 ·have c:cend (blen (blen (n+1)))=[false]:=by unfold cend;rw[if_neg (by omega)]
  rw[c]
  exact Zza (by omega) _ _
 ·have q':blen (blen (n+1))=blen (blen (n'+1)):=by omega
  by_cases r:blen (n+1)<blen (n'+1)
  ·have s:=Zsz (by omega) r q'
   rw[← q'] at s ⊢
   exact((s.post _ _).pre _).pre _
  ·have r':blen (n+1)=blen (n'+1):=by omega
   have s:=Zsz (n:=n+1) (n':=n'+1) (by omega) (by omega) r'
   rw[← r'] at s ⊢
   exact((s.pre _).pre _).pre _
theorem Zde{n:Nat}(h:n+1<2 ^ 255):(cnt n).length≤blen (n+1)+14:=by
 unfold cnt
 have hd:blen (n+1)≤255:=Yh h
 have he:blen (blen (n+1))≤8:=Yh (by omega)
 have hq:0<blen (n+1):=Wo (by omega)
 simp only[Uo,List.length_replicate,Xe]
 have:(cend (blen (blen (n+1)))).length≤if blen (blen (n+1))=8 then 0 else 1:=by
  unfold cend;split<;>simp
 split at this<;>omega
noncomputable def whl(n:Int):List Bool:=if n<0 then false::(cnt (-1 - n).toNat).map (!·) else true::cnt n.toNat
theorem Zsv{n n':Int}(h:n<n')(h1 : -(2 ^ 255)<n)(h2:n'<2 ^ 255 - 1):Sep (whl n) (whl n'):=by
 unfold whl
 by_cases a:n<0
 ·by_cases b:n'<0
  ·rw[if_pos a,if_pos b]
   have s:=Zou (n:=(-1 - n').toNat) (n':=(-1 - n).toNat) (by omega) (by omega)
   exact s.turn.pre [false]
  ·rw[if_pos a,if_neg b]
   exact⟨[],_,_,rfl,rfl⟩
 ·rw[if_neg a,if_neg (by omega)]
  have s:=Zou (n:=n.toNat) (n':=n'.toNat) (by omega) (by omega)
  exact s.pre [true]
end KM
namespace KM
structure CntAt(L:List Bool)(p n:Nat):Prop where
 ones:∀ j,j<blen (blen (n+1)) - 1→L.getD (p+j) false=true
 zero:blen (blen (n+1))<8→L.getD (p+(blen (blen (n+1)) - 1)) false=false
 size:(L.drop (p+(blen (blen (n+1)) - 1)+(cend (blen (blen (n+1)))).length)).take (blen (blen (n+1)) - 1)=Xh (blen (n+1)) (blen (blen (n+1)) - 1)
 more:(L.drop (p+(blen (blen (n+1)) - 1)+(cend (blen (blen (n+1)))).length+(blen (blen (n+1)) - 1))).take (blen (n+1) - 1)=Xh (n+1) (blen (n+1) - 1)
 fits:p+(cnt n).length≤L.length
theorem Ztn(n:Nat):(cnt n).length=(blen (blen (n+1)) - 1)+(cend (blen (blen (n+1)))).length+(blen (blen (n+1)) - 1)+(blen (n+1) - 1):=by
 unfold cnt
 simp only[Uo,List.length_replicate,Xe]
 omega
theorem Xby{L:List Bool}{p n:Nat}(h:cnt n <+: L.drop p)(hp:p≤L.length):CntAt L p n:=by
 obtain⟨r,e⟩:=h
 have hl:=congrArg List.length e
 rw[Uo,Va] at hl
 have key:∀ j,j<(cnt n).length→L.getD (p+j) false=(cnt n).getD j false:=by
  intro j hj
  have:(L.drop p)[j]?=(cnt n)[j]?:=by rw[← e,List.getElem?_append_left hj]
  rw[List.getElem?_drop] at this
  rw[Uk,Uk,this]
 have cl:=Ztn n
 refine⟨fun j hj=>?_,fun h8=>?_,?_,?_,by omega⟩
 ·rw[key j (by omega)]
  unfold cnt
  rw[Uk,List.getElem?_append_left (by simpa using hj),List.getElem?_replicate,if_pos hj];rfl
 ·have c1:(cend (blen (blen (n+1))))=[false]:=by unfold cend;rw[if_neg (by omega)]
  rw[key _ (by rw[cl,c1];simp only[Uq,List.length_nil];omega)]
  unfold cnt
  rw[c1,Uk,List.getElem?_append_right (by simp)]
  simp
 ·have:L.drop (p+(blen (blen (n+1)) - 1)+(cend (blen (blen (n+1)))).length)=Xh (blen (n+1)) (blen (blen (n+1)) - 1)++Xh (n+1) (blen (n+1) - 1)++r:=by
   rw[Nat.add_assoc,← List.drop_drop,← e]
   unfold cnt
   rw[← UH,← UH,UH (List.replicate _ _++_),UH (List.replicate _ _++_)]
   have:(blen (blen (n+1)) - 1)+(cend (blen (blen (n+1)))).length=(List.replicate (blen (blen (n+1)) - 1) true++cend (blen (blen (n+1)))).length:=by simp
   rw[this,List.drop_left]
  rw[this,UH,List.take_left' (Xe _ _)]
 ·have:L.drop (p+(blen (blen (n+1)) - 1)+(cend (blen (blen (n+1)))).length+(blen (blen (n+1)) - 1))=Xh (n+1) (blen (n+1) - 1)++r:=by
   rw[Nat.add_assoc,Nat.add_assoc,← List.drop_drop,← e]
   unfold cnt
   have e2:(List.replicate (blen (blen (n+1)) - 1) true++(cend (blen (blen (n+1)))++(Xh (blen (n+1)) (blen (blen (n+1)) - 1)++Xh (n+1) (blen (n+1) - 1))))++r=(List.replicate (blen (blen (n+1)) - 1) true++cend (blen (blen (n+1)))++Xh (blen (n+1)) (blen (blen (n+1)) - 1))++(Xh (n+1) (blen (n+1) - 1)++r):=by simp
   rw[e2]
   have:(blen (blen (n+1)) - 1)+((cend (blen (blen (n+1)))).length+(blen (blen (n+1)) - 1))=(List.replicate (blen (blen (n+1)) - 1) true++cend (blen (blen (n+1)))++Xh (blen (n+1)) (blen (blen (n+1)) - 1)).length:=by simp[Xe,Nat.add_assoc]
   rw[this,List.drop_left]
  rw[this,List.take_left' (Xe _ _)]
end KM
end
section
namespace KM
open PySem L2
noncomputable def bc(b:Bool):Nat:=if b then 49 else 48
noncomputable def rowS(l:List Bool):Str:=⟨(l.map bc).toArray⟩
theorem Zja{a b:Str}(h:a.cps.toList=b.cps.toList):a=b:=by
 obtain⟨x⟩:=a;obtain⟨y⟩:=b
 exact congrArg Str.mk (Array.ext' h)
theorem Xy(l:List Bool):(rowS l).cps.toList=l.map bc:=by simp[rowS]
theorem Zr(l:List Bool):(rowS l).length=l.length:=by simp[rowS,Str.length]
theorem Zyf{a b:Bool}(h:bc a=bc b):a=b:=by cases a<;>cases b<;>first | rfl | (revert h;decide)
theorem Zpu{a b:List Bool}(h:rowS a=rowS b):a=b:=by
 have:=congrArg (fun x:Str=>x.cps.toList) h
 simp only[Xy] at this
 exact List.map_inj_right (fun _ _=>Zyf) |>.mp this
theorem Xx(a b:List Bool):rowS a++rowS b=rowS (a++b):=by
 apply Zja
 show ((rowS a).cps++(rowS b).cps).toList=_
 rw[Array.toList_append,Xy,Xy,Xy,UE]
theorem s1:(Str.ofString "1")=rowS [true]:=by decide +kernel
theorem s0:(Str.ofString "0")=rowS [false]:=by decide +kernel
theorem sE:(Str.ofString "")=rowS []:=by decide +kernel
theorem Zwl(a b:List Bool):decide (V.str (rowS a)=V.str (rowS b))=decide (a=b):=by
 by_cases h:a=b
 ·subst h;simp
 ·have:¬V.str (rowS a)=V.str (rowS b):=fun q=>h (Zpu (V.str.inj q))
  rw[UB h,UB this]
theorem Zoq:∀ ys:List Str,(Txt.join (Str.ofString "") ys).cps.toList=(ys.map (·.cps.toList)).flatten:=by
 have e:(Str.ofString "").cps=#[]:=by decide +kernel
 have key:∀ (ys:List Str) (acc:Array Nat),(ys.foldl (fun acc p=>acc++(Str.ofString "").cps++p.cps) acc).toList=acc.toList++(ys.map (·.cps.toList)).flatten:=by
  intro ys
  induction ys with
  | nil=>intro acc;simp
  | cons y r ih=>intro acc;rw[List.foldl_cons,ih,e];simp
 intro ys
 cases ys with
 | nil=>rfl
 | cons y r =>
  show ((r.foldl (fun acc p=>acc++(Str.ofString "").cps++p.cps) y.cps)).toList=_
  rw[key];simp
theorem Jy(ls:List (List Bool)):Txt.join (Str.ofString "") (ls.map rowS)=rowS ls.flatten:=by
 apply Zja
 rw[Zoq,Xy,UU,List.map_flatten]
 exact congrArg List.flatten (Vg fun l _=>Xy l)
theorem Zvf(l:List Bool):(l.map fun b=>[b]).flatten=l:=by
 induction l with
 | nil=>rfl
 | cons b r ih=>rw[UP,Vf,ih];rfl
theorem Zmo(l:List Bool):Txt.join (Str.ofString "") (l.map fun b=>rowS [b])=rowS l:=by
 have:=Jy (l.map fun b=>[b])
 rw[UU] at this
 rw[show (fun b=>rowS [b])=rowS ∘ (fun b=>[b]) from rfl,this]
 exact congrArg rowS (Zvf l)
theorem Zje(b:Bool)(n:Int):Txt.mul (rowS [b]) n=rowS (List.replicate n.toNat b):=by
 unfold Txt.mul
 by_cases h:n<1
 ·rw[if_pos h,show n.toNat=0 by omega];rfl
 ·rw[if_neg h]
  by_cases h1:n=1
  ·subst h1;rfl
  ·have:(n == 1||(rowS [b]).length == 0)=false:=by simp[Zr,h1]
   rw[this,if_neg (by decide)]
   apply Zja
   have key:∀ (k:Nat) (acc:Array Nat),((List.replicate k (rowS [b]).cps).foldl (· ++ ·) acc).toList=acc.toList++(List.replicate k b).map bc:=by
    intro k
    induction k with
    | zero=>intro acc;simp
    | succ k ih=>intro acc;rw[List.replicate_succ,List.foldl_cons,ih,List.replicate_succ];simp[rowS]
   rw[Xy]
   simpa using key n.toNat #[]
theorem sliceIx(lo hi:Option Int)(n:Nat):Builtin.Str.strSliceIndices lo hi 1 n=(List.range (HT.sIx n n hi - HT.sIx n 0 lo)).map (HT.sIx n 0 lo+·):=by
 unfold Builtin.Str.strSliceIndices
 rw[← sliceRange_one]
 simp only[show ((1:Int) > 0)=True from eq_true (by decide),if_true]
 congr 1
 ·cases lo with
  | none=>rfl
  | some i =>
   simp only[HT.sIx]
   by_cases h:i<0
   ·simp only[h,if_true];omega
   ·simp only[h,if_false];omega
 ·cases hi with
  | none=>rfl
  | some i =>
   simp only[HT.sIx]
   by_cases h:i<0
   ·simp only[h,if_true];omega
   ·simp only[h,if_false];omega
theorem Zby(x:Str)(lo hi:Option Int):(Txt.slice x lo hi).cps.toList=(x.cps.toList.drop (HT.sIx x.length 0 lo)).take (HT.sIx x.length x.length hi - HT.sIx x.length 0 lo):=by
 have hl:x.cps.toList.length=x.length:=by simp[Str.length]
 have h1:=HT.sIx_le x.length x.length (Up _) hi
 have h2:=HT.sIx_le x.length 0 (UF _) lo
 unfold Txt.slice
 rw[sliceIx]
 split
 ·rename_i c
  simp only[Uj,Vb,UN,beq_iff_eq] at c
  have a0:HT.sIx x.length 0 lo=0∨x.length=0:=by omega
  rcases a0 with a0 | a0
  ·rw[a0,List.drop_zero,UV (by omega)]
  ·have:x.cps.toList=[]:=List.length_eq_zero_iff.mp (by omega)
   rw[this];simp
 ·rw[pick_run]
theorem Zjn(a b:List Bool):Txt.startswith (rowS a) (rowS b)=decide (b <+: a):=by
 unfold Txt.startswith Builtin.Str.subAt
 rw[Zr,Zr,Nat.zero_add]
 by_cases h:b.length≤a.length
 ·have e:((rowS a).cps.extract 0 b.length == (rowS b).cps)=decide (b <+: a):=by
   have key:((rowS a).cps.extract 0 b.length).toList=(a.take b.length).map bc:=by
    rw[Array.toList_extract,Xy]
    simp[List.extract,List.map_take]
   by_cases hp:b <+: a
   ·rw[Ut hp,beq_iff_eq]
    apply Array.ext'
    rw[key,Xy,← List.prefix_iff_eq_take.mp hp]
   ·rw[UB hp]
    rw[beq_eq_false_iff_ne]
    intro q
    have q':=congrArg Array.toList q
    rw[key,Xy] at q'
    have:=List.map_inj_right (fun _ _=>Zyf) |>.mp q'
    exact hp (List.prefix_iff_eq_take.mpr this.symm)
  simp only[Ut h,Bool.true_and]
  exact e
 ·have hp:¬b <+: a:=fun q=>h q.length_le
  simp[h,hp]
theorem Zrr{a b:List Bool}(h:Sep a b):(rowS a).cps.toList<(rowS b).cps.toList:=by
 obtain⟨c,x,y,rfl,rfl⟩:=h
 simp only[Xy,UE,UP]
 refine List.append_left_lt ?_
 exact List.Lex.rel (by decide)
theorem Zsy{a b:List Bool}(h:Sep a b):¬(rowS b).cps.toList<(rowS a).cps.toList:=fun q=>List.lt_asymm q (Zrr h)
theorem Zwk{l:List Bool}{i:Nat}{b:Bool}(h:l[i]?=some b):(rowS l).cps.toList[i]?=some (bc b):=by rw[Xy,Ur,h];rfl
theorem Zwf(b:Bool):PySem.intText? (rowS [b])=some (b.toNat:Int):=by cases b<;>decide +kernel
theorem Zeq(n:Nat):Builtin.Int.intBits ((n:Nat):Int)=blen n:=by
 unfold Builtin.Int.intBits blen
 by_cases h:n=0
 ·subst h;rfl
 ·have:(((n:Nat):Int) == 0)=false:=by simpa using h
  rw[this,if_neg (by decide),if_neg h]
  simp
end KM
namespace KM
open PySem L2
theorem Zwj{l:List Bool}{i c:Nat}(h:(rowS l).cps[i]?=some c):V.str ⟨#[c]⟩=V.str (rowS [l.getD i false]):=by
 have h':(rowS l).cps.toList[i]?=some c:=by simpa using h
 rw[Xy,Ur] at h'
 rw[Uk]
 cases e:l[i]? with
 | none=>rw[e] at h';cases h'
 | some b =>
  rw[e] at h'
  have:bc b=c:=Ub h'
  rw[← this];rfl
end KM
end
section
namespace L2
open PySem PySem.Spec PyProof.Rows
section
variable {X:Cx}
noncomputable def oAdd:=OpR.or (Xbl (X:=X)) Zsa
theorem oSub:OpR X (binaryOp .Sub) (rI0 fun i j => .int (i - j)):=Xbg
noncomputable def oMul:=OpR.or (Xbi (X:=X)) Zrz
noncomputable def oLt:=OpR.or (Xcd (X:=X)) Zul
noncomputable def iAll:=IxR.or (IxR.or (Xae (X:=X)) Xbs) Xbt
noncomputable def slAll:=SlR.or (Zyx (X:=X)) Xaz
theorem PI.or{tg it:Expr}{wi wi':TI}(h:PI X tg it wi)(h':PI X tg it wi'):PI X tg it (fun σ H R=>wi σ H R∨wi' σ H R):=fun pins s σ H R I q=>q.elim (h pins s σ H R I) (h' pins s σ H R I)
theorem piAll{tg l:Expr}{tl:TE}(hl:PE X l tl):PI X tg l (fun σ H R=>iList X.K tl σ H R∨iStr tl σ H R):=(Zzf hl).or (Xbd hl)
end
def FunAt(K:Ua)(mg:Str→Option Value)(x:Str)(st:Stmt)(ps:List Str)(f:Addr)(fd:FuncData):Prop:=Fun K x x st f fd∧Binds K fd ps []∧mg x=some (.ref f)
def DefOk(P:Program)(w:World)(K:Ua)(mg:Str→Option Value)(base:Heap)(k:Nat)(x:Str)(ps:List Str)(sp:Sp):Prop :=
 ∃ f fd,FnOk P w K mg base CX0 k f fd ps sp∧Binds K fd ps []∧PySem.W.keepIn K (.ref f)=true∧mg x=some (.ref f)
def MethOk(P:Program)(w:World)(K:Ua)(mg:Str→Option Value)(base:Heap)(k:Nat)(C:Addr)(m:Str)(ps:List Str)(sp:Sp):Prop :=
 ∃ f fd,FnOk P w K mg base CX0 k f fd ps sp∧Binds K fd ps []∧Meth K C m f
def MakeOk(P:Program)(w:World)(K:Ua)(mg:Str→Option Value)(base:Heap)(k:Nat)(x:Str)(C:Addr)(ps:List Str)(sp:Sp):Prop :=
 ∃ f fd,Mk K C f∧FnOk P w K mg base CX0 k f fd ps sp∧Binds K fd ps []∧mg x=some (.ref C)
def GlobV(mg:Str→Option Value)(x:Str)(v:V):Prop:=∃ u,mg x=some u∧RelV v u
section
variable {X:Cx} {k k':Nat} {x m:Str} {C:Addr} {ps:List Str} {sp:Sp} {e o:Expr} {es:List Expr} {t:TA} {ta:TE} {p pos apos:Pos} {v:V}
theorem Yw(h:GlobV X.mg x v)(hg:Gl X x:=by rfl)(hd:(x == ("__debug__":Str))=false:=by decide +kernel):PE X (.Name x p) (tC v):=by
 obtain⟨u,h1,h2⟩:=h
 exact Zzj hg h1 h2 hd
theorem Zi(h:DefOk X.prog X.w X.K X.mg X.base k x ps sp)(hr:Room k' X.A)(ha:PA X (e::es) t)(hk:k≤k':=by decide)(hg:Gl X x:=by rfl)(hdb:(x == ("__debug__":Str))=false:=by decide +kernel)
  (he:starEach (e::es) X.env=(false,eval e X.env)::starEach es X.env:=by rfl) (hpl:(backTo pos (starEach es X.env)).any (·.1)=false:=by rfl):PE X (.Call (.Name x p) (e::es) [] pos) (tCall sp [] E0 t):=by
 obtain⟨f,fd,F,hb,kp,hm⟩:=h
 exact Zzk F (hr.mono hk) hg hm kp hb .nil pass0 ha hdb he hpl
theorem Zke{pl:Sem Bool}(h:MethOk X.prog X.w X.K X.mg X.base k C m ps sp)(c:Cls X.K C)(hr:Room k' X.A)(he:PE X o ta)(ha:PA X (e::es) t)(hk:k≤k':=by decide)
  (hst:starEach (e::es) X.env=(false,eval e X.env)::starEach es X.env:=by rfl) (hpl:(backTo pos (starEach es X.env)).any (·.1)=false:=by rfl)
  (ht:eval (.Call (.Attribute o m apos) (e::es) [] pos) X.env=(do
   let ov ← eval o X.env
   standAt apos.atName
   let (f,first) ← holding [ov] (getMethod ov m pl)
   callWith pos f first (backTo pos (starEach (e::es) X.env)) (backToKw pos (keywordEach [] X.env))):=by rfl) :
  PE X (.Call (.Attribute o m apos) (e::es) [] pos) (tMeth C m sp [] E0 ta t):=by
 obtain⟨f,fd,F,hb,hm⟩:=h
 exact Zzh he c hm F (hr.mono hk) hb .nil pass0 ha hst hpl ht
theorem Xt{pl:Sem Bool}(h:MethOk X.prog X.w X.K X.mg X.base k C m ps sp)(c:Cls X.K C)(hr:Room k' X.A)(he:PE X o ta)(hk:k≤k':=by decide)
  (ht:eval (.Call (.Attribute o m apos) [] [] pos) X.env=(do
   let ov ← eval o X.env
   standAt apos.atName
   let (f,first) ← holding [ov] (getMethod ov m pl)
   callWith pos f first (backTo pos (starEach [] X.env)) (backToKw pos (keywordEach [] X.env))):=by rfl) :
  PE X (.Call (.Attribute o m apos) [] [] pos) (tMeth C m sp [] E0 ta tNil):=by
 obtain⟨f,fd,F,hb,hm⟩:=h
 exact Zwt he c hm F (hr.mono hk) hb .nil pass0 ht
theorem Jv(h:MakeOk X.prog X.w X.K X.mg X.base k x C ps sp)(hr:Room k' X.A)(ha:PA X (e::es) t)(hk:k+1≤k':=by decide)(hg:Gl X x:=by rfl)(hdb:(x == ("__debug__":Str))=false:=by decide +kernel)
  (he:starEach (e::es) X.env=(false,eval e X.env)::starEach es X.env:=by rfl) (hpl:(backTo pos (starEach es X.env)).any (·.1)=false:=by rfl):PE X (.Call (.Name x p) (e::es) [] pos) (tMake C sp [] E0 t):=by
 obtain⟨f,fd,M,F,hb,hm⟩:=h
 exact Zzi M F (hr.mono hk) hg hm hb .nil pass0 ha hdb he hpl
end
theorem FunAt.ok{P:Program}{w:World}{K:Ua}{mg:Str→Option Value}{base:Heap}{x:Str}{st:Stmt}{f:Addr}{fd:FuncData}{N ps:List Str}{k:Nat}{sp:Sp}(F:FunAt K mg x st ps f fd)(S:FnScope N ps (Zg st))(len:∀ vs H Q E,sp vs H Q E→vs.length=ps.length)
  (hbody:∀ (cdv:Value) (A:Around) (outer:List Env) (s:Shared) (H:Hp) (vs:List V) (Q:VK) (E:XK),Room k (A.deeper (envOfC x (Zg st) s.heap.objs.size f cdv))→sp vs H Q E→
   ∃ t,PSs (cxOf CX0 P w K mg base N x (Zg st) f cdv A outer s H E).nox (defBody st) t∧t {nx:=fun _ H'=>∃ H'',Sub H H'' H'∧Q .non H'',rt:=fun v H'=>∃ H'',Sub H H'' H'∧Q v H''} (start N vs) H):DefOk P w K mg base (k+1) x ps sp :=
 ⟨f,fd,F.1.okK S len hbody,F.2.1,F.1.kp,F.2.2⟩
end L2
namespace L2
open PySem PySem.Spec PyProof.Rows
section
variable {X:Cx} {e:Expr} {pos:Pos}
theorem oEq:OpR X (compareOp .Eq) rEq:=Xch
theorem oNe:OpR X (compareOp .NotEq) rNe:=Xcc
theorem oLe:OpR X (compareOp .LtE) (rI0 fun i j => .bl (decide (i≤j))):=Xce
theorem oGt:OpR X (compareOp .Gt) (rI0 fun i j => .bl (decide (j<i))):=Xcf
theorem oGe:OpR X (compareOp .GtE) (rI0 fun i j => .bl (decide (j≤i))):=Xcg
theorem CallR.or'{f:Value}{r r':List V→Hp→VK→Prop}(h:CallR X f r)(h':CallR X f r'):CallR X f (fun xs H Q=>r xs H Q∨r' xs H Q):=fun pins s σ H xs us Q I rv q=>q.elim (h pins s σ H xs us Q I rv) (h' pins s σ H xs us Q I rv)
noncomputable def Jj:=CallR.or' (Zvp (X:=X)) Zlv
noncomputable def Xi:=CallR.or' (Zrh (X:=X)) Zox
theorem Zoa{ta:TE}(ha:PE X e ta):PE X (.UnaryOp .Not e pos) (fun σ H Q=>ta σ H fun x H'=>∃ k,TruV X.K x H' k∧Q (.bl (!k)) H'):=by
 intro pins s σ H Q I h
 refine UnaryOp_ (thn (ha pins s σ H _ I h) fun v s1 zq=>?_)
 obtain⟨x,H1,I1,r1,k,tv,q1⟩:=zq
 exact not_of (thn (Zvy pins s1 σ H1 x v (fun b H'=>b=k∧Q (.bl (!k)) H') I1 r1 ⟨k,tv,rfl,q1⟩) fun b s2 ⟨H2,I2,e,q2⟩=>by subst e;exact⟨.bl (!b),H2,I2,rfl,q2⟩)
end
end L2
namespace L2
open PySem
theorem Zba:bootBuiltins "int"=some (.type "int"):=by decide +kernel
theorem Zsu:bootBuiltins "str"=some (.type "str"):=by decide +kernel
theorem Zjh:bootBuiltins "bool"=some (.type "bool"):=by decide +kernel
theorem Qz:bootBuiltins "tuple"=some (.type "tuple"):=by decide +kernel
theorem Zoz:bootBuiltins "list"=some (.type "list"):=by decide +kernel
theorem Xg:bootBuiltins "len"=some (.builtin "len"):=by decide +kernel
theorem Xd:bootBuiltins "isinstance"=some (.builtin "isinstance"):=by decide +kernel
theorem Zoy:bootBuiltins "min"=some (.builtin "min"):=by decide +kernel
theorem Xca:bootBuiltins "abs"=some (.builtin "abs"):=by decide +kernel
theorem Zvq:bootBuiltins "sorted"=some (.builtin "sorted"):=by decide +kernel
theorem Zhy:bootBuiltins "all"=some (.builtin "all"):=by decide +kernel
end L2
end
section
namespace L2
open PySem PySem.Spec PyProof.Rows KM
theorem Xf{H:Hp}{a:Addr}{o u:HO}:upd (upd H a o) a u=upd H a u:=by
 funext b
 unfold upd
 split<;>rfl
theorem Zkx{J:It}{g:TG}{te:TE}{Q:VK}{H:Hp}{D:Addr}{σ0:St}(n:Nat)(xs fe:Nat→V)(S:St→Prop)(hn:n≤sizeLine)(h0:S σ0)
  (hgo:∀ i H,i<n→J.go i H) (hstop:∀ H,J.stop n H) (hy:∀ i H x H',i<n→J.yld i H x H'→H'=H∧x=xs i)
  (ht:∀ i σ1 H1,i<n→S σ1→∀ R:St→V→Hp→Prop,(∀ σ2,S σ2→R σ2 (fe i) H1)→g (xs i) σ1 H1 fun σ2 H2=>te σ2 H2 fun y H3=>R σ2 y H3)
  (hq:Q (.ref D) (upd H D (.lst ((List.range n).map fe)))) :
  CompGo J g tYes te Q σ0 H D:=by
 refine⟨fun i m σ1 H2=>i≤n∧m=n - i∧S σ1∧H2=upd H D (.lst ((List.range i).map fe)),⟨n,UF _,rfl,h0,rfl⟩,?_⟩
 rintro i m σ1 H2 ⟨h1,rfl,h2,rfl⟩
 rcases UZ i n with z | z
 ·refine .inr ⟨hgo i _ z,fun x H3 y=>?_⟩
  obtain⟨rfl,rfl⟩:=hy i _ x H3 z y
  refine ht i σ1 _ z h2 (fun σ2 y H6=>∃ xs m',H6 D=some (.lst xs)∧xs.length<sizeLine∧m'<n - i∧(i+1≤n∧m'=n - (i+1)∧S σ2∧upd H6 D (.lst (xs++[y]))=upd H D (.lst ((List.range (i+1)).map fe)))) fun σ2 q3=>?_
  refine⟨_,n - (i+1),Zb,?_,by omega,by omega,rfl,q3,?_⟩
  ·rw[Uj,Vb];omega
  ·rw[Xf,List.range_succ,UE];rfl
 ·have e:i=n:=by omega
  subst e
  exact .inl ⟨hstop _,hq⟩
theorem Zso{lo c:Int}{n:Nat}{g:TG}{tb:TS}{D:Ends}{σ:St}{H:Hp}(Pv:Nat→St→Hp→Prop)(h0:Pv 0 σ H)
  (hs:∀ i σ H,i<n→Pv i σ H→g (.int (lo+i*c)) σ H fun σ2 H2=>tb {D with nx:=Pv (i+1),ct:=Pv (i+1),bk:=D.nx} σ2 H2) (hd:∀ σ H,Pv n σ H→D.nx σ H) :
  ∃ W:Nat→Nat→St→Hp→Prop,(∃ m,W 0 m σ H)∧∀ i m σ H,W i m σ H→
   ((Itc lo c n).stop i H∧D.nx σ H)∨((Itc lo c n).go i H∧∃ N:St→Hp→Prop,(∀ σ' H',N σ' H'→∃ m',m'<m∧W (i+1) m' σ' H')∧∀ x H',(Itc lo c n).yld i H x H'→g x σ H' fun σ2 H2=>tb {D with nx:=N,ct:=N,bk:=D.nx} σ2 H2):=by
 refine⟨fun i m σ H=>i≤n∧m=n - i∧Pv i σ H,⟨n,UF _,rfl,h0⟩,?_⟩
 rintro i m σ H ⟨h1,rfl,h2⟩
 rcases UZ i n with z | z
 ·refine .inr ⟨z,Pv (i+1),fun σ' H' q=>⟨n - (i+1),by omega,by omega,rfl,q⟩,?_⟩
  rintro x H' ⟨rfl,rfl⟩
  exact hs i σ _ z h2
 ·have e:i=n:=by omega
  subst e
  exact .inl ⟨Up _,hd σ H h2⟩
end L2
namespace L2
open PySem
theorem Zeg{H:Hp}{a:Addr}{o:HO}(h:H a=some o):upd H a o=H:=by
 funext b
 unfold upd
 split
 ·rename_i e;rw[e,h]
 ·rfl
end L2
namespace KM
theorem Zxx(n k:Nat):n/2 ^ k=2*(n/2 ^ (k+1))+(n.testBit k).toNat:=by
 rw[Nat.testBit_eq_decide_div_mod_eq,Nat.pow_succ,← Nat.div_div_eq_div_mul]
 have:n/2 ^ k%2<2:=Nat.mod_lt _ (by decide)
 by_cases q:n/2 ^ k%2=1
 ·simp[q];omega
 ·have:n/2 ^ k%2=0:=by omega
  simp[this];omega
theorem Zvr{n d j:Nat}(h:j<d):(Xh n d)[j]?=some (n.testBit (d - 1 - j)):=by
 induction d generalizing j with
 | zero=>omega
 | succ d ih =>
  cases j with
  | zero=>simp[Xh]
  | succ j =>
   rw[Xh,List.getElem?_cons_succ,ih (by omega)]
   congr 2
   omega
theorem Zuh{l:List Bool}{i d n j:Nat}{t:Bool}(h:((l.drop i).take d).map (xor t)=Xh n d)(hj:j<d)(hl:i+d≤l.length):∃ b,l[i+j]?=some b∧xor t b=n.testBit (d - 1 - j):=by
 have e:=Zvr (n:=n) hj
 rw[← h,Ur,List.getElem?_take_of_lt hj,List.getElem?_drop] at e
 cases q:l[i+j]? with
 | none=>rw[q] at e;cases e
 | some b =>
  rw[q] at e
  exact⟨b,rfl,Ub e⟩
theorem Zeb(l:List Bool):l.map (xor false)=l:=by
 rw[show (xor false)=(id:Bool→Bool) from funext fun b=>by cases b<;>rfl,List.map_id]
end KM
namespace L2
open PySem
theorem Zxf(K:Ua)(t:Value):PySem.W.kitOne K t t=some true:=by
 unfold PySem.W.kitOne;rw[beq_self_eq_true,if_pos rfl]
end L2
namespace KM
theorem Zdy{a L:List Bool}(h:a.map (!·) <+: L):a <+: L.map (!·):=by
 obtain⟨r,e⟩:=h
 refine⟨r.map (!·),?_⟩
 rw[← e,UE,UU]
 congr 1
 conv=>lhs;rw[← List.map_id a]
 exact Vg fun b _=>(Bool.not_not b).symm
theorem Zia(l:List Bool)(t:Bool):(l.map (xor t)).map (!·)=l.map (xor (!t)):=by
 rw[UU]
 exact Vg fun b _=>by cases t<;>cases b<;>rfl
theorem Zjj{n:Int}(h1 : -(2 ^ 255)<n)(h2:n<2 ^ 255 - 1):(whl n).length≤270:=by
 have c:∀ m:Nat,m+1<2 ^ 255→(cnt m).length≤269:=fun m h=>by
  have:=Zde h
  have:=Yh h
  omega
 unfold whl
 split
 ·rw[Uq,Uj];have:=c (-1 - n).toNat (by omega);omega
 ·rw[Uq];have:=c n.toNat (by omega);omega
end KM
end
section
namespace L2
open PySem PySem.Spec PyProof.Rows
end L2
end
section
namespace L2
open PySem PySem.Spec PyProof.Rows
end L2
end
section
namespace L2
open PySem PySem.W PySem.Spec PyProof.Rows
end L2
end
section
namespace L2
open PySem PySem.W PySem.Spec PyProof.Rows
end L2
end
section
namespace L2
open PySem PySem.W PySem.Spec PyProof.Rows
end L2
end
section
namespace L2
open PySem PySem.W PySem.Spec PyProof.Rows
section
variable {X:Cx}
theorem Zob:OpR X (binaryOp .Mult) (rI (fun i j=>Builtin.Int.intBits i≤2 ^ 20∧Builtin.Int.intBits j≤2 ^ 20) fun i j => .int (i*j)):=opI fun _ _ _ _ _ _ _ hc q=>mul_int q (IntMulOk.of_bits hc.1 hc.2)
theorem room64{k:Nat}{A:Around}(hr:Room k A):A.units+64<cLine:=by have:=hr.un;omega
end
end L2
end
section
namespace L2
open PySem PySem.W PySem.Spec PyProof.Rows PySem.Builtin.ObjectAttr
end L2
end
section
namespace L2
open PySem PySem.W PySem.Spec PyProof.Rows
end L2
end
section
namespace L2
open PySem PySem.W PySem.Spec PyProof.Rows
noncomputable abbrev TJ:=Str→St→Hp→VK→Prop
end L2
end
section
namespace L2
open PySem PySem.W PySem.Spec PyProof.Rows
end L2
end
section
namespace L2
open PySem PySem.W PySem.Spec PyProof.Rows
section
variable {X:Cx}
def CDivB(i j:Int):Prop:=0<j∧(Builtin.Int.intBits j≤9000∨Builtin.Int.intBits i≤Builtin.Int.intBits j+4000)
theorem Zmk{j:Int}(h:j≠0):j.natAbs.log2+1=Builtin.Int.intBits j:=by
 unfold Builtin.Int.intBits
 rw[if_neg (by simpa using h)]
theorem CDivB.ok{i j:Int}(h:CDivB i j):Builtin.divisionGoesByPylong i j=false:=by
 unfold Builtin.divisionGoesByPylong
 have hj:=Zmk (Int.ne_of_gt h.1)
 have h2:=h.2
 have ej:(j == 0)=false:=by have:=h.1;simp;omega
 simp only[Bool.and_eq_false_iff,decide_eq_false_iff_not,ej,if_neg (show ¬(false=true) from by decide)]
 rcases h2 with h2 | h2
 ·left;omega
 ·right
  by_cases hi:i=0
  ·subst hi;rw[if_pos (by decide)];omega
  ·have hi2:=Zmk hi
   rw[if_neg (by simpa using hi)]
   omega
theorem Zcd:OpR X (binaryOp .FloorDiv) (rI CDivB fun i j => .int (i/j)):=opI fun i j _ _ _ _ _ hc q=>by
 have e:i.fdiv j=i/j:=Int.fdiv_eq_ediv_of_nonneg _ (Int.le_of_lt hc.1)
 exact floordiv_int (by have:=hc.1;omega) (by rw[e];exact q) (.inl hc.ok)
end
noncomputable def Itv(K:Ua)(a:Addr)(xs:List V):It:=⟨fun i H=>SqL K H a xs∧i<xs.length,fun i H x H'=>H'=H∧xs[xs.length - 1 - i]?=some x,fun i H=>SqL K H a xs∧xs.length≤i⟩
theorem Zvx{P:Program}{w:World}{K:Ua}{tg:Expr}(a it:Addr)(xs:List V):Turn P w K tg (Itv K a xs) [it] it (fun i h=>i≤xs.length∧h.IsRevIter it a ((xs.length:Int) - 1 - i)) where
 mem:=by simp
 obj:=fun i h st b hb=>by
  have e:b=it:=by simpa using hb
  subst e
  obtain⟨_,o,e,c,d⟩:=st
  exact⟨o,e,fun v z=>by rw[d] at z;cases z⟩
 keep:=fun i h h' st k=>⟨st.1,st.2.at fun o e=>k it (by simp) o e⟩
 item:=by
  intro X hP hw hK hc i pins s σ H E I hf st hg
  subst hP hw hK
  obtain⟨hq,hi⟩:=hg
  obtain⟨its,rv,p,hz⟩:=I.list hq
  have hx:xs[xs.length - 1 - i]?=some (xs[xs.length - 1 - i]'(by omega)):=Ui _
  obtain⟨u,hu,ru⟩:=rv.get hx
  obtain⟨f0,f1,f2,f3,f4,f5⟩:=hf it (by simp)
  have ei:((xs.length:Int) - 1 - i)=((xs.length - 1 - i:Nat):Int):=by omega
  have st1:=st.2
  rw[ei] at st1
  refine wpAny_pyNext_rev_item st1 p.isList (x:=u) (by simpa using hu) fun h' st' sb=>?_
  have I1:Inv X pins σ H {s with heap:=h'}:=I.turned (t':=s.toks) (fun b o hb e=>(sb.2 b hb).trans e) f0 f1 f3 f4 f5
  have ej:(((xs.length - 1 - i:Nat):Int) - 1)=((xs.length:Int) - 1 - ((i+1:Nat):Int)):=by omega
  rw[ej] at st'
  obtain⟨o,e,c,d⟩:=id st'
  exact⟨u,rfl,Zqv (s:={s with heap:=h'}) e c d (by decide) ⟨_,H,I1,ru,⟨rfl,hx⟩,⟨by omega,st'⟩,fun b hb=>(hf b hb).1⟩⟩
 done:=by
  intro X hP hw hK hc i pins s σ H E I hf st hg
  subst hP hw hK
  obtain⟨hq,hx⟩:=hg
  obtain⟨f0,f1,f2,f3,f4,f5⟩:=hf it (by simp)
  have ei:((xs.length:Int) - 1 - i) = -1:=by have:=st.1;omega
  have st1:=st.2
  rw[ei] at st1
  exact wpAny_pyNext_rev_end (I.ok.hd hc) st1 fun h' eb=>⟨rfl,I.turned (t':=s.toks) (fun b o hb e=>eb b o hb e) f0 f1 f3 f4 f5⟩
 self:=fun _ _ _ _ _ st h=>wpAny_pyIter_revIter st.2 h
section
variable {X:Cx} {tg:Expr}
def iRev(K:Ua)(tl:TE):TI:=fun σ H R=>tl σ H fun x H1=>∃ a xs,x = .ref a∧SqL K H1 a xs∧R (Itv K a xs) H1
theorem Xbe{l:Expr}{tl:TE}{p pos:Pos}(hg:Gl X "reversed")(hm:X.mg "reversed"=none)(hl:PE X l tl)(hs:starEach [l] X.env=[(false,eval l X.env)]:=by rfl):PI X tg (.Call (.Name "reversed" p) [l] [] pos) (iRev X.K tl):=by
 intro pins s σ H R I h
 have ha:PA X [l] _:=Za hl Ze (hs:=hs.trans rfl)
 refine Call_ (Zbu I hg hm boot_reversed (callWith_type1 (thn (ha pos pins s σ H (fun vs H1=>∃ x,vs=[x]∧∃ a xs,x = .ref a∧SqL X.K H1 a xs∧R (Itv X.K a xs) H1) I ?_) fun us s1 ⟨vs,H1,I1,r1,q1⟩=>?_) (by rw[hs];rfl) rfl))
 ·have h':tl σ H fun x H1=>∃ a xs,x = .ref a∧SqL X.K H1 a xs∧R (Itv X.K a xs) H1:=h
  show tl σ H fun x H1=>∃ y,[x]=[y]∧_
  exact cast (congrArg (tl σ H) (funext fun x=>funext fun H1=>propext ⟨fun q=>⟨x,rfl,q⟩,fun⟨y,e,q⟩=>by cases e;exact q⟩)) h'
 ·obtain⟨x,rfl,a,xs,rfl,hq,q⟩:=q1
  obtain⟨u,rfl,ru⟩:=vals1 r1
  obtain rfl:u=Value.ref a:=ru
  obtain⟨its,rv,pl,hz⟩:=I1.list hq
  have hlen:=rv.length
  refine call_reversed_list pl.isList ?_
  have I2:Inv X pins σ H1 {s1 with heap:=s1.heap.push (revObj a ((its.toArray.size:Int) - 1))}:=I1.kept (t':=s1.toks) fun b o e=>Us _ e
  have st0:(s1.heap.push (revObj a ((its.toArray.size:Int) - 1))).IsRevIter s1.heap.objs.size a ((xs.length:Int) - 1 - ((0:Nat):Int)):=by
   have e0:((its.toArray.size:Int) - 1)=((xs.length:Int) - 1 - ((0:Nat):Int)):=by rw[Uu,← hlen];omega
   rw[e0]
   exact⟨_,UG _ rfl,rfl,rfl⟩
  refine wpAny_pyIter_revIter st0 ?_
  refine⟨_,[_],_,_,H1,rfl,I2,Zvx a _ xs,⟨UF _,st0⟩,fun b hb=>?_,q⟩
  have e:=UD.mp hb
  subst e
  exact I1.fpOk (Up _) (I1.hok.fresh (Up _))
theorem Xak{K:Ua}{a:Addr}{xs:List V}{g:TG}{tb:TS}{D:Ends}{σ:St}{H:Hp}(Pv:Nat→St→Hp→Prop)(h0:Pv 0 σ H)(hl:∀ i σ H,i≤xs.length→Pv i σ H→SqL K H a xs)
  (hs:∀ i x σ H,i<xs.length→xs[xs.length - 1 - i]?=some x→Pv i σ H→g x σ H fun σ2 H2=>tb {D with nx:=Pv (i+1),ct:=Pv (i+1),bk:=D.nx} σ2 H2) (hd:∀ σ H,Pv xs.length σ H→D.nx σ H) :
  ∃ W:Nat→Nat→St→Hp→Prop,(∃ m,W 0 m σ H)∧∀ i m σ H,W i m σ H→
   ((Itv K a xs).stop i H∧D.nx σ H)∨((Itv K a xs).go i H∧∃ N:St→Hp→Prop,(∀ σ' H',N σ' H'→∃ m',m'<m∧W (i+1) m' σ' H')∧∀ x H',(Itv K a xs).yld i H x H'→g x σ H' fun σ2 H2=>tb {D with nx:=N,ct:=N,bk:=D.nx} σ2 H2):=by
 refine⟨fun i m σ H=>i≤xs.length∧m=xs.length - i∧Pv i σ H,⟨xs.length,UF _,rfl,h0⟩,?_⟩
 rintro i m σ H ⟨h1,rfl,h2⟩
 rcases UZ i xs.length with z | z
 ·refine .inr ⟨⟨hl i σ H h1 h2,z⟩,Pv (i+1),fun σ' H' q=>⟨xs.length - (i+1),by omega,by omega,rfl,q⟩,?_⟩
  rintro x H' ⟨rfl,hx⟩
  exact hs i x σ _ z hx h2
 ·have e:i=xs.length:=by omega
  subst e
  exact .inl ⟨⟨hl _ σ H (Up _) h2,Up _⟩,hd σ H h2⟩
theorem Zci(hc:X.calm=true):CallR X (.builtin "all") (fun xs H Q=>∃ a,∃ bs:List Bool,xs=[.ref a]∧SqL X.K H a (bs.map .bl)∧Q (.bl (bs.all id)) H):=by
 intro pins s σ H xs us Q I r h
 obtain⟨a,bs,rfl,hq,q⟩:=h
 obtain⟨u,rfl,ru⟩:=vals1 r
 obtain rfl:u=Value.ref a:=ru
 obtain⟨its,rv,pl,hz⟩:=I.list hq
 have hlen:=rv.length
 have hlt:a<s.heap.objs.size:=by obtain⟨o,ho,_⟩:=pl.isList;exact UL ho
 refine call_all_walkS (wpAny_pyIter_list pl.isList ?_)
 refine⟨s.heap.objs.size,[s.heap.objs.size,a],[s.heap.objs.size],_,its.toArray.size,_,_,fun i=>bs.getD i false,rfl,(Walks.list (A:=X.A.in1) (I.ok.hd hc) s.heap.objs.size a (UR hlt) its.toArray).toS,⟨⟨_,UG _ rfl,rfl,rfl⟩,?_⟩,?_,fun s' mv=>?_⟩
 ·obtain⟨o,ho,r⟩:=pl.isList;exact⟨o,Us _ ho,r⟩
 ·intro i v s2 Q2 E2 hv q2
  have hv':its[i]?=some v:=by simpa using hv
  have hi:i<bs.length:=by
   have:=(Uw.mp hv').1
   rw[Uj] at hlen;omega
  have hb:(bs.map V.bl)[i]?=some (.bl (bs.getD i false)):=by rw[Ur,Ui hi,Uk,Ui hi];rfl
  obtain⟨u,hu,ru⟩:=rv.get hb
  rw[hv'] at hu;cases hu
  obtain rfl:v=Value.bool (bs.getD i false):=ru
  exact wpAny_truthy_bool q2
 ·have hall:(List.range its.toArray.size).all (fun i=>bs.getD i false)=bs.all id:=by
   rw[Uu,← hlen,Uj]
   apply Bool.eq_iff_iff.mpr
   rw[Ve,Ve]
   constructor
   ·intro h x hx
    obtain⟨i,hi,rfl⟩:=List.mem_iff_getElem.mp hx
    have:=h i (List.mem_range.mpr hi)
    rw[Uk,Ui hi] at this
    exact this
   ·intro h i hi
    have hi':=List.mem_range.mp hi
    rw[Uk,Ui hi']
    exact h _ (List.getElem_mem hi')
  rw[hall]
  refine⟨.bl _,H,?_,rfl,q⟩
  have I2:Inv X pins σ H {s with heap:=s.heap.push {cls := .type "list_iterator",data := .fields #[.ref a,.int 0 0]}}:=I.kept (t':=s.toks) fun b o e=>Us _ e
  obtain⟨f0,f1,f2,f3,f4,f5⟩:=I.fpOk (b:=s.heap.objs.size) (Up _) (I.hok.fresh (Up _))
  have e:s'={s with heap:=s'.heap,toks:=s'.toks}:=by
   obtain⟨h1,g1,d1,t1,o1⟩:=s'
   have:=mv.gens;have:=mv.drawn;have:=mv.os
   dsimp only at *
   subst_vars;rfl
  have I3:=I2.turned (t':=s'.toks) (it:=s.heap.objs.size) (h':=s'.heap) (fun b o hb e=>mv.heap b o (by simpa using hb) e) f0 f1 f3 f4 f5
  rw[e]
  exact I3
end
theorem Zmw(l:List V):cutV l (some 1) none=l.drop 1:=by
 unfold cutV HT.sIx
 cases l with
 | nil=>rfl
 | cons a r=>simp
theorem Zvn(l:List V):cutV l none (some (-1))=l.take (l.length - 1):=by
 unfold cutV HT.sIx
 cases l with
 | nil=>rfl
 | cons a r =>
  simp only[show ((-1:Int)<0) from by decide,if_true,List.drop_zero,Nat.sub_zero]
  congr 1
  simp only[Uq]
  omega
end L2
namespace L2
open PySem PySem.W PySem.Spec PyProof.Rows
end L2
namespace L2
open PySem PySem.W PySem.Spec PyProof.Rows
theorem Zeo{K:Ua}{a:Addr}{xs:List V}{g:TG}{te:TE}{Q:VK}{H:Hp}{D:Addr}{σ0:St}(f:V→V)(S:St→Prop)(hz:xs.length≤sizeLine)(h0:S σ0)(hD:H D=none)(hl:SqL K H a xs)
  (ht:∀ x,x∈xs→∀ σ1 H1,S σ1→Same H H1→∀ R:St→V→Hp→Prop,(∀ σ2,S σ2→R σ2 (f x) H1)→g x σ1 H1 fun σ2 H2=>te σ2 H2 fun y H3=>R σ2 y H3)
  (hq:Q (.ref D) (upd H D (.lst (xs.map f)))) :
  CompGo (Itl K a) g tYes te Q σ0 H D:=by
 refine⟨fun i m σ1 H2=>i≤xs.length∧m=xs.length - i∧S σ1∧H2=upd H D (.lst ((xs.take i).map f)),⟨xs.length,UF _,rfl,h0,rfl⟩,?_⟩
 rintro i m σ1 H2 ⟨h1,rfl,h2,rfl⟩
 have hl2:=(Zq (o := .lst ((xs.take i).map f)) hD).seq hl
 rcases UZ i xs.length with z | z
 ·refine .inr ⟨⟨xs,xs[i],hl2,Ui z⟩,?_⟩
  rintro x H3 ⟨rfl,hx⟩
  have hx:=hx xs hl2
  refine ht x (Uv hx) σ1 _ h2 (Zq hD) (fun σ2 y H6=>∃ ys m',H6 D=some (.lst ys)∧ys.length<sizeLine∧m'<xs.length - i∧(i+1≤xs.length∧m'=xs.length - (i+1)∧S σ2∧upd H6 D (.lst (ys++[y]))=upd H D (.lst ((xs.take (i+1)).map f)))) fun σ2 q3=>?_
  refine⟨_,xs.length - (i+1),Zb,?_,by omega,by omega,rfl,q3,?_⟩
  ·rw[Uj,US];omega
  ·rw[Xf,UX,hx,UE];rfl
 ·have e:i=xs.length:=by omega
  subst e
  rw[List.take_length]
  rw[List.take_length] at hl2
  exact .inl ⟨⟨xs,hl2,Up _⟩,hq⟩
end L2
end
section
namespace KM
open PySem L2
noncomputable def frac:List Int→Int×Int
 | []=>(1,0)
 | a::r=>(a*(frac r).1+(frac r).2,(frac r).1)
def Tail(r:List Int):Prop:=(∀ x∈r,1≤x)∧∀ h:r≠[],2≤r.getLast h
noncomputable def Good:List Int→Prop
 | []=>False
 | _::r=>Tail r
theorem Tail.tl{a:Int}{r:List Int}(h:Tail (a::r)):Tail r:=by
 refine⟨fun x hx=>h.1 x (Ul _ hx),fun hr=>?_⟩
 have:=h.2 (Vd _ _)
 rwa [List.getLast_cons hr] at this
theorem Tail.frac:∀ {r:List Int},Tail r→0≤(frac r).2∧(frac r).2<(frac r).1∧(r≠[]→0<(frac r).2)
 | [],_=>⟨by decide,by decide,fun h=>absurd rfl h⟩
 | a::r,h=>by
  obtain⟨h1,h2,h3⟩:=h.tl.frac
  have ha:=h.1 a (Ux ..)
  show 0≤(KM.frac r).1∧(KM.frac r).1<a*(KM.frac r).1+(KM.frac r).2∧(_→0<(KM.frac r).1)
  refine⟨by omega,?_,fun _=>by omega⟩
  by_cases hr:r=[]
  ·subst hr
   have hl:=h.2 (Vd _ _)
   have hl':(2:Int)≤a:=hl
   show (1:Int)<a*1+0
   omega
  ·have:=h3 hr
   have hm:1*(KM.frac r).1≤a*(KM.frac r).1:=Int.mul_le_mul_of_nonneg_right ha (by omega)
   omega
noncomputable def euc(p q:Int):List Int:=if h:0<q then (p/q)::euc q (p%q) else []
termination_by q.toNat
decreasing_by
 have:=UK p h
 have:=UO p (Int.ne_of_gt h)
 omega
theorem Jc{p q:Int}(h:0<q):euc p q=(p/q)::euc q (p%q):=by rw[euc,dif_pos h]
theorem Qx(p:Int):euc p 0=[]:=by rw[euc,dif_neg (by decide)]
theorem Zha(i:Int):Builtin.Int.intBits i=blen i.natAbs:=by
 unfold Builtin.Int.intBits blen
 by_cases h:i=0
 ·subst h;rfl
 ·rw[if_neg (by simpa using h),if_neg (by omega)]
theorem Zms{B:Nat}:∀ {s:List Int},(∀ x∈s,x.natAbs<2 ^ B)→(frac s).1.natAbs≤2 ^ ((B+1)*s.length)∧(frac s).2.natAbs≤2 ^ ((B+1)*s.length)
 | [],_=>⟨by rw[List.length_nil,Nat.mul_zero];decide,by rw[List.length_nil,Nat.mul_zero];decide⟩
 | a::r,h=>by
  obtain⟨h1,h2⟩:=Zms (s:=r) fun x hx=>h x (Ul _ hx)
  have ha:=h a (Ux ..)
  have e:(B+1)*(a::r).length=(B+1)*r.length+(B+1):=by rw[Uq,Nat.mul_succ]
  rw[e,Nat.pow_add]
  obtain⟨T,hT⟩:∃ T,T=2 ^ ((B+1)*r.length):=⟨_,rfl⟩
  rw[← hT] at h1 h2 ⊢
  have hb:1≤2 ^ B:=Nat.one_le_two_pow
  have e2:2 ^ (B+1)=2 ^ B*2:=Nat.pow_succ ..
  rw[e2]
  obtain⟨b,hbb⟩:∃ b,b=2 ^ B:=⟨_,rfl⟩
  rw[← hbb] at ha hb ⊢
  have e3:T*(b*2)=b*T+T*b:=by rw[← Nat.mul_assoc,Nat.mul_two,Nat.mul_comm b T]
  have k1:T*1≤T*b:=Nat.mul_le_mul_left _ hb
  constructor
  ·show (a*(frac r).1+(frac r).2).natAbs≤_
   have z:=Int.natAbs_add_le (a*(frac r).1) (frac r).2
   rw[Int.natAbs_mul] at z
   have m:a.natAbs*(frac r).1.natAbs≤b*T:=Nat.mul_le_mul (Nat.le_of_lt ha) h1
   omega
  ·show (frac r).1.natAbs≤_
   have:0≤b*T:=UF _
   omega
theorem Ztq{i:Int}{k:Nat}(h:i.natAbs≤2 ^ k):Builtin.Int.intBits i≤k+1:=by
 rw[Zha]
 refine Yh ?_
 rw[Nat.pow_succ]
 have:=Nat.two_pow_pos k
 omega
theorem Ztp{i:Int}{k:Nat}(h:i.natAbs<2 ^ k):Builtin.Int.intBits i≤k:=by rw[Zha];exact Yh h
theorem Zxy{p q:Int}{B:Nat}(h:0<q)(hs:(p/q).natAbs<2 ^ B):Builtin.Int.intBits p≤Builtin.Int.intBits q+(B+1):=by
 rw[Zha,Zha]
 refine Yh ?_
 have e:=Int.mul_ediv_add_emod p q
 have r0:=UO p (Int.ne_of_gt h)
 have r1:=UK p h
 have z:=Int.natAbs_add_le (q*(p/q)) (p%q)
 rw[e,Int.natAbs_mul] at z
 have hq:=Qq q.natAbs
 have m:q.natAbs*(p/q).natAbs≤q.natAbs*2 ^ B:=Nat.mul_le_mul_left _ (Nat.le_of_lt hs)
 rw[Nat.pow_add,Nat.pow_succ]
 have m2:q.natAbs*2 ^ B≤2 ^ blen q.natAbs*2 ^ B:=Nat.mul_le_mul_right _ (Nat.le_of_lt hq)
 have hb:1≤2 ^ B:=Nat.one_le_two_pow
 have m3:2 ^ blen q.natAbs*1≤2 ^ blen q.natAbs*2 ^ B:=Nat.mul_le_mul_left _ hb
 have e3:2 ^ blen q.natAbs*(2 ^ B*2)=2 ^ blen q.natAbs*2 ^ B+2 ^ blen q.natAbs*2 ^ B:=by rw[← Nat.mul_assoc,Nat.mul_two]
 omega
noncomputable def goodB(s:List Int):Bool:=if s.length<2 then decide (s.length=1) else s.tail.all (fun x=>decide (0<x))&&decide (1<s.getLastD 0)
theorem Zmr(s:List Int):goodB s=true↔Good s:=by
 unfold goodB
 match s with
 | []=>simp[Good]
 | [a]=>simp[Good,Tail]
 | a::b::r =>
  rw[if_neg (by simp)]
  rw[UN,Ve,UW]
  have e:(a::b::r).getLastD 0=(b::r).getLast (Vd _ _):=by
   rw[List.getLastD_cons,List.getLastD_eq_getLast?,List.getLast?_eq_some_getLast (Vd _ _)];rfl
  rw[e]
  constructor
  ·rintro⟨h1,h2⟩
   exact⟨fun x hx=>by have:=UJ (h1 x hx);omega,fun _=>by omega⟩
  ·rintro⟨h1,h2⟩
   exact⟨fun x hx=>Ut (by have:=h1 x hx;omega),by have:=h2 (Vd _ _);omega⟩
theorem Good.ne{s:List Int}(h:Good s):s≠[]:=by intro e;subst e;exact h
end KM
end
section
namespace L2
open PySem PySem.W PySem.Spec PyProof.Rows
section
variable {X:Cx} {pins:List (Addr×Obj)} {σ:St} {H:Hp} {s:Shared} {h':Heap}
theorem Inv.turnedNew{t':Nat}{ch:List Addr}{a:Addr}{o:HO}(I:Inv X pins σ H s)(k:∀ b u,b∉ch→s.heap.get? b=some u→h'.get? b=some u)(hf:∀ b∈ch,FpOk X pins H b)(ha:s.heap.objs.size≤a)(new:ObjOk X.prog X.w (upd H a o) h' a o) :
  Inv X pins σ (upd H a o) {s with heap:=h',toks:=t'}:=by
 have hn:=I.hok.fresh ha
 have nch:∀ b u,H b=some u→b∉ch:=fun b u e z=>by have:=(hf b z).1;rw[this] at e;cases e
 have ne:∀ b u,s.heap.get? b=some u→b≠a:=fun b u e z=>by subst z;exact absurd (UA (UL e) ha) (Nat.lt_irrefl _)
 refine I.step (g':=s.gens) (d':=s.drawn) (ch:=ch) (fun b hb=>?_) (fun b o _ _ hc e _=>k b o hc e) (fun b o _ _ hc e _=>⟨o.slots,k b o hc e⟩) (fun b u _ e n=>by rw[Zn (ne b u e)];exact n)
  (fun b o hc e=>⟨o,k b o hc e⟩) (fun b xs e=>by rw[Zn (Xa e hn)];exact e) (fun b u v e=>by rw[Zn (Xa e hn)];exact e) (fun b ps e=>⟨#[],by rw[Zn (Xa e hn),e];simp⟩) (fun m hm=>?_) (fun b u e=>?_) I.bare
 ·obtain⟨f0,f1,f2,f3,f4,f5⟩:=hf b hb
  exact⟨f3,f1,f4,f5⟩
 ·obtain⟨ob,es,ep,ho,r⟩:=hm
  exact⟨ob,es,ep,k _ ob (fun z=>(hf _ z).2.1 rfl) ho,r⟩
 ·by_cases hb:b=a
  ·subst hb;rw[Zb] at e;cases e;exact new
  ·rw[Zn hb] at e
   refine(I.hok b u e).stay (fun c v hc q=>k c v ?_ q) (fun c q=>by rw[Zn (Xa q hn)];exact q) fun c xs q=>by rw[Zn (Xa q hn)];exact q
   rcases hc with z | z
   ·rw[z];exact nch b u e
   ·exact nch c _ z
theorem Inv.turnedL{t':Nat}{ch:List Addr}(I:Inv X pins σ H s)(k:∀ b u,b∉ch→s.heap.get? b=some u→h'.get? b=some u)(hf:∀ b∈ch,FpOk X pins H b):Inv X pins σ H {s with heap:=h',toks:=t'}:=by
 have nch:∀ b u,H b=some u→b∉ch:=fun b u e z=>by have:=(hf b z).1;rw[this] at e;cases e
 refine I.step (g':=s.gens) (d':=s.drawn) (ch:=ch) (fun b hb=>?_) (fun b o _ _ hc e _=>k b o hc e) (fun b o _ _ hc e _=>⟨o.slots,k b o hc e⟩) (fun _ _ _ _ n=>n)
  (fun b o hc e=>⟨o,k b o hc e⟩) (fun _ _ e=>e) (fun _ _ _ e=>e) (fun b ps e=>⟨#[],by rw[e];simp⟩) (fun m hm=>?_) (fun b u e=>?_) I.bare
 ·obtain⟨f0,f1,f2,f3,f4,f5⟩:=hf b hb
  exact⟨f3,f1,f4,f5⟩
 ·obtain⟨ob,es,ep,ho,r⟩:=hm
  exact⟨ob,es,ep,k _ ob (fun z=>(hf _ z).2.1 rfl) ho,r⟩
 ·refine(I.hok b u e).stay (fun c v hc q=>k c v ?_ q) (fun _ q=>q) fun _ _ q=>q
  rcases hc with z | z
  ·rw[z];exact nch b u e
  ·exact nch c _ z
end
noncomputable def Ite(K:Ua)(a:Addr)(xs:List V):It :=
 ⟨fun i H=>SqL K H a xs∧i<xs.length,fun i H x H'=>∃ (T:Addr) (y:V),H T=none∧xs[i]?=some y∧x = .ref T∧H'=upd H T (.tup [.int (i:Nat),y]),fun i H=>SqL K H a xs∧xs.length≤i⟩
theorem Ztu{P:Program}{w:World}{K:Ua}{elts:List Expr}{k:Nat}{pos:Pos}(a e it:Addr)(xs:List V)(h1:e≠it)(h2:a≠e)(h3:a≠it) :
  Turn P w K (.Tuple elts k pos) (Ite K a xs) [e,it] e (fun i h=>i≤xs.length∧(∃ old,IsEnum h e it (i:Nat) old)∧h.IsListIter it a i) where
 mem:=by simp
 obj:=fun i h st b hb=>by
  obtain⟨_,⟨old,st1⟩,st2⟩:=st
  rcases Um.mp hb with z | z
  ·subst z
   exact⟨_,st1,fun v z=>by cases z⟩
  ·obtain rfl:=UD.mp z
   obtain⟨o,e,c,d⟩:=st2
   exact⟨o,e,fun v z=>by rw[d] at z;cases z⟩
 keep:=fun i h h' st k=>by
  obtain⟨hi,⟨old,st1⟩,st2⟩:=st
  exact⟨hi,⟨old,k e (by simp) _ st1⟩,st2.at fun o e=>k it (by simp) o e⟩
 item:=by
  intro X hP hw hK hc i pins s σ H E I hf st hg
  subst hP hw hK
  obtain⟨hq,hi⟩:=hg
  obtain⟨its,rv,p,hz⟩:=I.list hq
  have hlen:=rv.length
  have W:=WalksT.enumerate (prog:=X.prog) (w:=X.w) (I.ok.hd hc) e it a h1 h2 h3 its.toArray
  refine W.item i s _ _ (by rw[Uu];omega) ⟨st.2.1,st.2.2,p.isList⟩ fun T vals h' tk hv hT htup mid kk=>?_
  refine⟨_,rfl,W.go elts k pos i T _ _ _ mid fun h'' st' kk'=>?_⟩
  obtain⟨t,u,hu,rfl⟩:=hv
  have hu':its[i]?=some u:=by simpa using hu
  have hy:xs[i]?=some (xs[i]'hi):=Ui hi
  obtain⟨u2,hu2,ru⟩:=rv.get hy
  rw[hu'] at hu2;cases hu2
  have hTf:=I.hok.fresh hT
  have nT:T∉[e,it]:=W.apart i T h' mid
  refine⟨.ref T,upd H T (.tup [.int (i:Nat),xs[i]'hi]),?_,rfl,⟨T,_,hTf,hy,rfl,rfl⟩,⟨by omega,st'.1,st'.2.1⟩,fun b hb=>?_⟩
  ·refine I.turnedNew (ch:=[e,it]) (t':=tk) (fun b o hb eb=>kk' b o hb (kk b o hb eb)) hf hT ?_
   refine⟨by show 2≤sizeLine;decide,[Value.int (i:Nat) t,u],.cons ⟨t,rfl⟩ (.cons ru .nil),?_⟩
   obtain⟨o,ho,r⟩:=htup
   exact⟨o,kk' T o nT ho,r⟩
  ·have:=(hf b hb).1
   rw[Zn]
   ·exact this
   ·intro z;subst z;exact nT hb
 done:=by
  intro X hP hw hK hc i pins s σ H E I hf st hg
  subst hP hw hK
  obtain⟨hq,hi⟩:=hg
  obtain⟨its,rv,p,hz⟩:=I.list hq
  have hlen:=rv.length
  have W:=WalksT.enumerate (prog:=X.prog) (w:=X.w) (I.ok.hd hc) e it a h1 h2 h3 its.toArray
  have ei:i=its.toArray.size:=by rw[Uu];have:=st.1;omega
  subst ei
  exact W.done s _ _ ⟨st.2.1,st.2.2,p.isList⟩ fun h' tk kk=>⟨rfl,I.turnedL (t':=tk) kk hf⟩
 self:=fun A i s Q E st h=>by
  obtain⟨_,⟨old,st1⟩,_⟩:=st
  exact wpAny_pyIter_enum st1 h
section
variable {X:Cx}
def iEnum(K:Ua)(tl:TE):TI:=fun σ H R=>tl σ H fun x H1=>∃ a xs,x = .ref a∧SqL K H1 a xs∧R (Ite K a xs) H1
theorem Zzg{l:Expr}{tl:TE}{p pos:Pos}{elts:List Expr}{k:Nat}{tpos:Pos}(hg:Gl X "enumerate")(hm:X.mg "enumerate"=none)(hl:PE X l tl)(hs:starEach [l] X.env=[(false,eval l X.env)]:=by rfl):PI X (.Tuple elts k tpos) (.Call (.Name "enumerate" p) [l] [] pos) (iEnum X.K tl):=by
 intro pins s σ H R I h
 have ha:PA X [l] _:=Za hl Ze (hs:=hs.trans rfl)
 refine Call_ (Zbu I hg hm boot_enumerate (callWith_type1 (thn (ha pos pins s σ H (fun vs H1=>∃ x,vs=[x]∧∃ a xs,x = .ref a∧SqL X.K H1 a xs∧R (Ite X.K a xs) H1) I ?_) fun us s1 ⟨vs,H1,I1,r1,q1⟩=>?_) (by rw[hs];rfl) rfl))
 ·have h':tl σ H fun x H1=>∃ a xs,x = .ref a∧SqL X.K H1 a xs∧R (Ite X.K a xs) H1:=h
  show tl σ H fun x H1=>∃ y,[x]=[y]∧_
  exact cast (congrArg (tl σ H) (funext fun x=>funext fun H1=>propext ⟨fun q=>⟨x,rfl,q⟩,fun⟨y,e,q⟩=>by cases e;exact q⟩)) h'
 ·obtain⟨x,rfl,a,xs,rfl,hq,q⟩:=q1
  obtain⟨u,rfl,ru⟩:=vals1 r1
  obtain rfl:u=Value.ref a:=ru
  obtain⟨its,rv,pl,hz⟩:=I1.list hq
  have hlt:a<s1.heap.objs.size:=by obtain⟨o,ho,_⟩:=pl.isList;exact UL ho
  refine call_enumerate_list pl.isList fun h' he hi hsz kk=>?_
  have I2:Inv X pins σ H1 {s1 with heap:=h'}:=I1.kept (t':=s1.toks) kk
  refine wpAny_pyIter_enum he ?_
  refine⟨_,[s1.heap.objs.size+1,s1.heap.objs.size],_,_,H1,rfl,I2,Ztu a _ _ xs (Nat.succ_ne_self _) (UR (Nat.lt_succ_of_lt hlt)) (UR hlt),⟨UF _,⟨_,he⟩,hi⟩,fun b hb=>?_,q⟩
  rcases Um.mp hb with z | z
  ·subst z;exact I1.fpOk (by omega) (I1.hok.fresh (by omega))
  ·obtain rfl:=UD.mp z
   exact I1.fpOk (Up _) (I1.hok.fresh (Up _))
theorem Zxp{K:Ua}{a:Addr}{xs:List V}{g:TG}{tb:TS}{D:Ends}{σ:St}{H:Hp}(Pv:Nat→St→Hp→Prop)(h0:Pv 0 σ H)(hl:∀ i σ H,i≤xs.length→Pv i σ H→SqL K H a xs)
  (hs:∀ i x σ H T,xs[i]?=some x→H T=none→Pv i σ H→g (.ref T) σ (upd H T (.tup [.int (i:Nat),x])) fun σ2 H2=>tb {D with nx:=Pv (i+1),ct:=Pv (i+1),bk:=D.nx} σ2 H2) (hd:∀ σ H,Pv xs.length σ H→D.nx σ H) :
  ∃ W:Nat→Nat→St→Hp→Prop,(∃ m,W 0 m σ H)∧∀ i m σ H,W i m σ H→
   ((Ite K a xs).stop i H∧D.nx σ H)∨((Ite K a xs).go i H∧∃ N:St→Hp→Prop,(∀ σ' H',N σ' H'→∃ m',m'<m∧W (i+1) m' σ' H')∧∀ x H',(Ite K a xs).yld i H x H'→g x σ H' fun σ2 H2=>tb {D with nx:=N,ct:=N,bk:=D.nx} σ2 H2):=by
 refine⟨fun i m σ H=>i≤xs.length∧m=xs.length - i∧Pv i σ H,⟨xs.length,UF _,rfl,h0⟩,?_⟩
 rintro i m σ H ⟨h1,rfl,h2⟩
 rcases UZ i xs.length with z | z
 ·refine .inr ⟨⟨hl i σ H h1 h2,z⟩,Pv (i+1),fun σ' H' q=>⟨xs.length - (i+1),by omega,by omega,rfl,q⟩,?_⟩
  rintro x H' ⟨T,y,hT,hy,rfl,rfl⟩
  exact hs i y σ H T hy hT h2
 ·have e:i=xs.length:=by omega
  subst e
  exact .inl ⟨⟨hl _ σ H (Up _) h2,Up _⟩,hd σ H h2⟩
end
end L2
end
section
namespace KM
open PySem L2
noncomputable def more:List Int→List Bool
 | []=>[false]
 | b::r=>true::(cnt (b - 1).toNat++more r).map (!·)
noncomputable def frow:List Int→List Bool
 | []=>[]
 | a::r=>whl a++more r
noncomputable def odd(k:Nat):Bool:=decide (k%2=1)
theorem Zgm(k:Nat):odd (k+1)=!odd k:=by
 unfold odd
 have h:k%2=0∨k%2=1:=by omega
 rcases h with h | h
 ·have:(k+1)%2=1:=by omega
  simp[h,this]
 ·have:(k+1)%2=0:=by omega
  simp[h,this]
noncomputable def piece(k:Nat)(x:Int)(last:Bool):List Bool:=((if k=0 then whl x else cnt (x - 1).toNat)++[!last]).map (xor (odd k))
noncomputable def pcs:Nat→List Int→List (List Bool)
 | _,[]=>[]
 | k,x::r=>piece k x r.isEmpty::pcs (k+1) r
theorem Zfl(k:Nat)(s:List Int):(pcs k s).length=s.length:=by
 induction s generalizing k with
 | nil=>rfl
 | cons x r ih=>simp only[pcs,Uq,ih]
theorem Ztc{s:List Int}{k i:Nat}{x:Int}(h:s[i]?=some x):(pcs k s)[i]?=some (piece (k+i) x (decide (i+1=s.length))):=by
 induction s generalizing k i with
 | nil=>cases h
 | cons y r ih =>
  cases i with
  | zero =>
   cases h
   show some (piece k x r.isEmpty)=_
   congr 2
   cases r<;>simp
  | succ i =>
   have h':r[i]?=some x:=h
   have:=ih (k:=k+1) h'
   show (pcs (k+1) r)[i]?=_
   rw[this]
   congr 2
   ·omega
   ·simp
theorem Zvv(l:List Bool)(t:Bool):(l.map (!·)).map (xor t)=l.map (xor (!t)):=by
 rw[UU]
 exact Vg fun b _=>by cases t<;>cases b<;>rfl
theorem Zwu{k:Nat}(hk:k≠0)(b:Int)(r:List Int):(pcs k (b::r)).flatten=(cnt (b - 1).toNat++more r).map (xor (odd k)):=by
 induction r generalizing k b with
 | nil =>
  show (piece k b true++[])=_
  rw[List.append_nil]
  unfold piece
  rw[if_neg hk];rfl
 | cons c r ih =>
  show piece k b false++(pcs (k+1) (c::r)).flatten=_
  rw[ih (by omega) c]
  unfold piece
  rw[if_neg hk,Zgm,more,← Zvv,← UE,UH];rfl
theorem Zzl(a:Int)(r:List Int):(pcs 0 (a::r)).flatten=frow (a::r):=by
 have e0:∀ l:List Bool,l.map (xor (odd 0))=l:=fun l=>Zeb l
 cases r with
 | nil =>
  show (piece 0 a true++[])=_
  rw[List.append_nil]
  unfold piece
  rw[if_pos rfl,e0];rfl
 | cons b r =>
  show piece 0 a false++(pcs 1 (b::r)).flatten=_
  rw[Zwu (by decide)]
  unfold piece
  rw[if_pos rfl,e0]
  show _=whl a++(true::(cnt (b - 1).toNat++more r).map (!·))
  rw[UH]
  congr 1
  show true::List.map (xor (odd 1)) _=true::_
  congr 1
  exact Vg fun b _=>by cases b<;>rfl
noncomputable def cd(p q:Int):Int:=if h:0<q then cd q (p%q) else p
termination_by q.toNat
decreasing_by
 have:=UK p h
 have:=UO p (Int.ne_of_gt h)
 omega
theorem Zov{p q:Int}(h:0<q):cd p q=cd q (p%q):=by rw[cd,dif_pos h]
theorem Zgz(p:Int):cd p 0=p:=by rw[cd,dif_neg (by decide)]
end KM
namespace L2
open PySem PySem.Spec PyProof.Rows
theorem Sub.trans'{H H1 H2 H' X:Hp}(a:Sub H H1 X)(b:Sub H1 H2 H'):Sub H H2 H' :=
 ⟨b.le,fun c o e=>let ⟨u,hu⟩:=a.ge c o e;b.ge c u hu,fun z=>b.cl (a.cl z)⟩
theorem Sub.insNew{H H':Hp}{p C dx r:Addr}{fs fs':List (Str×V)}{o:HO}(h:H p=some (.ins C dx fs))(hr:H r=none)(hs:∀ b u,b≠p→H b=some u→H' b=some u)(e:H' p=some (.ins C dx fs'))(er:H' r=some o)(ho:OwnIn (upd (upd H p (.ins C dx fs')) r o) r o) :
  Sub H (upd (upd H p (.ins C dx fs')) r o) H':=by
 have hpr:r≠p:=fun z=>by rw[z,h] at hr;cases hr
 refine Sub.trans' (Sub.ins h hs e) (.new (by rw[Zn hpr];exact hr) (fun b u q=>?_) er ho)
 by_cases z:b=p
 ·subst z;rw[Zb] at q;cases q;exact e
 ·rw[Zn z] at q;exact hs b u z q
end L2
end
section
namespace KM
open PySem L2
def Cross(s t:List Int):Prop:=(frac s).1*(frac t).2<(frac t).1*(frac s).2
theorem Zrd{a b:Int}{r u:List Int}(hr:Tail r)(hu:Tail u)(h:a<b):Cross (a::r) (b::u):=by
 obtain⟨y0,yx,_⟩:=hr.frac
 obtain⟨y0',yx',_⟩:=hu.frac
 show (a*(frac r).1+(frac r).2)*(frac u).1<(b*(frac u).1+(frac u).2)*(frac r).1
 generalize (frac r).1=x at *
 generalize (frac r).2=y at *
 generalize (frac u).1=x' at *
 generalize (frac u).2=y' at *
 have hx:0<x:=by omega
 have hx':0<x':=by omega
 have k1:(a+1)*(x*x')≤b*(x*x'):=Int.mul_le_mul_of_nonneg_right (by omega) (Int.le_of_lt (Int.mul_pos hx hx'))
 have k2:y*x'<x*x':=Int.mul_lt_mul_of_pos_right yx hx'
 have k3:0≤y'*x:=Int.mul_nonneg y0' (Int.le_of_lt hx)
 have e1:(a*x+y)*x'=a*(x*x')+y*x':=by rw[Int.add_mul,Int.mul_assoc]
 have e2:(b*x'+y')*x=b*(x*x')+y'*x:=by rw[Int.add_mul,Int.mul_assoc,Int.mul_comm x' x]
 have e3:(a+1)*(x*x')=a*(x*x')+x*x':=by rw[Int.add_mul,Int.one_mul]
 rw[e1,e2]
 rw[e3] at k1
 omega
theorem cross_eq{a:Int}{r u:List Int}:Cross (a::r) (a::u)↔Cross u r:=by
 show (a*(frac r).1+(frac r).2)*(frac u).1<(a*(frac u).1+(frac u).2)*(frac r).1↔(frac u).1*(frac r).2<(frac r).1*(frac u).2
 generalize (frac r).1=x
 generalize (frac r).2=y
 generalize (frac u).1=x'
 generalize (frac u).2=y'
 have e1:(a*x+y)*x'=a*(x*x')+x'*y:=by rw[Int.add_mul,Int.mul_assoc,Int.mul_comm y]
 have e2:(a*x'+y')*x=a*(x*x')+x*y':=by rw[Int.add_mul,Int.mul_assoc,Int.mul_comm x' x,Int.mul_comm y']
 rw[e1,e2]
 omega
theorem Zmx{u:List Int}(hu:Tail u):¬Cross [] u:=by
 obtain⟨y0,yx,_⟩:=hu.frac
 show ¬(1*(frac u).2<(frac u).1*0)
 omega
def InR(r:List Int):Prop:=∀ x∈r,1≤x∧x<2 ^ 255
noncomputable def trow:List Int→List Bool
 | []=>[]
 | c::r=>cnt (c - 1).toNat++more r
theorem Zen(c:Int)(r:List Int):more (c::r)=true::(trow (c::r)).map (!·):=rfl
theorem Ztv:∀ (n:Nat) {s t:List Int},s.length+t.length≤n→Tail s→Tail t→InR s→InR t→s≠[]→t≠[]→Cross s t→Sep (trow s) (trow t):=by
 intro n
 induction n with
 | zero =>
  intro s t hn _ _ _ _ h1 _ _
  exact absurd (List.eq_nil_of_length_eq_zero (by omega)) h1
 | succ n ih =>
  intro s t hn hs ht is it h1 h2 h
  obtain⟨a,r,rfl⟩:=List.exists_cons_of_ne_nil h1
  obtain⟨b,u,rfl⟩:=List.exists_cons_of_ne_nil h2
  have ha:=is a (Ux ..)
  have hb:=it b (Ux ..)
  rcases Int.lt_trichotomy a b with c | c | c
  ·exact(Zou (n:=(a - 1).toNat) (n':=(b - 1).toNat) (by omega) (by omega)).post _ _
  ·subst c
   have h':=cross_eq.mp h
   refine Sep.pre _ ?_
   have hr:=hs.tl
   have hu:=ht.tl
   cases u with
   | nil=>exact absurd h' (Zmx hr)
   | cons d u =>
    cases r with
    | nil=>exact⟨[],[],_,rfl,rfl⟩
    | cons c r =>
     rw[Zen,Zen]
     exact Sep.pre [true] (Sep.turn (ih (by simp only[Uq] at hn ⊢;omega) hu hr (fun x hx=>it x (Ul _ hx)) (fun x hx=>is x (Ul _ hx)) (Vd _ _) (Vd _ _) h'))
  ·have:=Zrd ht.tl hs.tl c
   unfold Cross at h this
   omega
theorem Zvz{s t:List Int}(hs:Tail s)(ht:Tail t)(is:InR s)(it:InR t)(h1:s≠[])(h2:t≠[])(h:Cross s t):Sep (trow s) (trow t):=Ztv _ (Up _) hs ht is it h1 h2 h
theorem Zxn{a b:Int}{r u:List Int}(hr:Tail r)(hu:Tail u)(ha : -(2 ^ 255)<a∧a<2 ^ 255 - 1)(hb : -(2 ^ 255)<b∧b<2 ^ 255 - 1)(ir:InR r)(iu:InR u)(h:Cross (a::r) (b::u)):Sep (frow (a::r)) (frow (b::u)):=by
 rcases Int.lt_trichotomy a b with c | c | c
 ·exact(Zsv c ha.1 hb.2).post _ _
 ·subst c
  have h':=cross_eq.mp h
  refine Sep.pre _ ?_
  match r,u,h',hr,hu,ir,iu with
  | r,[],h',hr,hu,ir,iu=>exact absurd h' (Zmx hr)
  | [],d::u,h',hr,hu,ir,iu=>exact⟨[],[],_,rfl,rfl⟩
  | c::r,d::u,h',hr,hu,ir,iu =>
   rw[Zen,Zen]
   exact Sep.pre [true] (Sep.turn (Zvz hu hr iu ir (Vd _ _) (Vd _ _) h'))
 ·have:=Zrd hu hr c
  unfold Cross at h this
  omega
end KM
end
section
namespace L2
open PySem PySem.W PySem.Spec PyProof.Rows
theorem Wn{K:Ua}{a:Addr}{xs:List V}{g:TG}{te:TE}{Q:VK}{H:Hp}{D:Addr}{σ0:St}(fe:Nat→V)(S:St→Prop)(hz:xs.length≤sizeLine)(h0:S σ0)(hD:H D=none)(hl:SqL K H a xs)
  (ht:∀ i x,xs[i]?=some x→∀ σ1 H1,S σ1→Same H H1→∀ R:St→V→Hp→Prop,(∀ σ2,S σ2→R σ2 (fe i) H1)→g x σ1 H1 fun σ2 H2=>te σ2 H2 fun y H3=>R σ2 y H3)
  (hq:Q (.ref D) (upd H D (.lst ((List.range xs.length).map fe)))) :
  CompGo (Itl K a) g tYes te Q σ0 H D:=by
 refine⟨fun i m σ1 H2=>i≤xs.length∧m=xs.length - i∧S σ1∧H2=upd H D (.lst ((List.range i).map fe)),⟨xs.length,UF _,rfl,h0,rfl⟩,?_⟩
 rintro i m σ1 H2 ⟨h1,rfl,h2,rfl⟩
 have hl2:=(Zq (o := .lst ((List.range i).map fe)) hD).seq hl
 rcases UZ i xs.length with z | z
 ·refine .inr ⟨⟨xs,xs[i],hl2,Ui z⟩,?_⟩
  rintro x H3 ⟨rfl,hx⟩
  have hx:=hx xs hl2
  refine ht i x hx σ1 _ h2 (Zq hD) (fun σ2 y H6=>∃ ys m',H6 D=some (.lst ys)∧ys.length<sizeLine∧m'<xs.length - i∧(i+1≤xs.length∧m'=xs.length - (i+1)∧S σ2∧upd H6 D (.lst (ys++[y]))=upd H D (.lst ((List.range (i+1)).map fe)))) fun σ2 q3=>?_
  refine⟨_,xs.length - (i+1),Zb,by rw[Uj,Vb];omega,by omega,by omega,rfl,q3,?_⟩
  rw[Xf,List.range_succ,UE];rfl
 ·have e:i=xs.length:=by omega
  subst e
  exact .inl ⟨⟨xs,hl2,Up _⟩,hq⟩
end L2
end
section
namespace L2
open PySem PySem.W PySem.Spec PyProof.Rows
end L2
end
section
namespace KM
open PySem L2
noncomputable def mp:List Int→List Bool
 | []=>[]
 | b::r=>true::(cnt (b - 1).toNat++mp r).map (!·)
end KM
end
section
namespace KM
open PySem L2
def Lt(a b:List Bool):Prop:=(rowS a).cps.toList<(rowS b).cps.toList
noncomputable instance (a b:List Bool):Decidable (Lt a b):=inferInstanceAs (Decidable (_<_))
theorem Zwy(y:Bool)(b:List Bool):Lt [] (y::b):=by
 unfold Lt;rw[Xy,Xy];exact List.nil_lt_cons _ _
theorem Ztm{x y:Bool}{a b:List Bool}:Lt (x::a) (y::b)↔(x=false∧y=true)∨(x=y∧Lt a b):=by
 unfold Lt
 rw[Xy,Xy,Xy,Xy,UP,UP,List.cons_lt_cons_iff]
 cases x<;>cases y<;>simp[bc]
theorem Xcj{a b c:List Bool}(h:Lt a b)(h2:Lt b c):Lt a c:=List.lt_trans h h2
theorem Zxd(a b:List Bool):Lt a b∨a=b∨Lt b a:=by
 induction a generalizing b with
 | nil=>cases b with
  | nil=>exact .inr (.inl rfl)
  | cons y b=>exact .inl (Zwy y b)
 | cons x a ih=>cases b with
  | nil=>exact .inr (.inr (Zwy x a))
  | cons y b =>
   rw[Ztm,Ztm]
   rcases ih b with h | h | h
   ·cases x<;>cases y<;>simp[h]
   ·subst h;cases x<;>cases y<;>simp
   ·cases x<;>cases y<;>simp[h]
noncomputable def com:List Bool→List Bool→Nat
 | x::a,y::b=>if x=y then com a b+1 else 0
 | _,_=>0
end KM
end
section
namespace L2
open PySem PySem.W PySem.Spec PyProof.Rows
section
variable {X:Cx}
noncomputable def rInsert:V→List V→Hp→VK→Prop:=fun x vs H Q=>∃ (l:Addr) (xs:List V) (i:Int) (k:Nat) (y:V),x = .ref l∧vs=[.int i,y]∧H l=some (.lst xs)∧i=((k:Nat):Int)∧k≤xs.length∧xs.length<100000∧Q .non (upd H l (.lst (xs.take k++y::xs.drop k)))
theorem Zuq:MtM X "list.insert" rInsert:=by
 intro pins s σ H x vs v us Q I rx rv h
 obtain⟨l,xs,i,k,y,rfl,rfl,hH,hik,hk,hz,q⟩:=h
 cases rx
 obtain⟨u1,u2,rfl,⟨t,rfl⟩,ru⟩:=vals2 rv
 obtain⟨z,its,n,r,hl,e⟩:=I.lstM hH
 have h5:(100000:Nat)≤sizeLine:=by decide
 have hfit:Builtin.List.listFitsIndex i=true:=fitsIndex_both (by omega) (by omega)
 have hc0:¬(!Builtin.List.listFitsIndex i)=true:=by rw[hfit];exact UI
 have hsz:its.toArray.size≤sizeLine:=by rw[Uu];omega
 refine call_meets F.slot_list_insert ⟨_,e,rfl⟩ F.entry_list_insert (F.args_list_insert_3 _ _ _) (@AutoListH.list_insert_list_int_val_1 l its.toArray n i t u2 hc0 hsz) ⟨e,?_⟩
 refine⟨.non,_,I.lset (its':=its.take k++u2::its.drop k) hH e ?_ ((r.take k).append (.cons ru (r.drop k))) ?_,rfl,q⟩
 ·show (have k':=if i<0 then (i+((its.toArray.size:Nat):Int)).toNat else min i.toNat its.toArray.size;(its.toArray.extract 0 k').push u2++its.toArray.extract k')=_
  have e1:(if i<0 then (i+((its.toArray.size:Nat):Int)).toNat else min i.toNat its.toArray.size)=k:=by
   rw[if_neg (by omega),Uu];omega
  simp only[e1]
  apply Array.ext'
  simp[List.extract]
  exact UV (by rw[Va];exact Up _)
 ·rw[Uo,Uq,US,Va]
  omega
end
end L2
end
section
namespace KM
open PySem L2
noncomputable def ent(a r:List Bool):List Bool:=cnt (com a r)++cnt (r.length - com a r)++r.drop (com a r)
noncomputable def ents:List Bool→List (List Bool)→List Bool
 | _,[]=>[]
 | a,r::rs=>ent a r++ents r rs
noncomputable def page(rs:List (List Bool)):List Bool:=cnt rs.length++ents [] rs
end KM
namespace KM
open PySem L2
noncomputable abbrev RL(rs:List (List Bool)):List V:=rs.map fun r=>V.str (rowS r)
theorem Zyk(rs:List (List Bool)):(RL rs).length=rs.length:=Uj ..
end KM
end
section
namespace L2
open PySem PySem.W PySem.Spec PyProof.Rows
section
variable {X:Cx}
theorem Xba(l:List Bool):PyData.strOk (KM.rowS l)=true:=by
 unfold PyData.strOk
 rw[← Array.all_toList,KM.Xy,List.all_map,Ve]
 intro b _
 cases b<;>decide
theorem Zmn:∀ ns:List (List Bool),PyData.canLayAll0 (ns.map fun r=>PyData.str (KM.rowS r))=true
 | []=>rfl
 | _::r=>by simp[PyData.canLayAll0,PyData.canLay0,Zmn r,Xba]
theorem Zqp:∀ ns:List (List Bool),PyData.depthAll (ns.map fun r=>PyData.str (KM.rowS r))=0
 | []=>rfl
 | _::r=>by simp[PyData.depthAll,PyData.depth,Zqp r]
theorem Zmm(ns:List (List Bool)):SeqAt.shaped (.list (ns.map fun r=>PyData.str (KM.rowS r)))=true:=by
 simp[SeqAt.shaped,PyData.canLay0,PyData.depth,Zmn,Zqp]
theorem Zkv:∀ ns ms:List (List Bool),PySem.Spec.sameAll (ns.map fun r=>PyData.str (KM.rowS r)) (ms.map fun r=>PyData.str (KM.rowS r))=decide (ns=ms)
 | [],[]=>by simp[PySem.Spec.sameAll]
 | [],_::_=>by simp[PySem.Spec.sameAll]
 | _::_,[]=>by simp[PySem.Spec.sameAll]
 | a::r,b::t=>by
  have e:(KM.rowS a=KM.rowS b)=(a=b):=propext ⟨KM.Zpu,fun h=>by rw[h]⟩
  simp only[UP,PySem.Spec.sameAll,PySem.Spec.same,Zkv r t]
  by_cases h:a=b<;>by_cases h':r=t<;>simp[h,h',e]
theorem Xac(ns ms:List (List Bool)):PySem.Spec.same (.list (ns.map fun r=>PyData.str (KM.rowS r))) (.list (ms.map fun r=>PyData.str (KM.rowS r)))=decide (ns=ms):=by
 simp only[PySem.Spec.same];exact Zkv ns ms
theorem Zfq:∀ {vs:List Value} {ns:List (List Bool)},Vals (KM.RL ns) vs→CarriedAll vs (ns.map fun r=>PyData.str (KM.rowS r))
 | [],[],_ => .nil
 | v::vs,b::ns,h=>by
  cases h with
  | cons a r =>
   obtain⟨t,rfl⟩:=(show ∃ t,v=Value.str (KM.rowS b) t from a)
   exact .cons (.str _ _) (Zfq r)
 | [],_::_,h=>by cases h
 | _::_,[],h=>by cases h
def rNeS:R2:=fun x y H Q=>∃ (l b:Addr) (xs zs:List (List Bool)),x = .ref l∧y = .ref b∧H l=some (.lst (KM.RL xs))∧H b=some (.lst (KM.RL zs))∧Q (.bl (!decide (xs=zs))) H
theorem Xbh(hu:X.A.units+64<cLine):OpR X (compareOp .NotEq) rNeS:=by
 intro pins s σ H x y v u Q I rx ry h
 obtain⟨l,b,xs,zs,rfl,rfl,h1,h2,q⟩:=h
 cases rx
 cases ry
 obtain⟨_,its,n,r,_,e⟩:=I.lstM h1
 obtain⟨_,its2,n2,r2,_,e2⟩:=I.lstM h2
 exact ne_dataH_same (reads_newData ⟨_,e,rfl,n,rfl⟩ (Zfq r)) (reads_newData ⟨_,e2,rfl,n2,rfl⟩ (Zfq r2)) (Zmm _) (Zmm _) hu (SeqAt.noMix_of_shape (.list .str) rfl _ _ (list_map_has fun _=>rfl) (list_map_has fun _=>rfl)) (by rw[Xac];exact⟨.bl _,H,I,rfl,q⟩)
noncomputable def oNeLS(hu:X.A.units+64<cLine):=OpR.or (oNe (X:=X)) (Xbh hu)
end
end L2
end
section
namespace L2
open PySem PySem.W PySem.Spec PyProof.Rows
section
variable {X:Cx}
end
end L2
end
section
namespace KM
open PySem L2
theorem Zui:∀ {l l':List Str},l.Perm l'→∀ {rs:List (List Bool)},l=rs.map rowS→∃ ss,l'=ss.map rowS∧rs.Perm ss:=by
 intro l l' h
 induction h with
 | nil=>intro rs e;exact⟨[],rfl,by cases rs with | nil=>exact .refl _ | cons a r=>cases e⟩
 | cons x _ ih =>
  intro rs e
  cases rs with
  | nil=>cases e
  | cons a r =>
   obtain⟨e1,e2⟩:=List.cons.inj e
   obtain⟨ss,h1,h2⟩:=ih e2
   exact⟨a::ss,by rw[h1,e1];rfl,.cons a h2⟩
 | swap x y l =>
  intro rs e
  match rs,e with
  | a::b::r,e =>
   obtain⟨e1,e2⟩:=List.cons.inj e
   obtain⟨e3,e4⟩:=List.cons.inj e2
   exact⟨b::a::r,by rw[e1,e3,e4];rfl,.swap b a r⟩
 | trans _ _ ih1 ih2 =>
  intro rs e
  obtain⟨ss,h1,h2⟩:=ih1 e
  obtain⟨ts,h3,h4⟩:=ih2 h1
  exact⟨ts,h3,h2.trans h4⟩
end KM
namespace L2
open PySem PySem.W PySem.Spec PyProof.Rows
section
variable {X:Cx}
theorem Zpj:∀ {vs:List Value} {rs:List (List Bool)},Vals (KM.RL rs) vs→StrsAre vs (rs.map KM.rowS)
 | [],[],_ => .nil
 | v::vs,b::ns,h=>by
  cases h with
  | cons a r =>
   obtain⟨t,rfl⟩:=(show ∃ t,v=Value.str (KM.rowS b) t from a)
   exact .cons _ _ (Zpj r)
 | [],_::_,h=>by cases h
 | _::_,[],h=>by cases h
theorem Zly:∀ {vs:List Value} {rs:List (List Bool)},StrsAre vs (rs.map KM.rowS)→Vals (KM.RL rs) vs
 | [],[],_ => .nil
 | v::vs,b::ns,h=>by
  cases h with
  | cons x t r=>exact .cons ⟨t,rfl⟩ (Zly r)
 | [],_::_,h=>by cases h
 | _::_,[],h=>by cases h
end
end L2
end
section
namespace KM
open PySem L2
end KM
end
section
namespace L2
open PySem PySem.W PySem.Spec PyProof.Rows
end L2
end
section
namespace KM
open PySem
end KM
end
section
namespace L2
open PySem PySem.Spec
section
variable {w:World} {es es':Array (Int×Value)} {t t':SetTable} {ks:List Str}
end
section
variable {prog:Program} {w:World} {A:Around} {E:Value→Shared→Prop} {s:Shared} {a:Addr} {es:Array (Int×Value)} {ep:Nat} {t:SetTable} {ks:List Str}
end
end L2
end
section
namespace L2
open PySem PySem.Spec
section
variable {prog:Program} {w:World} {A:Around} {E:Value→Shared→Prop} {s:Shared} {a:Addr} {es:Array (Int×Value)} {ep:Nat} {t:SetTable} {ks:List Str}
end
end L2
end
section
namespace L2
open PySem PySem.Spec
end L2
end
section
namespace L2
open PySem PySem.Spec
end L2
end
section
namespace L2
open PySem PySem.Spec
section
variable {prog:Program} {w:World} {A:Around} {E:Value→Shared→Prop} {s:Shared} {a I p:Addr} {es:Array (Int×Value)} {ep:Nat} {t:SetTable} {ks:List Str}
end
end L2
end
section
namespace L2
open PySem PySem.Spec PyProof.Rows
section
variable {prog:Program} {w:World} {A:Around} {E:Value→Shared→Prop} {s:Shared} {a:Addr} {es:Array (Int×Value)} {ep:Nat} {t:SetTable} {ks:List Str}
end
end L2
end
section
namespace L2
open PySem PySem.W PySem.Spec PyProof.Rows
theorem Zij{lo:Int}{n:Nat}{g:TG}{tc:TT}{te:TE}{Q:VK}{H:Hp}{D:Addr}{σ0:St}(keep:Nat→Bool)(f:Nat→V)(S:St→Prop)(hn:n≤100000)(h0:S σ0)(hD:H D=none)
  (ht:∀ i:Nat,i<n→∀ σ1 H1,S σ1→Same H H1→∀ (R:St→V→Hp→Prop) (R':St→Hp→Prop),(∀ σ2,S σ2→if keep i=true then R σ2 (f i) H1 else R' σ2 H1)→g (.int (lo+(i:Int))) σ1 H1 fun σ2 H2=>tc σ2 H2 fun b H3=>if b=true then te σ2 H3 fun y H4=>R σ2 y H4 else R' σ2 H3)
  (hq:Q (.ref D) (upd H D (.lst (((List.range n).filter keep).map f)))) :
  CompGo (Itr lo n) g tc te Q σ0 H D:=by
 refine⟨fun i m σ1 H2=>i≤n∧m=n - i∧S σ1∧H2=upd H D (.lst (((List.range i).filter keep).map f)),⟨n,UF _,rfl,h0,rfl⟩,?_⟩
 rintro i m σ1 H2 ⟨h1,rfl,h2,rfl⟩
 rcases UZ i n with z | z
 ·refine .inr ⟨z,?_⟩
  rintro x H3 ⟨rfl,rfl⟩
  refine ht i z σ1 _ h2 (Zq hD) (fun σ2 y H6=>∃ ys m',H6 D=some (.lst ys)∧ys.length<sizeLine∧m'<n - i∧(i+1≤n∧m'=n - (i+1)∧S σ2∧upd H6 D (.lst (ys++[y]))=upd H D (.lst (((List.range (i+1)).filter keep).map f))))
   (fun σ2 H5=>∃ m',m'<n - i∧(i+1≤n∧m'=n - (i+1)∧S σ2∧H5=upd H D (.lst (((List.range (i+1)).filter keep).map f)))) fun σ2 q3=>?_
  by_cases hk:keep i=true
  ·rw[if_pos hk]
   refine⟨_,n - (i+1),Zb,?_,by omega,by omega,rfl,q3,?_⟩
   ·rw[Uj]
    have:=List.length_filter_le keep (List.range i)
    rw[Vb] at this
    exact Nat.lt_of_le_of_lt this (UA (show i<100000 by omega) (by decide))
   ·rw[Xf,List.range_succ,List.filter_append,UE,List.filter_cons_of_pos hk];rfl
  ·rw[if_neg hk]
   refine⟨n - (i+1),by omega,by omega,rfl,q3,?_⟩
   rw[List.range_succ,List.filter_append,UE,List.filter_cons_of_neg hk];simp
 ·have e:i=n:=by omega
  subst e
  exact .inl ⟨Up _,hq⟩
end L2
end
section
namespace L2
open PySem PySem.W PySem.Spec PyProof.Rows
section
variable {X:Cx} {e el eh es:Expr} {te tl th ts:TE} {p2 pos:Pos}
end
end L2
end
section
namespace L2
open PySem PySem.W PySem.Spec PyProof.Rows
structure Mk0(K:Ua)(C:Addr):Prop where
 makes:PySem.W.makesIn K C=true
 init:PySem.W.findIn K (.ref C) "__init__"=some (some (.builtin "object.__init__"))
 kp:PySem.W.keepIn K (.ref C)=true
section
variable {X:Cx} {C:Addr} {x:Str} {p pos:Pos}
theorem Zuc{pins:List (Addr×Obj)}{σ:St}{H:Hp}{s:Shared}{Q:VK}(M:Mk0 X.K C)(I:Inv X pins σ H s)(h:∀ x dx,H x=none→H dx=none→dx≠x→Q (.ref x) (upd (upd H dx (.own x)) x (.ins C dx []))) :
  wpAny (model X.prog X.w) X.A (call (.ref C) []) (EP X pins σ Q) X.xe s:=by
 have hq:=h (s.heap.objs.size+1) s.heap.objs.size (I.hok.fresh (Nat.le_succ _)) (I.hok.fresh (Up _)) (UR (Nat.lt_succ_self _))
 have I2:=Inv.made (C:=C) I
 have Y:=makes_of (M:=model X.prog X.w) I.kIn M.makes
 refine wpAny_call (Zur I.kIn M.makes M.init (fun self=>Looks.of_pure (oi_bind self)) ?_)
 have e2:((s.heap.push PySem.W.emptyDict).push (PySem.W.instObj C s.heap.objs.size)).get? (s.heap.objs.size+1)=some (PySem.W.instObj C s.heap.objs.size):=by
  have:=UG (s.heap.push PySem.W.emptyDict) (o:=PySem.W.instObj C s.heap.objs.size) rfl
  rwa [Heap.size_push] at this
 have t1:Looks (model X.prog X.w) ((s.heap.push PySem.W.emptyDict).push (PySem.W.instObj C s.heap.objs.size)) (typeOf (.ref (s.heap.objs.size+1))) (.ref C):=(Looks.ld e2).andThen .now
 have t2:Looks (model X.prog X.w) ((s.heap.push PySem.W.emptyDict).push (PySem.W.instObj C s.heap.objs.size)) (isInstance (.ref (s.heap.objs.size+1)) (.type "object")) true:=t1.andThen (Y.top.keeps fun b o e=>Us _ (Us _ e))
 obtain⟨hh,g,d,t,os⟩:=s
 refine codeAny_call_builtin oi_plain entry_oi (@check_slot (model X.prog X.w) _ _ _ "object.__init__" "object" "__init__" (.ref (hh.objs.size+1)) [] [] _ oi_kind oi_split t2 (oi_args (.ref (hh.objs.size+1))) ?_)
 rw[oi_run]
 exact wpAny_pure (And.intro rfl ⟨V.ref (hh.objs.size+1),_,I2,rfl,hq⟩)
def tMake0(C:Addr):TE:=fun _ H Q=>∀ x dx,H x=none→H dx=none→dx≠x→Q (.ref x) (upd (upd H dx (.own x)) x (.ins C dx []))
theorem Zel(M:Mk0 X.K C)(hg:Gl X x)(hm:X.mg x=some (.ref C))(hdb:(x == ("__debug__":Str))=false:=by decide):PE X (.Call (.Name x p) [] [] pos) (tMake0 C):=by
 intro pins s σ H Q I h
 refine wpAny_Call_Name_kw (Zjf I hg hm ?_ hdb)
 exact PySem.W.callWith_K0 I.kIn M.kp (Zuc M I h)
theorem Xal(a b:Str)(t u:Tok):MeetsSeq.EqGives (.str a t) (.str b u) (decide (a=b)):=by
 intro prog w A Q E s h
 exact wpAny_eqBool_str h
end
end L2
end
section
namespace L2
open PySem PySem.Spec PyProof.Rows
end L2
end
section
namespace L2
open PySem PySem.Spec
noncomputable def metT(val:Nat→Str):Nat→List Str
 | 0=>[]
 | i+1=>if val i∈metT val i then metT val i else metT val i++[val i]
theorem Zgn(val:Nat→Str):∀ i,(metT val i).length≤i
 | 0=>Up _
 | i+1=>by
  have ih:=Zgn val i
  unfold metT
  split
  ·omega
  ·rw[Uo,UQ];omega
theorem metT_mem(val:Nat→Str)(i:Nat)(k:Str):(decide (k∈metT val i)||decide (k=val i))=decide (k∈metT val (i+1)):=by
 conv=>rhs;unfold metT
 by_cases h:val i∈metT val i
 ·rw[if_pos h]
  by_cases e:k=val i
  ·subst e;simp[h]
  ·simp[e]
 ·rw[if_neg h]
  by_cases e:k=val i<;>simp[e]
theorem Zxa(val:Nat→Str)(i:Nat):(if decide (val i∈metT val i)=true then (metT val i).length else (metT val i).length+1)=(metT val (i+1)).length:=by
 conv=>rhs;unfold metT
 by_cases h:val i∈metT val i
 ·rw[if_pos h,if_pos (Ut h)]
 ·rw[if_neg h,if_neg (by simpa using h),Uo];rfl
section
variable {prog:Program} {w:World} {A:Around} {R:Result→Shared→Prop} {I:Addr} {fp wr:List Addr} {G:Array GenState→Array GenState→Prop} {n:Nat} {Pv:Nat→Value→Prop} {St:Nat→Shared→Prop}
abbrev TxtSet(prog:Program)(w:World)(h:Heap)(S:Addr)(val:Nat→Str)(i:Nat):Prop:=h.SetOf (PySem.strKind prog w) S (fun k=>decide (k∈metT val i)) (metT val i).length
theorem TxtSet.keep{h h':Heap}{S:Addr}{val:Nat→Str}{i:Nat}(t:TxtSet prog w h S val i)(k:∀ o,h.get? S=some o→h'.get? S=some o):TxtSet prog w h' S val i:=by
 obtain⟨o,es,ep,tb,ho,rest⟩:=t
 exact⟨o,es,ep,tb,k o ho,rest⟩
theorem Zma(W:WalksS prog w A.in1 I fp wr G n Pv St)(S:Addr)(hSf:S∉fp)(val:Nat→Str)(hval:∀ i v,Pv i v→∃ t,v = .str (val i) t)(hb:n+1<scanBound) :
  ∀ (m i:Nat) (s:Shared),n - i=m→i≤n→St i s→TxtSet prog w s.heap S val i→(∀ s',Moved (S::wr) G s s'→TxtSet prog w s'.heap S val n→R (.ok (.ret .none)) s')→
   codeAny (model prog w) A (.builtin "set.update.loop" ⟨[.ref S,.ref I],[]⟩) R s:=by
 have hSw:S∉wr:=fun h=>hSf (W.sub _ h)
 have up:∀ b∈wr,b∈S::wr:=fun b h=>Ul _ h
 intro m
 induction m with
 | zero =>
  intro i s hm hi st hT hR
  obtain rfl:i=n:=by omega
  refine codeAny_builtin PyProof.Rows.F.entry_set_update_loop ?_
  rw[Around.under_plainId PyProof.Rows.F.plain_set_update_loop _]
  refine wpAny_bind (m:=pyNext (.ref I)) (W.done s _ _ st fun s' mv=>?_)
  exact wpAny_pure (hR s' (mv.mono up) (hT.keep fun o e=>mv.heap S _ hSw e))
 | succ m ih =>
  intro i s hm hi st hT hR
  have hlt:i<n:=by omega
  refine codeAny_builtin PyProof.Rows.F.entry_set_update_loop ?_
  rw[Around.under_plainId PyProof.Rows.F.plain_set_update_loop _]
  refine wpAny_bind (m:=pyNext (.ref I)) (W.item i s _ _ hlt st fun v s' hP st' mv=>?_)
  obtain⟨t,rfl⟩:=hval i v hP
  have hT':TxtSet prog w s'.heap S val i:=hT.keep fun o e=>mv.heap S _ hSw e
  have his:(PySem.strKind prog w).is (val i) (.str (val i) t)=true:=by simp[PySem.strKind,Value.isStrOf]
  refine wpAny_bind (m:=holding [Value.str (val i) t] (setAdd S (.str (val i) t))) (wpAny_holding ?_)
  unfold setAdd
  refine wpAny_holding (wpAny_bind ((PySem.strKind prog w).pyHash (k:=val i) his ?_))
  have room:(metT val i).length+1<scanBound:=by have:=Zgn val i;omega
  refine wpAny_setAddHashed_of (knd:=PySem.strKind prog w) (s:={s' with toks:=s'.toks+1}) his rfl hT' room fun h' sb hS2=>?_
  have hT2:TxtSet prog w h' S val (i+1):=PyProof.Rows.SetOf_congr hS2 (fun k=>metT_mem val i k) (Zxa val i)
  refine wpAny_pure ⟨plainId_quiet PyProof.Rows.F.plain_set_update_loop _,ih (i+1) _ (by omega) hlt (W.frame _ s' _ _ st' (Nat.le_succ _) fun b hbf o e=>?_) hT2 fun s'' mv' hT3=>?_⟩
  ·rw[sb.2 b fun z:b=S=>hSf (z ▸ hbf)];exact e
  ·refine hR s'' (Moved.trans W.gtrans ((mv.mono up).then_heap (Nat.le_succ _) fun b o hbn e=>?_) mv') hT3
   rw[sb.2 b fun z:b=S=>hbn (by rw[z];exact Ux)];exact e
end
end L2
end
section
namespace L2
open PySem PySem.Spec
section
variable {prog:Program} {w:World} {A:Around} {E:Value→Shared→Prop} {s:Shared}
noncomputable abbrev noSet(led:Bool):Obj:={cls := .type "set",dict:=none,data := .set #[] 0 (.fresh 0 0 led)}
abbrev setDone(prog:Program)(w:World)(s:Shared)(val:Nat→Str)(n:Nat)(r:Value)(s₂:Shared):Prop:=r = .none∧∃ h' tk,s₂={s with heap:=h',toks:=tk}∧TxtSet prog w h' s.heap.objs.size val n∧∀ b o,b<s.heap.objs.size→s.heap.get? b=some o→h'.get? b=some o
def InitDone(prog:Program)(w:World)(A:Around)(E:Value→Shared→Prop)(s:Shared)(x:Value)(val:Nat→Str)(n:Nat)(led:Bool):Prop :=
 wpAny (model prog w) A.in1.in1 (Builtin.«set.__init__» ⟨[.ref s.heap.objs.size,x],[]⟩) (fun fin s'=>match fin with
   | Fin.done f=>wants (setDone prog w s val n) E (Except.ok f) s'
   | Fin.again c'=>c'.quiet=true∧codeAny (model prog w) A.in1 c' (wants (setDone prog w s val n) E) s')
  (fun e s'=>wants (setDone prog w s val n) E (Except.error e) s') {s with heap:=s.heap.push (noSet led)}
set_option maxHeartbeats 3200000 in
theorem Zik{x:Value}{val:Nat→Str}{n:Nat}{Q:Value→Shared→Prop}
  (hin:∀ led:Bool,InitDone prog w A E s x val n led)
  (h:∀ h' tk,TxtSet prog w h' s.heap.objs.size val n→(∀ b o,b<s.heap.objs.size→s.heap.get? b=some o→h'.get? b=some o)→Q (.ref s.heap.objs.size) {s with heap:=h',toks:=tk}) :
  wpAny (model prog w) A (call (.type "set") [x]) Q E s:=by
 obtain⟨c,tl,hmro⟩:=F.called_set.mro
 have hmade:=F.called_set.made
 have hsub:=F.called_set.sub
 refine wpAny_call (codeAny_of_tree ?_)
 show wpAny _ _ (callAny (.type "set") _) _ _ _
 refine wpAny_pure ⟨Code.quiet_builtin _ (by decide +kernel),codeAny_builtin F.entry_type_call ?_⟩
 rw[Around.under_plain (weight_type_call_type "set" [x] []) rfl]
 have h1:=F.called_set.notType
 have h2:=F.called_set.canCreate
 have hct:=F.typeCall_set_1 x
 repeat (any_goals (first | assumption | wp_step))
 refine codeAny_mono (PySem.code_set_new_1 x (E:=E) (Q₁:=fun obj s₁=>∃ led:Bool,obj = .ref s.heap.objs.size∧s₁={s with heap:=s.heap.push (noSet led)}) fun led=>⟨led,rfl,rfl⟩) fun r s₁ hr=>?_
 cases r with
 | error e=>exact hr
 | ok fl =>
  cases fl with
  | ret obj =>
   obtain⟨led,rfl,rfl⟩:=hr
   have hS:(s.heap.push (noSet led)).get? s.heap.objs.size=some (noSet led):=UG _ rfl
   have hT:Shared.TypeIs {s with heap:=s.heap.push (noSet led)} (.ref s.heap.objs.size) "set":=⟨_,hS,rfl⟩
   have hli:=F.called_set.init.lookup
   have hbi:=F.called_set.init.bind (.ref s.heap.objs.size)
   repeat (any_goals (first | assumption | wp_step))
   refine codeAny_mono (codeAny_call_builtin (R:=wants (setDone prog w s val n) E) F.called_set.init.plain F.entry_set_init (PySem.check_set_init_1 hT ?_)) fun r₂ s₂ hr₂=>?_
   ·exact hin led
   ·cases r₂ with
    | error e=>exact hr₂
    | ok fl₂ =>
     cases fl₂ with
     | ret r =>
      obtain⟨rfl,h',tk,rfl,hS',hk'⟩:=hr₂
      repeat (any_goals (first | assumption | wp_step))
      exact h _ _ hS' hk'
     | _=>exact hr₂.elim
  | _=>exact hr.elim
set_option maxHeartbeats 3200000 in
theorem Zuw{l:Addr}{items:Array Value}{val:Nat→Str}(hh:A.handled=none)(hl:s.heap.IsList l items)(hv:∀ (i:Nat) (v:Value),items[i]?=some v→∃ t,v = .str (val i) t)(hb:items.size+1<scanBound)(led:Bool):InitDone prog w A E s (.ref l) val items.size led:=by
 unfold InitDone
 obtain⟨ol,hol,hcl,nl,hdl⟩:=hl
 obtain⟨ocls,odict,odata,oslots⟩:=ol
 simp only at hcl hdl
 subst hcl;subst hdl
 have hS:(s.heap.push (noSet led)).get? s.heap.objs.size=some (noSet led):=UG _ rfl
 have hol':(s.heap.push (noSet led)).get? l=some {cls := .type "list",dict:=odict,data := .seq items nl,slots:=oslots}:=Us _ hol
 have hsls:=F.sub_list_set
 have hslf:=F.sub_list_frozenset
 have hne:(Value.type "list" == Value.type "dict")=false:=by decide
 have hl1:(s.heap.push (noSet led)).IsList l items:=⟨_,hol',rfl,nl,rfl⟩
 unfold Builtin.«set.__init__» noKeywords Builtin.Frozenset.updateFrom
 generalize hPI:pyIter=PI
 wp_walk
 subst hPI
 refine wpAny_pyIter_list hl1 ?_
 refine wpAny_bind (wpAny_runValue ?_)
 have hlS:l<s.heap.objs.size:=UL hol
 have hh3:A.in1.in1.in1.handled=none:=by simp[hh]
 have hsz:(s.heap.push (noSet led)).objs.size=s.heap.objs.size+1:=Heap.size_push ..
 have hne2:l≠(s.heap.push (noSet led)).objs.size:=by rw[hsz];exact UR (Nat.lt_succ_of_lt hlS)
 have hSf:s.heap.objs.size∉[(s.heap.push (noSet led)).objs.size,l]:=fun z=>by
  rw[hsz] at z
  rcases Um.mp z with y | y
  ·exact absurd y (UR (Nat.lt_succ_self _))
  ·exact absurd (UD.mp y) (Nat.ne_of_gt hlS)
 refine Zma ((Walks.list hh3 _ l hne2 items).toS) s.heap.objs.size hSf val hv hb items.size 0 _ (by omega) (UF _) ⟨⟨_,UG _ rfl,rfl,rfl⟩,hl1.push _⟩ ?_ ?_
 ·exact PyProof.Rows.SetOf_congr ((PyProof.Rows.setObjOf_fresh (knd:=PySem.strKind prog w) led).setOf (Us _ hS) (by unfold scanBound;omega)) (fun _=>rfl) rfl
 ·intro s' hm hS'
  obtain⟨h',g',d',tk',os'⟩:=s'
  have eg:g'=s.gens:=hm.gens
  have ed:d'=s.drawn:=hm.drawn
  have eo:os'=s.os:=hm.os
  subst eg;subst ed;subst eo
  refine wpAny_pure ?_
  refine wpAny_pure (a:=Fin.done (Flow.ret Value.none)) ⟨rfl,h',tk',rfl,hS',fun b o hbl e=>?_⟩
  refine hm.heap b o (fun z=>?_) (Us _ (Us _ e))
  rcases Um.mp z with y | y
  ·exact absurd y (UR hbl)
  ·rcases Um.mp y with y | y
   ·rw[hsz] at y;exact absurd y (UR (Nat.lt_succ_of_lt hbl))
   ·cases y
end
end L2
end
section
namespace L2
open PySem PySem.Spec
section
variable {prog:Program} {w:World} {A:Around} {E:Value→Shared→Prop} {s:Shared}
noncomputable def signsOf(x:Str)(i:Nat):Str:=⟨#[x.cps.getD i 0]⟩
set_option maxHeartbeats 3200000 in
theorem Zuv{x:Str}{t:Tok}(hh:A.handled=none)(hb:x.cps.size+1<scanBound)(led:Bool):InitDone prog w A E s (.str x t) (signsOf x) x.cps.size led:=by
 unfold InitDone
 have hS:(s.heap.push (noSet led)).get? s.heap.objs.size=some (noSet led):=UG _ rfl
 have hsls:=F.sub_str_set
 have hslf:=F.sub_str_frozenset
 have hne:(Value.type "str" == Value.type "dict")=false:=by decide
 unfold Builtin.«set.__init__» noKeywords Builtin.Frozenset.updateFrom
 generalize hPI:pyIter=PI
 wp_walk
 subst hPI
 have hsz:(s.heap.push (noSet led)).objs.size=s.heap.objs.size+1:=Heap.size_push ..
 refine wpAny_pyIter_str (s:={s with heap:=s.heap.push (noSet led)}) fun o St W st0=>?_
 refine wpAny_bind (wpAny_runValue ?_)
 have hh3:A.in1.in1.in1.handled=none:=by simp[hh]
 have hSf:s.heap.objs.size∉[(s.heap.push (noSet led)).objs.size]:=fun z=>by
  rw[hsz] at z
  exact absurd (UD.mp z) (UR (Nat.lt_succ_self _))
 refine Zma ((W _ hh3).toS) s.heap.objs.size hSf (signsOf x) (fun i v hv=>?_) hb x.cps.size 0 _ (by omega) (UF _) st0 ?_ ?_
 ·obtain⟨c,u,hc,rfl⟩:=hv
  refine⟨u,?_⟩
  unfold signsOf
  rw[Array.getD_eq_getD_getElem?,hc];rfl
 ·exact PyProof.Rows.SetOf_congr ((PyProof.Rows.setObjOf_fresh (knd:=PySem.strKind prog w) led).setOf (Us _ hS) (by unfold scanBound;omega)) (fun _=>rfl) rfl
 ·intro s' hm hS'
  obtain⟨h',g',d',tk',os'⟩:=s'
  have eg:g'=s.gens:=hm.gens
  have ed:d'=s.drawn:=hm.drawn
  have eo:os'=s.os:=hm.os
  subst eg;subst ed;subst eo
  refine wpAny_pure ?_
  refine wpAny_pure (a:=Fin.done (Flow.ret Value.none)) ⟨rfl,h',tk',rfl,hS',fun b o' hbl e=>?_⟩
  refine hm.heap b o' (fun z=>?_) (Us _ (Us _ e))
  rcases Um.mp z with y | y
  ·exact absurd y (UR hbl)
  ·have y:=UD.mp y
   rw[hsz] at y;exact absurd y (UR (Nat.lt_succ_of_lt hbl))
theorem Zsf{S:Addr}{val:Nat→Str}{i:Nat}{Q:Value→Shared→Prop}(hT:TxtSet prog w s.heap S val i)(h:Q (.int ((metT val i).length:Nat) (s.toks+1)) {s with toks:=s.toks+1+1}):wpAny (model prog w) A (call (.builtin "len") [.ref S]) Q E s:=by
 obtain⟨o,es,ep,t,ho,hex,hd,_,_,hb,hf,hn⟩:=hT
 refine call_len_set ho hex hd hf (by unfold scanBound at hb;omega) ?_
 rw[hn];exact h
end
section
variable {X:Cx} {pos p p2 pos2:Pos} {e:Expr} {te:TE}
def TextsOf(K:Ua)(H:Hp)(x:V)(val:Nat→Str)(n:Nat):Prop:=(∃ a,x = .ref a∧SqL K H a ((List.range n).map fun i=>V.str (val i)))∨(∃ z,x = .str z∧n=z.cps.size∧val=signsOf z)
def tLenSet(K:Ua)(te:TE):TE:=fun σ H Q=>te σ H fun x H1=>∃ val n,TextsOf K H1 x val n∧n+1<scanBound∧Q (.int ((metT val n).length:Nat)) H1
theorem Zmh(hcm:X.calm=true)(hgl:Gl X "len")(hml:X.mg "len"=none)(hgs:Gl X "set")(hms:X.mg "set"=none)(he:PE X e te)
  (hs1:starEach [.Call (.Name "set" p2) [e] [] pos2] X.env=[(false,eval (.Call (.Name "set" p2) [e] [] pos2) X.env)]:=by rfl) (hs2:starEach [e] X.env=[(false,eval e X.env)]:=by rfl) :
  PE X (.Call (.Name "len" p) [.Call (.Name "set" p2) [e] [] pos2] [] pos) (tLenSet X.K te):=by
 intro pins s σ H Q I h
 refine wpAny_Call_Name_kw (Zbu I hgl hml Xg ?_ (by decide) (by decide))
 refine PyProof.Rows.callWith_builtin1 ?_ (hs1.trans rfl) rfl
 rw[hs1]
 show wpAny _ _ (spliced ((false,eval (.Call (.Name "set" p2) [e] [] pos2) X.env)::[])) _ _ s
 refine Calls.spliced_cons (wpAny_Call_Name_kw (Zbu I hgs hms (by decide +kernel:bootBuiltins "set"=some (.type "set")) ?_ (by decide) (by decide)))
 refine PyProof.Rows.callWith_type1 ?_ (hs2.trans rfl) rfl
 rw[hs2]
 show wpAny _ _ (spliced ((false,eval e X.env)::[])) _ _ s
 refine Calls.spliced_cons (thn (he pins s σ H _ I h) fun u s1 zq=>?_)
 obtain⟨x,H1,I1,r1,val,n,hx,hb,q⟩:=zq
 refine Calls.spliced_nil ?_
 have fin:∀ (h':Heap) (tk:Nat),TxtSet X.prog X.w h' s1.heap.objs.size val n→(∀ b o,b<s1.heap.objs.size→s1.heap.get? b=some o→h'.get? b=some o)→wpAny (model X.prog X.w) X.A (spliced []) (fun vs s₁=>wpAny (model X.prog X.w) X.A (call (.builtin "len") (.ref s1.heap.objs.size::vs)) (EP X pins σ Q) X.xe s₁) X.xe {s1 with heap:=h',toks:=tk}:=fun h' tk hT hk=>by
  refine Calls.spliced_nil (Zsf (s:={s1 with heap:=h',toks:=tk}) hT ?_)
  exact⟨.int _,H1,I1.kept (h':=h') (t':=tk+1+1) fun b o eb=>hk b o (UL eb) eb,⟨_,rfl⟩,q⟩
 rcases hx with⟨a,rfl,hq⟩ | ⟨z,rfl,rfl,rfl⟩
 ·obtain rfl:u=Value.ref a:=r1
  obtain⟨its,rv,pl,hz⟩:=I1.list hq
  have hlen:=rv.length
  rw[Uj,Vb] at hlen
  have hsz:its.toArray.size=n:=by rw[Uu];omega
  refine Zik (fun led=>?_) fin
  have hi:=Zuw (prog:=X.prog) (w:=X.w) (E:=X.xe) (val:=val) (I1.ok.hd hcm) pl.isList (fun i v hv=>?_) (by rw[hsz];exact hb) led
  ·rw[hsz] at hi;exact hi
  ·have hv':its[i]?=some v:=by simpa using hv
   have hil:i<n:=by rw[hlen];exact(Uw.mp hv').1
   obtain⟨u,hu,ru⟩:=rv.get (i:=i) (x := .str (val i)) (by rw[Ur,List.getElem?_range hil];rfl)
   rw[hv'] at hu;cases hu
   exact ru
 ·obtain⟨t,rfl⟩:=r1
  exact Zik (fun led=>Zuv (I1.ok.hd hcm) hb led) fin
end
end L2
end
section
namespace L2
open PySem PySem.W PySem.Spec PyProof.Rows
theorem Zvo{x:Str}{g:TG}{tc:TT}{te:TE}{Q:VK}{H:Hp}{D:Addr}{σ0:St}(keep:Nat→Bool)(f:Nat→V)(S:St→Prop)(hz:x.cps.size≤sizeLine)(h0:S σ0)(hD:H D=none)
  (ht:∀ c,c∈x.cps.toList→∀ σ1 H1,S σ1→Same H H1→∀ (R:St→V→Hp→Prop) (R':St→Hp→Prop),(∀ σ2,S σ2→if keep c=true then R σ2 (f c) H1 else R' σ2 H1)→g (.str ⟨#[c]⟩) σ1 H1 fun σ2 H2=>tc σ2 H2 fun b H3=>if b=true then te σ2 H3 fun y H4=>R σ2 y H4 else R' σ2 H3)
  (hq:Q (.ref D) (upd H D (.lst ((x.cps.toList.filter keep).map f)))) :
  CompGo (Its x) g tc te Q σ0 H D:=by
 have hn:x.cps.toList.length=x.cps.size:=UM
 refine⟨fun i m σ1 H2=>i≤x.cps.size∧m=x.cps.size - i∧S σ1∧H2=upd H D (.lst (((x.cps.toList.take i).filter keep).map f)),⟨x.cps.size,UF _,rfl,h0,rfl⟩,?_⟩
 rintro i m σ1 H2 ⟨h1,rfl,h2,rfl⟩
 rcases UZ i x.cps.size with z | z
 ·refine .inr ⟨z,?_⟩
  rintro y H3 ⟨rfl,c,hc,rfl⟩
  have hc':x.cps.toList[i]?=some c:=by rw[Array.getElem?_toList];exact hc
  refine ht c (Uv hc') σ1 _ h2 (Zq hD) (fun σ2 y H6=>∃ ys m',H6 D=some (.lst ys)∧ys.length<sizeLine∧m'<x.cps.size - i∧(i+1≤x.cps.size∧m'=x.cps.size - (i+1)∧S σ2∧upd H6 D (.lst (ys++[y]))=upd H D (.lst (((x.cps.toList.take (i+1)).filter keep).map f))))
   (fun σ2 H5=>∃ m',m'<x.cps.size - i∧(i+1≤x.cps.size∧m'=x.cps.size - (i+1)∧S σ2∧H5=upd H D (.lst (((x.cps.toList.take (i+1)).filter keep).map f)))) fun σ2 q3=>?_
  have et:x.cps.toList.take (i+1)=x.cps.toList.take i++[c]:=by rw[UX,hc'];rfl
  by_cases hk:keep c=true
  ·rw[if_pos hk]
   refine⟨_,x.cps.size - (i+1),Zb,?_,by omega,by omega,rfl,q3,?_⟩
   ·rw[Uj]
    have:=List.length_filter_le keep (x.cps.toList.take i)
    rw[US] at this;omega
   ·rw[Xf,et,List.filter_append,UE,List.filter_cons_of_pos hk];rfl
  ·rw[if_neg hk]
   refine⟨x.cps.size - (i+1),by omega,by omega,rfl,q3,?_⟩
   rw[et,List.filter_append,UE,List.filter_cons_of_neg hk];simp
 ·have e:i=x.cps.size:=by omega
  subst e
  rw[UV (by omega)]
  exact .inl ⟨Up _,hq⟩
theorem Zgx{x:Str}{g:TG}{te:TE}{Q:VK}{H:Hp}{D:Addr}{σ0:St}(f:Nat→V)(S:St→Prop)(hz:x.cps.size≤sizeLine)(h0:S σ0)(hD:H D=none)
  (ht:∀ c,c∈x.cps.toList→∀ σ1 H1,S σ1→Same H H1→∀ R:St→V→Hp→Prop,(∀ σ2,S σ2→R σ2 (f c) H1)→g (.str ⟨#[c]⟩) σ1 H1 fun σ2 H2=>te σ2 H2 fun y H4=>R σ2 y H4)
  (hq:Q (.ref D) (upd H D (.lst (x.cps.toList.map f)))) :
  CompGo (Its x) g tYes te Q σ0 H D:=by
 refine Zvo (fun _=>true) f S hz h0 hD (fun c hc σ1 H1 hS hs R R' hR=>?_) (by rw[List.filter_eq_self.mpr fun _ _=>rfl];exact hq)
 exact ht c hc σ1 H1 hS hs R fun σ2 h2=>by have:=hR σ2 h2;rwa [if_pos rfl] at this
structure Ext(H H':Hp):Prop where
 s:Same H H'
 c:Closed H→Closed H'
theorem Ext.trans{A B C:Hp}(a:Ext A B)(b:Ext B C):Ext A C:=⟨a.s.trans b.s,fun z=>b.c (a.c z)⟩
theorem Ext.new{H:Hp}{p:Addr}{o:HO}(h:H p=none)(ho:OwnIn (upd H p o) p o):Ext H (upd H p o):=⟨Zq h,fun c=>Qa c h ho⟩
theorem Ext.lst{H:Hp}{p:Addr}{xs:List V}(h:H p=none):Ext H (upd H p (.lst xs)) := .new h trivial
theorem Ext.tup{H:Hp}{p:Addr}{xs:List V}(h:H p=none):Ext H (upd H p (.tup xs)) := .new h trivial
theorem Ext.made{H:Hp}{x dx C:Addr}{fs:List (Str×V)}(h1:H x=none)(h2:H dx=none)(h3:dx≠x):Ext H (upd (upd H dx (.own x)) x (.ins C dx fs)):=by
 have hx:upd H dx (.own x) x=none:=by rw[Zn (Uh h3)];exact h1
 refine⟨(Zq h2).trans (Zq hx),fun c=>Qa (Qa c h2 trivial) hx ?_⟩
 show upd (upd H dx (.own x)) x (.ins C dx fs) dx=some (.own x)
 rw[Zn h3];exact Zb
theorem Ext.sub{H H':Hp}(e:Ext H H'):Sub H H' H' := .all (fun b o h=>⟨o,e.s b o h⟩) e.c
theorem Zer(x y:Str):(x++y).cps.toList=x.cps.toList++y.cps.toList:=Array.toList_append
theorem Qr(x y:Str):(x++y).length=x.length+y.length:=Array.size_append
structure Tx(n:Nat)(S:List Nat)(x:Str):Prop where
 n:x.length≤n
 s:∀ c,c∈x.cps.toList→c∈S
theorem Tx.app{n m:Nat}{S:List Nat}{x y:Str}(h:Tx n S x)(h':Tx m S y):Tx (n+m) S (x++y):=⟨by rw[Qr];have:=h.n;have:=h'.n;omega,fun c hc=>by
 rw[Zer] at hc
 exact(List.mem_append.mp hc).elim (h.s c) (h'.s c)⟩
theorem Tx.one{S:List Nat}{c:Nat}(h:c∈S):Tx 1 S ⟨#[c]⟩:=⟨Up _,fun d hd=>by rw[UD.mp hd];exact h⟩
theorem Tx.slice{n:Nat}{S:List Nat}{x:Str}(h:Tx n S x)(lo hi:Option Int):Tx n S (Txt.slice x lo hi):=by
 have e:=KM.Zby x lo hi
 refine⟨?_,fun c hc=>h.s c ?_⟩
 ·have e2:=congrArg List.length e
  rw[US,Va] at e2
  have e3:(Txt.slice x lo hi).cps.toList.length=(Txt.slice x lo hi).length:=UM
  have e4:x.cps.toList.length=x.length:=UM
  have:=h.n
  omega
 ·rw[e] at hc
  exact List.mem_of_mem_drop (List.mem_of_mem_take hc)
theorem Zfv(x:Str)(k:Nat)(h:k≤x.length):(Txt.slice x none (some (k:Int))).length=k:=by
 have e2:=congrArg List.length (KM.Zby x none (some (k:Int)))
 rw[HT.sIx_nat,HT.sIx_none,List.drop_zero,US] at e2
 have e3:(Txt.slice x none (some (k:Int))).cps.toList.length=(Txt.slice x none (some (k:Int))).length:=UM
 have e4:x.cps.toList.length=x.length:=UM
 omega
theorem Zdh(x:Str)(k:Nat)(h:k≤x.length):(Txt.slice x (some (k:Int)) none).length=x.length - k:=by
 have e2:=congrArg List.length (KM.Zby x (some (k:Int)) none)
 rw[HT.sIx_nat,HT.sIx_none,US,Va] at e2
 have e3:(Txt.slice x (some (k:Int)) none).cps.toList.length=(Txt.slice x (some (k:Int)) none).length:=UM
 have e4:x.cps.toList.length=x.length:=UM
 omega
theorem Xat{x:Str}{k:Nat}(h:k<x.length):∃ c,c∈x.cps.toList∧atI x.cps.toList ((k:Nat):Int)=some c:=by
 have h':k<x.cps.toList.length:=by rw[UM];exact h
 exact⟨x.cps.toList[k],List.getElem_mem h',Zx (Ui h')⟩
noncomputable def dsN(ns:List Str):Nat:=(metT (fun i=>ns.getD i Str.empty) ns.length).length
noncomputable def dsT(s:Str):Nat:=(metT (signsOf s) s.cps.size).length
theorem Xbx(ns:List Str):dsN ns≤ns.length:=Zgn ..
theorem Xbw(s:Str):dsT s≤s.length:=Zgn ..
theorem Zie(ns:List Str):((List.range ns.length).map fun i=>V.str (ns.getD i Str.empty))=ns.map V.str:=by
 apply List.ext_getElem
 ·rw[Uj,Vb,Uj]
 ·intro i h1 h2
  rw[Uj] at h2
  rw[Vc,Vc,List.getElem_range,Uk,Ui h2];rfl
theorem Zpi{K:Ua}{H:Hp}{a:Addr}{ns:List Str}(h:SqL K H a (ns.map V.str)):TextsOf K H (.ref a) (fun i=>ns.getD i Str.empty) ns.length := .inl ⟨a,rfl,by rw[Zie];exact h⟩
theorem Zrm{K:Ua}{H:Hp}(s:Str):TextsOf K H (.str s) (signsOf s) s.cps.size := .inr ⟨s,rfl,rfl,rfl⟩
noncomputable def L26:Str:="abcdefghijklmnopqrstuvwxyz"
noncomputable def L62:Str:="abcdefghijklmnopqrstuvwxyzABCDEFGHIJKLMNOPQRSTUVWXYZ0123456789"
noncomputable def madeOf(t s:Str):Bool:=t.cps.toList.all fun c=>decide (c∈s.cps.toList)
theorem Xav:L62.length=62:=by decide +kernel
theorem Zpc:L26.length=26:=by decide +kernel
noncomputable def goodText(s:Str):Bool:=decide (s.length≠0∧s.length≤60∧dsT s=s.length)&&madeOf s L62
noncomputable def isName(n:Str):Bool:=decide (0<n.length∧n.length≤12)&&madeOf n L26
noncomputable def goodNames(ns:List Str):Bool:=decide (ns.length≠0∧ns.length≤20∧dsN ns=ns.length)&&ns.all isName
theorem Zyv(s:Str):s=Str.ofString ""↔s.length=0:=by
 have e:Str.ofString ""=⟨#[]⟩:=by decide +kernel
 rw[e]
 constructor
 ·rintro rfl;rfl
 ·intro h
  obtain⟨c⟩:=s
  have:c=#[]:=Array.eq_empty_of_size_eq_zero h
  rw[this]
theorem Zbw{H:Hp}{a b:Addr}{x y:HO}(h:a≠b):upd (upd H a x) b y=upd (upd H b y) a x:=by
 funext c
 by_cases h1:c=b
 ·subst h1
  rw[Zb,Zn (Uh h),Zb]
 ·rw[Zn h1]
  by_cases h2:c=a
  ·subst h2
   rw[Zb,Zb]
  ·rw[Zn h2,Zn h2,Zn h1]
theorem Qb{H:Hp}{D:Addr}{l l':List V}(h:H D=some (.lst l))(c:Closed H):Closed (upd H D (.lst l')):=fun b u e=>by
 by_cases z:b=D
 ·subst z;rw[Zb] at e;cases e;trivial
 ·rw[Zn z] at e
  have ow:=c b u e
  clear e
  induction u with
  | ins C dx fs =>
   have x':H dx=some (.own b):=ow
   show upd H D (.lst l') dx=some (.own b)
   rw[Zn fun z=>by rw[z,h] at x';cases x']
   exact x'
  | frz ob u ih=>exact ih ow
  | _=>trivial
end L2
end
section
namespace L2
open PySem PySem.W PySem.Spec PyProof.Rows
theorem Zkp(val:Nat→Str):∀ n k,k∈metT val n→∃ i,i<n∧k=val i
 | 0,k,h=>by cases h
 | n+1,k,h=>by
  unfold metT at h
  by_cases z:val n∈metT val n
  ·rw[if_pos z] at h
   obtain⟨i,hi,e⟩:=Zkp val n k h
   exact⟨i,by omega,e⟩
  ·rw[if_neg z] at h
   rcases List.mem_append.mp h with y | y
   ·obtain⟨i,hi,e⟩:=Zkp val n k y
    exact⟨i,by omega,e⟩
   ·exact⟨n,Nat.lt_succ_self _,UD.mp y⟩
theorem Zkq(val:Nat→Str):∀ n,(∀ i j,i<n→j<n→val i=val j→i=j)→(metT val n).length=n
 | 0,_=>rfl
 | n+1,h=>by
  unfold metT
  have z:val n∉metT val n:=fun z=>by
   obtain⟨i,hi,e⟩:=Zkp val n _ z
   have:=h n i (Nat.lt_succ_self _) (by omega) e
   omega
  rw[if_neg z,Uo,Zkq val n fun i j hi hj e=>h i j (by omega) (by omega) e]
  rfl
theorem Zvh{s:Str}(h:s.cps.toList.Nodup):dsT s=s.length:=by
 refine Zkq _ _ fun i j hi hj e=>?_
 unfold signsOf at e
 injection e with e
 have e:=congrArg (fun a=>a[0]?) e
 simp only[List.getElem?_toArray,List.getElem?_cons_zero,Option.some.injEq] at e
 have hi':i<s.cps.toList.length:=by rw[UM];exact hi
 have hj':j<s.cps.toList.length:=by rw[UM];exact hj
 have g:∀ k (hk:k<s.cps.toList.length),s.cps.getD k 0=s.cps.toList[k]:=fun k hk=>by
  rw[Array.getD_eq_getD_getElem?,← Array.getElem?_toList,Ui hk];rfl
 rw[g i hi',g j hj'] at e
 exact(List.getElem_inj h).mp e
theorem Zvi{ns:List Str}(h:ns.Nodup):dsN ns=ns.length:=by
 refine Zkq _ _ fun i j hi hj e=>?_
 have g:∀ k (hk:k<ns.length),ns.getD k Str.empty=ns[k]:=fun k hk=>by
  rw[Uk,Ui hk];rfl
 rw[g i hi,g j hj] at e
 exact(List.getElem_inj h).mp e
theorem Zvt:L62.cps.toList.Nodup:=by decide +kernel
theorem Zvu:L26.cps.toList.Nodup:=by decide +kernel
theorem Zsj{f r:Str}(h:(f.cps.toList++r.cps.toList).Perm L62.cps.toList)(h0:f.length≠0)(h1:f.length≤60):goodText f=true:=by
 have nd:(f.cps.toList++r.cps.toList).Nodup:=h.nodup_iff.mpr Zvt
 have nf:f.cps.toList.Nodup:=(List.nodup_append.mp nd).1
 unfold goodText
 rw[Ut ⟨h0,h1,Zvh nf⟩,Bool.true_and]
 unfold madeOf
 rw[Ve]
 exact fun c hc=>Ut (h.mem_iff.mp (List.mem_append_left _ hc))
theorem Zuj{f r a b:List Nat}{x:Nat}(e:r=a++x::b):((f++[x])++(a++b)).Perm (f++r):=by
 subst e
 rw[UH]
 exact List.Perm.append_left f (List.perm_middle (a:=x) (l₁:=a) (l₂:=b)).symm
theorem Ztx{x:Str}{k:Nat}(h:k<x.length):∃ c,atI x.cps.toList ((k:Nat):Int)=some c∧x.cps.toList=(Txt.slice x none (some (k:Int))).cps.toList++c::(Txt.slice x (some ((k+1:Nat):Int)) none).cps.toList:=by
 have e4:x.cps.toList.length=x.length:=UM
 have h':k<x.cps.toList.length:=by omega
 refine⟨x.cps.toList[k],Zx (Ui h'),?_⟩
 rw[KM.Zby,KM.Zby,HT.sIx_nat,HT.sIx_none,HT.sIx_none,HT.sIx_nat,List.drop_zero,Nat.sub_zero,Nat.min_eq_left (by omega),Nat.min_eq_left (by omega),UV (l:=List.drop (k+1) _) (by rw[Va];omega)]
 rw[← UY h',List.take_append_drop]
theorem Zzv{s:Str}{a:Int}{c d:Nat}(e:(Txt.slice s none (some a)++⟨#[c]⟩)++Txt.slice s (some a) none=(Txt.slice s none (some a)++⟨#[d]⟩)++Txt.slice s (some a) none):c=d:=by
 have e:=congrArg (fun x=>x.cps.toList) e
 simp only[Zer] at e
 have e:=List.append_cancel_right e
 have e:=List.append_cancel_left e
 have:[c]=[d]:=e
 exact List.head_eq_of_cons_eq this
theorem Zwc{f x:Int}{i j:Nat}(hx:x∈([1,3,5,7,9,11]:List Int))(hi:i<26)(hj:j<26)(e:(f+(0+((i:Nat):Int))*x)%26=(f+(0+((j:Nat):Int))*x)%26):i=j:=by
 have hx':x=1∨x=3∨x=5∨x=7∨x=9∨x=11:=by simpa using hx
 rcases hx' with rfl | rfl | rfl | rfl | rfl | rfl<;>omega
theorem Zut{n:Str}(h:Tx 12 L26.cps.toList n)(h0:0<n.length):isName n=true:=by
 unfold isName
 rw[Ut ⟨h0,h.n⟩,Bool.true_and]
 unfold madeOf
 rw[Ve]
 exact fun c hc=>Ut (h.s c hc)
theorem Zor{ns:List Str}(h0:ns.length≠0)(h1:ns.length≤20)(hn:ns.Nodup)(hs:∀ n,n∈ns→isName n=true):goodNames ns=true:=by
 unfold goodNames
 rw[Ut ⟨h0,h1,Zvi hn⟩,Bool.true_and,Ve]
 exact hs
theorem Zsh{n:Str}(h:isName n=true):n.length≤12:=by
 unfold isName at h
 simp only[UN,UW] at h
 exact h.1.2
theorem Ya{ns:List Str}(h:goodNames ns=true):ns.length≤20∧∀ n,n∈ns→n.length≤12:=by
 unfold goodNames at h
 simp only[UN,UW,Ve] at h
 exact⟨h.1.2.1,fun n hn=>Zsh (h.2 n hn)⟩
structure Grow(p:Addr)(H H':Hp):Prop where
 k:∀ b u,b≠p→H b=some u→H' b=some u
 l:∃ ns:List Int,H' p=some (.lst (ns.map V.int))∧ns.length≤90
 c:Closed H→Closed H'
def Pool(p:Addr)(H:Hp):Prop:=∃ ns:List Int,H p=some (.lst (ns.map V.int))∧ns.length≤90
theorem Grow.refl{p:Addr}{H:Hp}(h:Pool p H):Grow p H H:=⟨fun _ _ _ e=>e,h,id⟩
theorem Grow.trans{p:Addr}{A B C:Hp}(a:Grow p A B)(b:Grow p B C):Grow p A C:=⟨fun x u n e=>b.k x u n (a.k x u n e),b.l,fun c=>b.c (a.c c)⟩
theorem Grow.ext{p:Addr}{A B C:Hp}(a:Grow p A B)(b:Ext B C):Grow p A C:=by
 obtain⟨ns,h,hn⟩:=a.l
 exact⟨fun x u n e=>b.s x u (a.k x u n e),⟨ns,b.s _ _ h,hn⟩,fun c=>b.c (a.c c)⟩
theorem Grow.pop{p:Addr}{H:Hp}{ns:List Int}(h:Pool p H)(hn:ns.length≤90):Grow p H (upd H p (.lst (ns.map V.int))):=by
 obtain⟨ms,e,_⟩:=h
 exact⟨fun b u nb q=>by rw[Zn nb];exact q,⟨ns,Zb,hn⟩,fun c=>Qb e c⟩
theorem Grow.sub{p:Addr}{H H':Hp}(h:Grow p H H'):Sub H H' H' := .all (fun b o e=>by
 by_cases z:b=p
 ·subst z
  obtain⟨ns,e,_⟩:=h.l
  exact⟨_,e⟩
 ·exact⟨o,h.k b o z e⟩) h.c
theorem Grow.free{p b:Addr}{H H':Hp}(h:Grow p H H')(e:H' b=none):H b=none:=by
 cases z:H b with
 | none=>rfl
 | some u =>
  by_cases y:b=p
  ·subst y
   obtain⟨ns,q,_⟩:=h.l
   rw[e] at q;cases q
  ·rw[h.k b u y z] at e;cases e
theorem DefOk.none{P:Program}{w:World}{K:Ua}{mg:Str→Option Value}{base:Heap}{x:Str}{st:Stmt}{f:Addr}{fd:FuncData}{ps:List Str}{k:Nat}{sp:Sp}(F:FunAt K mg x st ps f fd)(h:∀ vs H Q E,¬sp vs H Q E):DefOk P w K mg base k x ps sp :=
 ⟨f,fd,⟨fun vs H Q E q=>absurd q (h _ _ _ _),fun A outer s H args us vs Q E _ _ _ _ q=>absurd q (h _ _ _ _)⟩,F.2.1,F.1.kp,F.2.2⟩
theorem Grow.set{p l:Addr}{H H':Hp}{xs ys:List V}(g:Grow p H H')(h0:H l=none)(h:H' l=some (.lst xs))(hl:l≠p):Grow p H (upd H' l (.lst ys)):=by
 obtain⟨ns,e,hn⟩:=g.l
 exact⟨fun b u nb q=>by rw[Zn (Xa q h0)];exact g.k b u nb q,⟨ns,by rw[Zn (Uh hl)];exact e,hn⟩,fun c=>Qb h (g.c c)⟩
theorem Grow.ne{p l:Addr}{H H':Hp}(g:Grow p H H')(h:H' l=none):l≠p:=fun z=>by
 obtain⟨ns,e,_⟩:=g.l
 rw[z,e] at h;cases h
end L2
end
section
namespace L2
open PySem PySem.W PySem.Spec PyProof.Rows
section
variable {X:Cx}
noncomputable def rLIndex:V→List V→Hp→VK→Prop:=fun x vs H Q=>∃ (l:Addr) (ws:List Str) (w:Str) (k:Nat),x = .ref l∧vs=[.str w]∧H l=some (.lst (ws.map V.str))∧ws[k]?=some w∧(∀ j,j<k→ws[j]?≠some w)∧ws.length<100000∧Q (.int ((k:Nat):Int)) H
theorem Zce:MtR X "list.index" rLIndex:=by
 intro pins s σ H x vs v us Q I rx rv h
 obtain⟨l,ws,w,k,rfl,rfl,hH,hk,hno,hz,q⟩:=h
 cases rx
 obtain⟨u1,rfl,⟨t,rfl⟩⟩:=vals1 rv
 obtain⟨z,its,n,rr,hl,e⟩:=I.lstM hH
 have hlen:=rr.length
 rw[Uj] at hlen
 have hkl:k<ws.length:=(Uw.mp hk).1
 have hat:∀ (j:Nat) (hj:j<its.length),∃ t',its[j] = .str (ws[j]'(by omega)) t':=fun j hj=>by
  obtain⟨u,hu,ru⟩:=rr.get (i:=j) (x := .str (ws[j]'(by omega))) (by rw[Ur,Ui (by omega)];rfl)
  rw[Ui hj] at hu
  obtain⟨t',ht'⟩:=(show ∃ t,u=Value.str _ t from ru)
  exact⟨t',by rw[← ht'];exact Ub hu⟩
 let ee:Value→Bool:=fun y=>match y with | .str a _=>decide (a=w) | _=>false
 have he:∀ y,y∈its.toArray→MeetsSeq.EqGives y (.str w t) (ee y):=fun y hy=>by
  obtain⟨j,hj,rfl⟩:=List.mem_iff_getElem.mp (List.mem_toArray.mp hy)
  obtain⟨t',e'⟩:=hat j hj
  rw[e']
  exact Xal _ _ _ _
 have hit:ee (its.toArray[k]'(by rw[Uu];omega))=true:=by
  obtain⟨t',e'⟩:=hat k (by omega)
  rw[List.getElem_toArray,e']
  have:=(Uw.mp hk).2
  show decide (_=_)=true
  rw[this];exact Ut rfl
 have hno':∀ m (hm:m<its.toArray.size),m<k→ee its.toArray[m]=false:=fun m hm hmk=>by
  rw[Uu] at hm
  obtain⟨t',e'⟩:=hat m hm
  rw[List.getElem_toArray,e']
  show decide (_=_)=false
  refine UB fun z=>hno m hmk ?_
  rw[Ui (by omega),z]
 refine call_meets F.slot_list_index ⟨_,e,rfl⟩ F.entry_list_index (F.args_list_index_2 _ _) (MeetsSeq.list_index l its.toArray n (.str w t) ee he k (by rw[Uu];omega) (by omega) hit hno') ⟨e,?_⟩
 exact⟨.int _,H,I.tok _,⟨_,rfl⟩,q⟩
end
inductive Fm where
 | bare (k:Fin 4)
 | sp (a b:Int)
 | le (s:Str)
 | one (k:Fin 3) (f:Fm)
 | two (k:Fin 2) (ns:List Str) (fs:List Fm)
noncomputable def cp(s:String):List Nat:=(Str.ofString s).cps.toList
noncomputable def num(a:Int):List Nat:=(Str.ofString (toString a)).cps.toList
noncomputable def bw(k:Fin 4):Str:=[Str.ofString "nothing",Str.ofString "truth",Str.ofString "whole",Str.ofString "fraction"][k]
noncomputable def ow(k:Fin 3):Str:=[Str.ofString "maybe",Str.ofString "many",Str.ofString "turned"][k]
noncomputable def tw(k:Fin 2):Str:=[Str.ofString "record",Str.ofString "choice"][k]
mutual
noncomputable def sh:Fm→List Nat
 | .bare k=>(bw k).cps.toList
 | .sp a b=>cp "span"++(cp "("++((num a++(cp ", "++num b))++cp ")"))
 | .le s=>cp "letters"++(cp "("++(s.cps.toList++cp ")"))
 | .one k f=>(ow k).cps.toList++(cp "("++(sh f++cp ")"))
 | .two k ns fs=>(tw k).cps.toList++(cp "("++(shs fs ns++cp ")"))
noncomputable def shs:List Fm→List Str→List Nat
 | [],_=>[]
 | f::fs,ns=>(ns.headD Str.empty).cps.toList++(cp " "++(sh f++(match fs with | []=>[] | _::_=>cp ", "++shs fs ns.tail)))
end
mutual
noncomputable def ht:Fm→Nat
 | .bare _=>1
 | .sp _ _=>1
 | .le _=>1
 | .one _ f=>ht f+1
 | .two _ _ fs=>hts fs+1
noncomputable def hts:List Fm→Nat
 | []=>0
 | f::fs=>max (ht f) (hts fs)
end
mutual
noncomputable def okF:Fm→Prop
 | .bare _=>True
 | .sp a b=>a≤b∧a.natAbs<10 ^ 58∧b.natAbs<10 ^ 58
 | .le s=>goodText s=true∧s.length≤60
 | .one _ f=>okF f
 | .two _ ns fs=>goodNames ns=true∧ns.length=fs.length∧okFs fs
noncomputable def okFs:List Fm→Prop
 | []=>True
 | f::fs=>okF f∧okFs fs
end
structure FC where
 b:Fin 4→Addr
 s:Addr
 l:Addr
 o:Fin 3→Addr
 t:Fin 2→Addr
mutual
noncomputable def FAt(c:FC)(X:List Addr)(H:Hp):Fm→Addr→Prop
 | .bare k,o=>o∉X∧∃ dx,H o=some (.ins (c.b k) dx [])
 | .sp a b,o=>o∉X∧∃ dx,H o=some (.ins c.s dx [("low",.int a),("high",.int b)])
 | .le s,o=>o∉X∧∃ dx,H o=some (.ins c.l dx [("signs",.str s)])
 | .one k f,o=>o∉X∧∃ dx i,H o=some (.ins (c.o k) dx [("inner",.ref i)])∧FAt c X H f i
 | .two k ns fs,o=>o∉X∧∃ dx l1 l2 os,H o=some (.ins (c.t k) dx [("names",.ref l1),("forms",.ref l2)])∧l1∉X∧l2∉X∧H l1=some (.lst (ns.map V.str))∧H l2=some (.lst (os.map V.ref))∧FsAt c X H fs os
noncomputable def FsAt(c:FC)(X:List Addr)(H:Hp):List Fm→List Addr→Prop
 | [],os=>os=[]
 | f::fs,os=>∃ o r,os=o::r∧FAt c X H f o∧FsAt c X H fs r
end
def AnyM(P:Program)(w:World)(K:Ua)(mg:Str→Option Value)(base:Heap)(k:Nat)(m:Str)(ps:List Str){ι:Type}(cl:ι→Addr)(sp:ι→Sp):Prop:=∀ i,MethOk P w K mg base k (cl i) m ps (sp i)∧Cls K (cl i)
section
variable {X:Cx} {k k':Nat} {m:Str} {ps:List Str} {ι:Type} {cl:ι→Addr} {sp:ι→Sp} {e o:Expr} {es:List Expr} {t:TA} {ta:TE} {pos apos:Pos}
theorem Xn{pl:Sem Bool}(h:AnyM X.prog X.w X.K X.mg X.base k m ps cl sp)(hr:Room k' X.A)(he:PE X o ta)(ha:PA X (e::es) t)(hk:k≤k':=by decide)
  (hst:starEach (e::es) X.env=(false,eval e X.env)::starEach es X.env:=by rfl) (hpl:(backTo pos (starEach es X.env)).any (·.1)=false:=by rfl)
  (ht:eval (.Call (.Attribute o m apos) (e::es) [] pos) X.env=(do
   let ov ← eval o X.env
   standAt apos.atName
   let (f,first) ← holding [ov] (getMethod ov m pl)
   callWith pos f first (backTo pos (starEach (e::es) X.env)) (backToKw pos (keywordEach [] X.env))):=by rfl) :
  PE X (.Call (.Attribute o m apos) (e::es) [] pos) (fun σ H Q=>ta σ H fun x H1=>∃ a i dx fs,x = .ref a∧H1 a=some (.ins (cl i) dx fs)∧fs.lookup m=none∧t σ H1 fun vs H2=>sp i (x::vs) H2 Q E0):=by
 intro pins s σ H Q I hq
 refine PySem.W.methodCall_KW (pl:=pl) (thn (he pins s σ H _ I hq) fun u s1 zq=>?_) ht
 obtain⟨x,H1,I1,rx,a,i,dx,fs,ex,ea,l,q⟩:=zq
 subst ex
 obtain rfl:u=Value.ref a:=rx
 obtain⟨⟨f,fd,F,hb,hm⟩,c⟩:=h i
 refine Zfs I1 ea c hm l ?_
 refine PySem.W.callWith_K (first:=[.ref a]) (h₀:=X.base) I.ok.mod.kin hm.kp (thn (ha pos pins s1 σ H1 _ I1 q) fun us s2 zq=>?_) hst hpl
 obtain⟨vs,H2,I2,r,q2⟩:=zq
 refine ⟨I2.kIn,?_⟩
 exact Znz (us := .ref a::us) (vs := .ref a::vs) (dvs:=[]) (ds:=[]) F (hr.mono hk) hb .nil pass0 I2 (.cons rfl r) (by rw[List.append_nil];exact q2)
end
structure Mv(cu:Addr)(H H':Hp):Prop where
 k:∀ b u,b≠cu→H b=some u→H' b=some u
 c:Closed H→Closed H'
theorem Mv.refl(cu:Addr)(H:Hp):Mv cu H H:=⟨fun _ _ _ e=>e,id⟩
theorem Mv.trans{cu:Addr}{A B C:Hp}(a:Mv cu A B)(b:Mv cu B C):Mv cu A C:=⟨fun x u n e=>b.k x u n (a.k x u n e),fun c=>b.c (a.c c)⟩
theorem Mv.ext{cu:Addr}{A B C:Hp}(a:Mv cu A B)(b:Ext B C):Mv cu A C:=⟨fun x u n e=>b.s x u (a.k x u n e),fun c=>b.c (a.c c)⟩
theorem Mv.move{cu C dx:Addr}{H:Hp}{fs fs':List (Str×V)}(h:H cu=some (.ins C dx fs)):Mv cu H (upd H cu (.ins C dx fs')) :=
 ⟨fun b u nb e=>by rw[Zn nb];exact e,(Sub.ins (H':=upd H cu (.ins C dx fs')) h (fun b u nb e=>by rw[Zn nb];exact e) Zb).cl⟩
theorem Mv.sub{cu:Addr}{H H':Hp}{o:HO}(h:Mv cu H H')(e:H' cu=some o):Sub H H' H' := .all (fun b u q=>by
 by_cases z:b=cu
 ·subst z;exact⟨_,e⟩
 ·exact⟨u,h.k b u z q⟩) h.c
mutual
theorem FAt.keep{c:FC}{X:List Addr}{H H':Hp}(k:∀ b u,b∉X→H b=some u→H' b=some u):∀ (f:Fm) {o:Addr},FAt c X H f o→FAt c X H' f o
 | .bare i,o,h=>by
  obtain⟨n,dx,e⟩:=h
  exact⟨n,dx,k _ _ n e⟩
 | .sp a b,o,h=>by
  obtain⟨n,dx,e⟩:=h
  exact⟨n,dx,k _ _ n e⟩
 | .le s,o,h=>by
  obtain⟨n,dx,e⟩:=h
  exact⟨n,dx,k _ _ n e⟩
 | .one i f,o,h=>by
  obtain⟨n,dx,j,e,q⟩:=h
  exact⟨n,dx,j,k _ _ n e,FAt.keep k f q⟩
 | .two i ns fs,o,h=>by
  obtain⟨n,dx,l1,l2,os,e,n1,n2,e1,e2,q⟩:=h
  exact⟨n,dx,l1,l2,os,k _ _ n e,n1,n2,k _ _ n1 e1,k _ _ n2 e2,FsAt.keep k fs q⟩
theorem FsAt.keep{c:FC}{X:List Addr}{H H':Hp}(k:∀ b u,b∉X→H b=some u→H' b=some u):∀ (fs:List Fm) {os:List Addr},FsAt c X H fs os→FsAt c X H' fs os
 | [],os,h=>h
 | f::fs,os,h=>by
  obtain⟨o,r,e,q,q2⟩:=h
  exact⟨o,r,e,FAt.keep k f q,FsAt.keep k fs q2⟩
end
mutual
theorem FAt.weak{c:FC}{X Y:List Addr}{H:Hp}(hs:∀ x,x∈X→x∈Y):∀ (f:Fm) {o:Addr},FAt c Y H f o→FAt c X H f o
 | .bare i,o,h=>⟨fun z=>h.1 (hs _ z),h.2⟩
 | .sp a b,o,h=>⟨fun z=>h.1 (hs _ z),h.2⟩
 | .le s,o,h=>⟨fun z=>h.1 (hs _ z),h.2⟩
 | .one i f,o,h=>by
  obtain⟨n,dx,j,e,q⟩:=h
  exact⟨fun z=>n (hs _ z),dx,j,e,FAt.weak hs f q⟩
 | .two i ns fs,o,h=>by
  obtain⟨n,dx,l1,l2,os,e,n1,n2,e1,e2,q⟩:=h
  exact⟨fun z=>n (hs _ z),dx,l1,l2,os,e,fun z=>n1 (hs _ z),fun z=>n2 (hs _ z),e1,e2,FsAt.weak hs fs q⟩
theorem FsAt.weak{c:FC}{X Y:List Addr}{H:Hp}(hs:∀ x,x∈X→x∈Y):∀ (fs:List Fm) {os:List Addr},FsAt c Y H fs os→FsAt c X H fs os
 | [],os,h=>h
 | f::fs,os,h=>by
  obtain⟨o,r,e,q,q2⟩:=h
  exact⟨o,r,e,FAt.weak hs f q,FsAt.weak hs fs q2⟩
end
theorem FsAt.len{c:FC}{X:List Addr}{H:Hp}:∀ (fs:List Fm) {os:List Addr},FsAt c X H fs os→os.length=fs.length
 | [],os,h=>by
  obtain rfl:os=[]:=h
  rfl
 | g::fs,os,h=>by
  obtain⟨o',r,rfl,q,q2⟩:=h
  rw[Uq,FsAt.len fs q2];rfl
noncomputable def bd:Fm→List Nat
 | .bare _=>[]
 | .sp a b=>num a++(cp ", "++num b)
 | .le s=>s.cps.toList
 | .one _ f=>sh f
 | .two _ ns fs=>shs fs ns
theorem Zfr:∀ f:Fm,1≤ht f
 | .bare _=>by rw[ht];exact Up _
 | .sp _ _=>by rw[ht];exact Up _
 | .le _=>by rw[ht];exact Up _
 | .one _ f=>by rw[ht];omega
 | .two _ _ fs=>by rw[ht];omega
mutual
theorem FAt.add{c:FC}{X:List Addr}{H:Hp}{l:Addr}(hl:H l=none):∀ (f:Fm) {o:Addr},FAt c X H f o→FAt c (l::X) H f o
 | .bare i,o,h=>by
  obtain⟨n,dx,e⟩:=h
  exact⟨fun z=>(Um.mp z).elim (fun y=>by rw[y,hl] at e;cases e) n,dx,e⟩
 | .sp a b,o,h=>by
  obtain⟨n,dx,e⟩:=h
  exact⟨fun z=>(Um.mp z).elim (fun y=>by rw[y,hl] at e;cases e) n,dx,e⟩
 | .le s,o,h=>by
  obtain⟨n,dx,e⟩:=h
  exact⟨fun z=>(Um.mp z).elim (fun y=>by rw[y,hl] at e;cases e) n,dx,e⟩
 | .one i f,o,h=>by
  obtain⟨n,dx,j,e,q⟩:=h
  exact⟨fun z=>(Um.mp z).elim (fun y=>by rw[y,hl] at e;cases e) n,dx,j,e,FAt.add hl f q⟩
 | .two i ns fs,o,h=>by
  obtain⟨n,dx,l1,l2,os,e,n1,n2,e1,e2,q⟩:=h
  exact⟨fun z=>(Um.mp z).elim (fun y=>by rw[y,hl] at e;cases e) n,dx,l1,l2,os,e,fun z=>(Um.mp z).elim (fun y=>by rw[y,hl] at e1;cases e1) n1,fun z=>(Um.mp z).elim (fun y=>by rw[y,hl] at e2;cases e2) n2,e1,e2,FsAt.add hl fs q⟩
theorem FsAt.add{c:FC}{X:List Addr}{H:Hp}{l:Addr}(hl:H l=none):∀ (fs:List Fm) {os:List Addr},FsAt c X H fs os→FsAt c (l::X) H fs os
 | [],os,h=>h
 | f::fs,os,h=>by
  obtain⟨o,r,e,q,q2⟩:=h
  exact⟨o,r,e,FAt.add hl f q,FsAt.add hl fs q2⟩
end
inductive Sl where
 | b (k:Fin 4) | s | l | o (k:Fin 3) | t (k:Fin 2)
noncomputable def clS(c:FC):Sl→Addr
 | .b k=>c.b k
 | .s=>c.s
 | .l=>c.l
 | .o k=>c.o k
 | .t k=>c.t k
noncomputable def slot:Fm→Sl
 | .bare k => .b k
 | .sp _ _ => .s
 | .le _ => .l
 | .one k _ => .o k
 | .two k _ _ => .t k
theorem FAt.ins{c:FC}{X:List Addr}{H:Hp}{m:Str}(h1:(m == ("low":Str))=false)(h2:(m == ("high":Str))=false)(h3:(m == ("signs":Str))=false)(h4:(m == ("inner":Str))=false)(h5:(m == ("names":Str))=false)(h6:(m == ("forms":Str))=false) :
  ∀ (f:Fm) {o:Addr},FAt c X H f o→∃ dx fs,H o=some (.ins (clS c (slot f)) dx fs)∧fs.lookup m=none
 | .bare i,o,h=>by
  obtain⟨n,dx,e⟩:=h
  exact⟨dx,_,e,rfl⟩
 | .sp a b,o,h=>by
  obtain⟨n,dx,e⟩:=h
  exact⟨dx,_,e,by simp[List.lookup,h1,h2]⟩
 | .le s,o,h=>by
  obtain⟨n,dx,e⟩:=h
  exact⟨dx,_,e,by simp[List.lookup,h3]⟩
 | .one i f,o,h=>by
  obtain⟨n,dx,j,e,q⟩:=h
  exact⟨dx,_,e,by simp[List.lookup,h4]⟩
 | .two i ns fs,o,h=>by
  obtain⟨n,dx,l1,l2,os,e,_⟩:=h
  exact⟨dx,_,e,by simp[List.lookup,h5,h6]⟩
end L2
end
section
namespace L2
open PySem PySem.W PySem.Spec PyProof.Rows
def tCut(t u:TS):TS:=fun D σ H=>∃ J:St→Hp→Prop,t {D with nx:=J} σ H∧∀ σ' H',J σ' H'→u D σ' H'
theorem Zjc{X:Cx}{st:Stmt}{rest:List Stmt}{t u:TS}(h1:PS X st t)(h2:PSs X rest u):PSs X (st::rest) (tCut t u):=by
 intro pins s σ H D I h
 obtain⟨J,h,hJ⟩:=h
 refine wpAny_execs_cons (thn (h1 pins s σ H {D with nx:=J} I h) fun f s1 q=>?_)
 cases f with
 | next =>
  obtain⟨σ',H',I',q⟩:=q
  exact h2 pins s1 σ' H' D I' (hJ _ _ q)
 | ret v=>exact q
 | brk=>exact q
 | cont=>exact q
end L2
end
section
namespace L2
open PySem PySem.W PySem.Spec PyProof.Rows
inductive D where
 | non
 | bl (b:Bool)
 | int (i:Int)
 | str (s:Str)
 | tup (ds:List D)
 | lst (ds:List D)
mutual
noncomputable def DAt(H:Hp):D→V→Prop
 | .non,v=>v = .non
 | .bl b,v=>v = .bl b
 | .int i,v=>v = .int i
 | .str s,v=>v = .str s∧s.length≤100000
 | .tup ds,v=>∃ a vs,v = .ref a∧H a=some (.tup vs)∧DsAt H ds vs∧vs.length≤1000
 | .lst ds,v=>∃ a vs,v = .ref a∧H a=some (.lst vs)∧DsAt H ds vs∧vs.length≤1000
noncomputable def DsAt(H:Hp):List D→List V→Prop
 | [],vs=>vs=[]
 | d::ds,vs=>∃ v r,vs=v::r∧DAt H d v∧DsAt H ds r
end
mutual
theorem DAt.same{H H':Hp}(s:Same H H'):∀ (d:D) {v:V},DAt H d v→DAt H' d v
 | .non,v,h=>h
 | .bl b,v,h=>h
 | .int i,v,h=>h
 | .str t,v,h=>h
 | .tup ds,v,h=>by
  obtain⟨a,vs,e,eT,q,z⟩:=h
  exact⟨a,vs,e,s _ _ eT,DsAt.same s ds q,z⟩
 | .lst ds,v,h=>by
  obtain⟨a,vs,e,eT,q,z⟩:=h
  exact⟨a,vs,e,s _ _ eT,DsAt.same s ds q,z⟩
theorem DsAt.same{H H':Hp}(s:Same H H'):∀ (ds:List D) {vs:List V},DsAt H ds vs→DsAt H' ds vs
 | [],vs,h=>h
 | d::ds,vs,h=>by
  obtain⟨v,r,e,q,q2⟩:=h
  exact⟨v,r,e,DAt.same s d q,DsAt.same s ds q2⟩
end
theorem DsAt.len{H:Hp}:∀ (ds:List D) {vs:List V},DsAt H ds vs→vs.length=ds.length
 | [],vs,h=>by
  obtain rfl:vs=[]:=h
  rfl
 | g::fs,vs,h=>by
  obtain⟨o',r,rfl,q,q2⟩:=h
  rw[Uq,DsAt.len fs q2];rfl
theorem DsAt.get{H:Hp}:∀ (ds:List D) {vs:List V} {i:Nat} {v:V},DsAt H ds vs→vs[i]?=some v→∃ d,ds[i]?=some d∧DAt H d v
 | [],vs,i,v,h,e=>by
  obtain rfl:vs=[]:=h
  cases e
 | d::ds,vs,0,v,h,e=>by
  obtain⟨o',r,rfl,q,q2⟩:=h
  cases e
  exact⟨d,rfl,q⟩
 | d::ds,vs,i+1,v,h,e=>by
  obtain⟨o',r,rfl,q,q2⟩:=h
  exact DsAt.get ds q2 e
noncomputable def tyD:D→String
 | .non=>"NoneType"
 | .bl _=>"bool"
 | .int _=>"int"
 | .str _=>"str"
 | .tup _=>"tuple"
 | .lst _=>"list"
theorem DAt.ty{K:Ua}{H:Hp}{d:D}{v:V}(h:DAt H d v):TyOf K H v (.type (tyD d)):=by
 cases d with
 | non=>obtain rfl:v = .non:=h;exact .non
 | bl b=>obtain rfl:v = .bl b:=h;exact .bl b
 | int i=>obtain rfl:v = .int i:=h;exact .int i
 | str s=>obtain⟨rfl,_⟩:=h;exact .str s
 | tup ds=>obtain⟨a,vs,rfl,e,_⟩:=h;exact .tup e
 | lst ds=>obtain⟨a,vs,rfl,e,_⟩:=h;exact .lst e
noncomputable def isK(d:D)(T:String):Bool:=tyD d == T||(tyD d == "bool"&&T == "int")
theorem Xad(K:Ua):∀ a∈["NoneType","bool","int","str","tuple","list"],∀ T∈["int","bool","str","tuple","list"],PySem.W.kitOne K (.type a) (.type T)=some (a == T||(a == "bool"&&T == "int")):=by
 intro a ha T hT
 have ha':a="NoneType"∨a="bool"∨a="int"∨a="str"∨a="tuple"∨a="list":=by simpa using ha
 have hT':T="int"∨T="bool"∨T="str"∨T="tuple"∨T="list":=by simpa using hT
 rcases ha' with rfl | rfl | rfl | rfl | rfl | rfl<;>rcases hT' with rfl | rfl | rfl | rfl | rfl<;>
  first
  | exact Zxf ..
  | (unfold PySem.W.kitOne;rw[if_neg (by decide)];unfold PySem.W.kitCls;kernel_rfl)
theorem kitD(K:Ua)(d:D){T:String}(hT:T∈["int","bool","str","tuple","list"]):PySem.W.kitOne K (.type (tyD d)) (.type T)=some (isK d T):=by
 refine Xad K _ ?_ T hT
 cases d<;>simp[tyD]
section
variable {X:Cx}
noncomputable def plainV:V→Bool
 | .non=>true
 | .bl _=>true
 | .int _=>true
 | .str _=>true
 | .ref _=>true
 | _=>false
theorem Zww:OpR X (compareOp .Is) (fun x y H Q=>∃ b,y = .bl b∧plainV x=true∧Q (.bl (decide (x = .bl b))) H):=by
 intro pins s σ H x y v u Q I rx ry h
 obtain⟨b,rfl,hx,q⟩:=h
 cases ry
 cases x with
 | non=>cases rx;exact wpAny_pure (Xp I q (by cases b<;>rfl))
 | bl c=>cases rx;cases b<;>cases c<;>exact wpAny_pure (Xp I q rfl)
 | int i=>obtain⟨t,rfl⟩:=rx;exact wpAny_pure (Xp I q (by cases b<;>rfl))
 | str i=>obtain⟨t,rfl⟩:=rx;exact wpAny_pure (Xp I q (by cases b<;>rfl))
 | ref a=>cases rx;exact wpAny_pure (Xp I q (by cases b<;>rfl))
 | _=>cases hx
end
end L2
end
section
namespace L2
open PySem PySem.W PySem.Spec PyProof.Rows
section
variable {prog:Program} {w:World} {A:Around} {E:Value→Shared→Prop} {s:Shared}
theorem Zni{it t:Addr}{i:Nat}{items:Array Value}{x:Value}{Q:Value→Shared→Prop}(hit:s.heap.IsTupleIter it t i)(ht:s.heap.IsTuple t items)(hx:items[i]?=some x)(hQ:∀ h',h'.IsTupleIter it t (i+1)→Heap.SameBut it s.heap h'→Q x {s with heap:=h'}) :
  wpAny (model prog w) A (Builtin.SmallTypes.nextOf (.ref it)) Q E s:=by
 have ty:=hit.typeIs
 have hit':=hit
 obtain⟨o,ho,hc,hd⟩:=hit
 obtain⟨ot,hot,_,nt,hdt⟩:=ht
 unfold Builtin.SmallTypes.nextOf
 refine wpAny_bind (wpAny_callSpecial?_slot (name:=Str.ofString "__next__") ty F.slot_tuple_iterator_next (wpAny_call_entry F.slot_tuple_iterator_next ty F.entry_tuple_iterator_next ?_ (F.args_tuple_iterator_next_1 _)))
 show wpAny _ _ (field (.ref it) 0 >>= _) _ _ s
 refine wpAny_bind (wpAny_field ho hd (x := .ref t) rfl ?_)
 have nn:¬((Value.ref t == Value.none)=true):=UI
 show wpAny _ _ (if (Value.ref t == Value.none)=true then _ else _) _ _ s
 rw[if_neg nn]
 show wpAny _ _ (field (.ref it) 1 >>= _) _ _ s
 refine wpAny_bind (wpAny_field ho hd (x := .int i 0) rfl ?_)
 show wpAny _ _ (seqItems? (.ref t) >>= _) _ _ s
 refine wpAny_bind (wpAny_seqItems hot hdt ?_)
 simp only[Int.toNat_natCast,hx]
 refine wpAny_bind (wpAny_setField ho hd (by simp) (wpAny_pure ⟨x,rfl,wpAny_pure (hQ _ ⟨_,Heap.get?_update_self _ ho (Obj.isFreed_of_fields (Obj.data_mapFields hd _)),(Obj.cls_mapFields ..).trans hc,?_⟩ (Heap.SameBut.update ..))⟩))
 rw[Obj.data_mapFields hd];simp[rawInt]
theorem Zpg{it t:Addr}{i:Nat}{items:Array Value}{Q:Value→Shared→Prop}(hh:A.handled=none)(hit:s.heap.IsTupleIter it t i)(ht:s.heap.IsTuple t items)(hx:items[i]?=none)(hE:∀ h' e,Heap.ExtBut it s.heap h'→(∃ o,h'.get? e=some o∧o.cls = .type "StopIteration")→E (.ref e) {s with heap:=h'}) :
  wpAny (model prog w) A (Builtin.SmallTypes.nextOf (.ref it)) Q E s:=by
 have ty:=hit.typeIs
 obtain⟨o,ho,hc,hd⟩:=hit
 obtain⟨ot,hot,_,nt,hdt⟩:=ht
 unfold Builtin.SmallTypes.nextOf
 refine wpAny_bind (wpAny_callSpecial?_slot (name:=Str.ofString "__next__") ty F.slot_tuple_iterator_next (wpAny_call_entry F.slot_tuple_iterator_next ty F.entry_tuple_iterator_next ?_ (F.args_tuple_iterator_next_1 _)))
 show wpAny _ _ (field (.ref it) 0 >>= _) _ _ s
 refine wpAny_bind (wpAny_field ho hd (x := .ref t) rfl ?_)
 have nn:¬((Value.ref t == Value.none)=true):=UI
 show wpAny _ _ (if (Value.ref t == Value.none)=true then _ else _) _ _ s
 rw[if_neg nn]
 show wpAny _ _ (field (.ref it) 1 >>= _) _ _ s
 refine wpAny_bind (wpAny_field ho hd (x := .int i 0) rfl ?_)
 show wpAny _ _ (seqItems? (.ref t) >>= _) _ _ s
 refine wpAny_bind (wpAny_seqItems hot hdt ?_)
 simp only[Int.toNat_natCast,hx]
 refine wpAny_bind (wpAny_rule (wpAny_bind (wpAny_setField ho hd (by simp) ?_)))
 show wpAny _ _ (newExc (.type "StopIteration") [] >>= _) _ _ _
 refine wpAny_bind ?_
 simp only[newExc,newTuple]
 refine wpAny_bind (wpAny_newObj_type ?_ (by size_fits))
 refine wpAny_bind (m:=firstArgMember _ _) (wpAny_of_eq (a:=Value.none) (by first | rfl | (simp only[firstArgMember];rfl)) ?_)
 refine wpAny_newObj_type ?_ (by size_fits)
 simp only[raiseNew]
 refine wpAny_bind (wpAny_handled ?_)
 first | rw[show A.in1.handled=none from hh] | rw[hh]
 exact wpAny_bind (wpAny_pure (wpAny_throw (hE _ _ (((Heap.SameBut.update ..).extBut.push _).push _) ⟨_,UG _ rfl,rfl⟩)))
end
theorem tupAt{h h':Heap}{a:Addr}{items:Array Value}(x:h.IsTuple a items)(k:∀ o,h.get? a=some o→h'.get? a=some o):h'.IsTuple a items :=
 let ⟨o,ho,r⟩:=x;⟨o,k o ho,r⟩
theorem tupIterAt{h h':Heap}{a t:Addr}{i:Nat}(x:h.IsTupleIter a t i)(k:∀ o,h.get? a=some o→h'.get? a=some o):h'.IsTupleIter a t i :=
 let ⟨o,ho,r⟩:=x;⟨o,k o ho,r⟩
theorem Draws.tup{prog:Program}{w:World}{A:Around}(hh:A.handled=none)(it t:Addr)(hne:t≠it)(items:Array Value) :
  Draws prog w A it [it,t] items.size (fun i v=>items[i]?=some v) (fun i h=>h.IsTupleIter it t i∧h.IsTuple t items) where
 live:=fun _ _ st=>let ⟨o,ho,_⟩:=st.1;⟨o,ho⟩
 frame:=fun _ _ _ st hk=>⟨tupIterAt st.1 fun o e=>hk it (by simp) o e,tupAt st.2 fun o e=>hk t (by simp) o e⟩
 item:=fun i s Q E hi st hQ=>Zni st.1 st.2 (x:=items[i]) (by simp[hi]) fun h' hit' hs'=>hQ _ h' s.toks (by simp[hi]) ⟨hit',st.2.extBut hs'.extBut hne⟩ hs'
 done:=fun s Q E st hE=>Zpg hh st.1 st.2 (by simp) hE
structure ZAp(z TI TO i1 i2:Addr)(fp1 fp2:List Addr):Prop where
 TIz:TI≠z
 TOz:TO≠z
 i1z:i1≠z
 i2z:i2≠z
 TITO:TI≠TO
 TIi1:TI≠i1
 TIi2:TI≠i2
 TOi1:TO≠i1
 TOi2:TO≠i2
 z1:z∉fp1
 o1:TO∉fp1
 j1:i2∉fp1
 z2:z∉fp2
 o2:TO∉fp2
 j2:i1∉fp2
section
variable {prog:Program} {w:World} {A:Around} {E:Value→Shared→Prop} {s:Shared}
variable {z TI TO i1 i2:Addr} {fp1 fp2:List Addr} {n1 n2 i:Nat} {P1 P2:Nat→Value→Prop} {S1 S2:Nat→Heap→Prop}
theorem Draws.but{A:Around}{it b:Addr}{fp:List Addr}{n i:Nat}{P:Nat→Value→Prop}{St:Nat→Heap→Prop}(D:Draws prog w A it fp n P St){h h':Heap}(x:Heap.ExtBut b h h')(hb:b∉fp)(st:St i h):St i h' :=
 D.frame i h h' st fun c hc o e=>x c o (fun z=>hb (z ▸ hc)) e
theorem Zyl{a b:Value}{Q:Value→Shared→Prop}(D1:Draws prog w A i1 fp1 n1 P1 S1)(D2:Draws prog w A i2 fp2 n2 P2 S2)(Z:ZAp z TI TO i1 i2 fp1 fp2)(hz:IsZip s.heap z TI TO .none)(hTI:IsPair s.heap TI (.ref i1) (.ref i2))(hTO:IsPair s.heap TO a b)(l1:i<n1)(l2:i<n2)(t1:S1 i s.heap)(t2:S2 i s.heap)
  (hQ:∀ x y h' tk,P1 i x→P2 i y→IsZip h' z TI TO (rawInt s.heap.objs.size)→IsPair h' TO x y→S1 (i+1) h'→S2 (i+1) h'→IsPair h' s.heap.objs.size x y→(∀ c o,c≠z→c≠TO→c≠i1→c≠i2→s.heap.get? c=some o→h'.get? c=some o)→Q (.ref s.heap.objs.size) {s with heap:=h',toks:=tk}) :
  wpAny (model prog w) A (Builtin.«zip.__next__» ⟨[.ref z],[]⟩) (fun fin s'=>∃ v,fin = .done (.ret v)∧Q v s') E s:=by
 show wpAny _ _ (field (.ref z) 2 >>= _) _ _ _
 refine wpAny_bind (wpAny_field hz rfl (x := .bool false) rfl ?_)
 show wpAny _ _ (field (.ref z) 3 >>= _) _ _ _
 refine wpAny_bind (wpAny_field hz rfl (x := .ref TI) rfl (wpAny_bind (wpAny_seqItems hTI rfl ?_)))
 show wpAny _ _ (Builtin.SmallTypes.ownedTupleIsFree (.ref z) >>= _) _ _ _
 refine wpAny_bind ?_
 unfold Builtin.SmallTypes.ownedTupleIsFree
 refine wpAny_bind (wpAny_field hz rfl (x := .none) rfl (wpAny_pure ?_))
 simp only[if_true]
 refine wpAny_bind (wpAny_rule (wpAny_bind (wpAny_field hz rfl (x := .ref TO) rfl (wpAny_bind (wpAny_setField_rec hz (by simp) fun ha za xa=>?_)))))
 replace za:IsZip ha z TI TO .ellipsis:=za
 refine wpAny_bind ?_
 simp only[List.zipIdx_cons,List.zipIdx_nil,List.forIn_cons,List.forIn_nil]
 refine wpAny_bind (wpAny_bind (wpAny_onRaise ?_))
 show wpAny _ _ (Builtin.SmallTypes.nextOf (.ref i1) >>= _) _ _ _
 refine wpAny_bind (D1.item i _ _ _ l1 (Draws.but D1 xa.extBut Z.z1 t1) fun x hb tk1 p1 tb xb=>wpAny_pure ?_)
 have ob:IsPair hb TO a b:=xb.extBut _ _ Z.TOi1 (xa.extBut _ _ Z.TOz hTO)
 refine wpAny_bind (wpAny_seqItems ob rfl (wpAny_bind (wpAny_updateSeq_pair ob fun hc oc xc=>?_)))
 replace oc:IsPair hc TO x b:=oc
 refine wpAny_bind (wpAny_letGo (wpAny_pure ?_))
 refine wpAny_bind (wpAny_bind (wpAny_onRaise ?_))
 show wpAny _ _ (Builtin.SmallTypes.nextOf (.ref i2) >>= _) _ _ _
 refine wpAny_bind (D2.item i _ _ _ l2 (Draws.but D2 xc.extBut Z.o2 (Draws.but D2 xb.extBut Z.j2 (Draws.but D2 xa.extBut Z.z2 t2))) fun y hd tk2 p2 td xd=>wpAny_pure ?_)
 have od:IsPair hd TO x b:=xd.extBut _ _ Z.TOi2 oc
 refine wpAny_bind (wpAny_seqItems od rfl (wpAny_bind (wpAny_updateSeq_pair od fun he oe xe=>?_)))
 replace oe:IsPair he TO x y:=oe
 refine wpAny_bind (wpAny_letGo (wpAny_pure (wpAny_pure ?_)))
 refine wpAny_bind (wpAny_seqItems oe rfl (wpAny_bind (wpAny_newTuple ?_)))
 have sz:he.objs.size=s.heap.objs.size:=by rw[xe.1,xd.1,xc.1,xb.1,xa.1]
 have ze:IsZip he z TI TO .ellipsis:=xe.extBut _ _ Z.TOz.symm (xd.extBut _ _ Z.i2z.symm (xc.extBut _ _ Z.TOz.symm (xb.extBut _ _ Z.i1z.symm za)))
 have lz:z<he.objs.size:=UL ze
 show wpAny _ _ (Builtin.SmallTypes.ownedTupleHandOut (.ref z) (.ref he.objs.size) >>= _) _ _ _
 refine wpAny_bind ?_
 unfold Builtin.SmallTypes.ownedTupleHandOut
 refine wpAny_bind (wpAny_setField_rec (show IsZip (he.push {cls := .type "tuple",data := .seq #[x,y]}) z TI TO .ellipsis from Us _ ze) (by simp) fun hf zf xf=>?_)
 replace zf:IsZip hf z TI TO (rawInt he.objs.size):=zf
 refine wpAny_setField_rec zf (by simp) fun hg zg xg=>wpAny_pure ⟨_,rfl,?_⟩
 replace zg:IsZip hg z TI TO (rawInt he.objs.size):=zg
 have up:Heap.ExtBut z he hg:=fun c o c1 e=>xg.extBut _ _ c1 (xf.extBut _ _ c1 (Us _ e))
 have pn:IsPair hg he.objs.size x y:=xg.extBut _ _ (Nat.ne_of_gt lz) (xf.extBut _ _ (Nat.ne_of_gt lz) (UG _ rfl))
 have tf1:S1 (i+1) hg:=Draws.but D1 up Z.z1 (Draws.but D1 xe.extBut Z.o1 (Draws.but D1 xd.extBut Z.j1 (Draws.but D1 xc.extBut Z.o1 tb)))
 have tf2:S2 (i+1) hg:=Draws.but D2 up Z.z2 (Draws.but D2 xe.extBut Z.o2 td)
 show Q (.ref he.objs.size) _
 rw[sz] at zg pn ⊢
 exact hQ x y hg tk2 p1 p2 zg (up _ _ Z.TOz oe) tf1 tf2 pn fun c o c1 c2 c3 c4 e=>up c o c1 (xe.extBut _ _ c2 (xd.extBut _ _ c4 (xc.extBut _ _ c2 (xb.extBut _ _ c3 (xa.extBut _ _ c1 e)))))
theorem Xax{a b:Value}{Q:Fin→Shared→Prop}(D1:Draws prog w A i1 fp1 n1 P1 S1)(D2:Draws prog w A i2 fp2 n2 P2 S2)(Z:ZAp z TI TO i1 i2 fp1 fp2)(hz:IsZip s.heap z TI TO .none)(hTI:IsPair s.heap TI (.ref i1) (.ref i2))(hTO:IsPair s.heap TO a b)(l:i=n1∨(i<n1∧i=n2))(t1:S1 i s.heap)(t2:S2 i s.heap)
  (hE:∀ h' e tk,(∀ c o,c≠z→c≠TO→c≠i1→c≠i2→s.heap.get? c=some o→h'.get? c=some o)→(∃ o,h'.get? e=some o∧o.cls = .type "StopIteration")→E (.ref e) {s with heap:=h',toks:=tk}) :
  wpAny (model prog w) A (Builtin.«zip.__next__» ⟨[.ref z],[]⟩) Q E s:=by
 show wpAny _ _ (field (.ref z) 2 >>= _) _ _ _
 refine wpAny_bind (wpAny_field hz rfl (x := .bool false) rfl ?_)
 show wpAny _ _ (field (.ref z) 3 >>= _) _ _ _
 refine wpAny_bind (wpAny_field hz rfl (x := .ref TI) rfl (wpAny_bind (wpAny_seqItems hTI rfl ?_)))
 show wpAny _ _ (Builtin.SmallTypes.ownedTupleIsFree (.ref z) >>= _) _ _ _
 refine wpAny_bind ?_
 unfold Builtin.SmallTypes.ownedTupleIsFree
 refine wpAny_bind (wpAny_field hz rfl (x := .none) rfl (wpAny_pure ?_))
 simp only[if_true]
 refine wpAny_bind (wpAny_rule (wpAny_bind (wpAny_field hz rfl (x := .ref TO) rfl (wpAny_bind (wpAny_setField_rec hz (by simp) fun ha za xa=>?_)))))
 replace za:IsZip ha z TI TO .ellipsis:=za
 refine wpAny_bind ?_
 simp only[List.zipIdx_cons,List.zipIdx_nil,List.forIn_cons,List.forIn_nil]
 refine wpAny_bind (wpAny_bind (wpAny_onRaise ?_))
 show wpAny _ _ (Builtin.SmallTypes.nextOf (.ref i1) >>= _) _ _ _
 rcases l with rfl | ⟨l1,rfl⟩
 ·refine wpAny_bind (D1.done _ _ _ (Draws.but D1 xa.extBut Z.z1 t1) fun hb e xb he=>?_)
  obtain⟨oe,ge,ce⟩:=he
  have zb:IsZip hb z TI TO .ellipsis:=xb _ _ Z.i1z.symm za
  have ez:e≠z:=fun x=>by subst x;rw[zb] at ge;cases ge;simp at ce
  exact wpAny_setField_rec zb (by simp) fun hc _ xc=>hE hc e s.toks (fun c o c1 _ c3 _ g=>xc.extBut _ _ c1 (xb _ _ c3 (xa.extBut _ _ c1 g))) ⟨oe,xc.extBut _ _ ez ge,ce⟩
 ·refine wpAny_bind (D1.item i _ _ _ l1 (Draws.but D1 xa.extBut Z.z1 t1) fun x hb tk1 p1 tb xb=>wpAny_pure ?_)
  have ob:IsPair hb TO a b:=xb.extBut _ _ Z.TOi1 (xa.extBut _ _ Z.TOz hTO)
  refine wpAny_bind (wpAny_seqItems ob rfl (wpAny_bind (wpAny_updateSeq_pair ob fun hc oc xc=>?_)))
  refine wpAny_bind (wpAny_letGo (wpAny_pure ?_))
  refine wpAny_bind (wpAny_bind (wpAny_onRaise ?_))
  show wpAny _ _ (Builtin.SmallTypes.nextOf (.ref i2) >>= _) _ _ _
  refine wpAny_bind (D2.done _ _ _ (Draws.but D2 xc.extBut Z.o2 (Draws.but D2 xb.extBut Z.j2 (Draws.but D2 xa.extBut Z.z2 t2))) fun hd e xd he=>?_)
  obtain⟨oe,ge,ce⟩:=he
  have zd:IsZip hd z TI TO .ellipsis:=xd _ _ Z.i2z.symm (xc.extBut _ _ Z.TOz.symm (xb.extBut _ _ Z.i1z.symm za))
  have ez:e≠z:=fun x=>by subst x;rw[zd] at ge;cases ge;simp at ce
  exact wpAny_setField_rec zd (by simp) fun hf _ xf=>hE hf e tk1 (fun c o c1 c2 c3 c4 g=>xf.extBut _ _ c1 (xd _ _ c4 (xc.extBut _ _ c2 (xb.extBut _ _ c3 (xa.extBut _ _ c1 g))))) ⟨oe,xf.extBut _ _ ez ge,ce⟩
theorem Zng{a b:Value}{Q:Option Value→Shared→Prop}(D1:Draws prog w A.in1 i1 fp1 n1 P1 S1)(D2:Draws prog w A.in1 i2 fp2 n2 P2 S2)(Z:ZAp z TI TO i1 i2 fp1 fp2)(hz:IsZip s.heap z TI TO .none)(hTI:IsPair s.heap TI (.ref i1) (.ref i2))(hTO:IsPair s.heap TO a b)(l1:i<n1)(l2:i<n2)(t1:S1 i s.heap)(t2:S2 i s.heap)
  (hQ:∀ x y h' tk,P1 i x→P2 i y→IsZip h' z TI TO (rawInt s.heap.objs.size)→IsPair h' TO x y→S1 (i+1) h'→S2 (i+1) h'→IsPair h' s.heap.objs.size x y→(∀ c o,c≠z→c≠TO→c≠i1→c≠i2→s.heap.get? c=some o→h'.get? c=some o)→Q (some (.ref s.heap.objs.size)) {s with heap:=h',toks:=tk}) :
  wpAny (model prog w) A (pyNext (.ref z)) Q E s:=by
 have hT:s.TypeIs (.ref z) "zip":=⟨_,hz,rfl⟩
 unfold pyNext
 exact wpAny_bind (wpAny_attempt (wpAny_callSpecial?_slot (name:=Str.ofString "__next__") hT F.slot_zip_next (wpAny_call_entry F.slot_zip_next hT F.entry_zip_next (Zyl D1 D2 Z hz hTI hTO l1 l2 t1 t2 fun x y h' tk a1 a2 a3 a4 a5 a6 a7 a8=>wpAny_pure (hQ x y h' tk a1 a2 a3 a4 a5 a6 a7 a8)) (F.args_zip_next_1 _))))
theorem Zpd{a b:Value}{Q:Option Value→Shared→Prop}(D1:Draws prog w A.in1 i1 fp1 n1 P1 S1)(D2:Draws prog w A.in1 i2 fp2 n2 P2 S2)(Z:ZAp z TI TO i1 i2 fp1 fp2)(hz:IsZip s.heap z TI TO .none)(hTI:IsPair s.heap TI (.ref i1) (.ref i2))(hTO:IsPair s.heap TO a b)(l:i=n1∨(i<n1∧i=n2))(t1:S1 i s.heap)(t2:S2 i s.heap)
  (hQ:∀ h' tk,(∀ c o,c≠z→c≠TO→c≠i1→c≠i2→s.heap.get? c=some o→h'.get? c=some o)→Q none {s with heap:=h',toks:=tk}) :
  wpAny (model prog w) A (pyNext (.ref z)) Q E s:=by
 have hT:s.TypeIs (.ref z) "zip":=⟨_,hz,rfl⟩
 unfold pyNext
 refine wpAny_bind (wpAny_attempt (wpAny_callSpecial?_slot (name:=Str.ofString "__next__") hT F.slot_zip_next (wpAny_call_entry F.slot_zip_next hT F.entry_zip_next (Xax D1 D2 Z hz hTI hTO l t1 t2 fun h' e tk hk he=>?_) (F.args_zip_next_1 _))))
 obtain⟨o,ho,hc⟩:=he
 exact wpAny_bind (wpAny_isInstance (T:="StopIteration") (b:=true) ⟨o,ho,hc⟩ isSubtype_stop (wpAny_pure (hQ _ _ hk)))
end
theorem zapLT{n a b:Nat}(h1:a<n)(h2:b<n):ZAp (n+4) (n+2) (n+3) n (n+1) [n,a] [n+1,b]:=by
 have nm:∀ {x y z:Nat},x≠y→x≠z→x∉[y,z]:=fun e1 e2 h=>by
  rcases Um.mp h with h | h
  ·exact e1 h
  ·exact e2 (UD.mp h)
 refine⟨?_,?_,?_,?_,?_,?_,?_,?_,?_,nm ?_ ?_,nm ?_ ?_,nm ?_ ?_,nm ?_ ?_,nm ?_ ?_,nm ?_ ?_⟩<;>(show (_:Nat)≠_;omega)
section
variable {prog:Program} {w:World} {A:Around} {E:Value→Shared→Prop} {s:Shared}
noncomputable abbrev zlt1(h:Heap)(a:Addr):Heap:=h.push {cls := .type "list_iterator",data := .fields #[.ref a,.int 0 0]}
noncomputable abbrev zlt2(h:Heap)(a b:Addr):Heap:=(zlt1 h a).push {cls := .type "tuple_iterator",data := .fields #[.ref b,.int 0 0]}
noncomputable abbrev zlt3(h:Heap)(a b:Addr):Heap:=(zlt2 h a b).push {cls := .type "tuple",data := .seq #[.ref h.objs.size,.ref (zlt1 h a).objs.size]}
noncomputable abbrev zlt4(h:Heap)(a b:Addr):Heap:=(zlt3 h a b).push {cls := .type "tuple",data := .seq #[.none,.none]}
noncomputable abbrev zlt5(h:Heap)(a b:Addr):Heap:=(zlt4 h a b).push {cls := .type "zip",data := .fields #[.none,.bool false,.bool false,.ref (zlt2 h a b).objs.size,.ref (zlt3 h a b).objs.size]}
theorem Zym(a b:Addr)(xs ys:Array Value) :
  Meets (Builtin.«zip.__new__» ⟨[.type "zip",.ref a,.ref b],[]⟩) (fun _ R s=>s.heap.IsList a xs∧s.heap.IsTuple b ys∧R (.ok (.ret (.ref (zlt4 s.heap a b).objs.size))) {s with heap:=zlt5 s.heap a b}) :=
 .of_wp fun prog w A R s h=>by
  obtain⟨hp,g,d,tk,os⟩:=s
  obtain⟨e1,e2,h⟩:=h
  have hsub:=sub_zip
  have m1:Heap.IsList (Shared.heap ⟨hp,g,d,tk,os⟩) a xs:=e1
  have m2:Heap.IsTuple (Shared.heap ⟨hp.push {cls := .type "list_iterator",data := .fields #[.ref a,.int 0 0]},g,d,tk,os⟩) b ys:=Heap.IsTuple.push e2 _
  wp_walk using wpAny_pyIter_list m1,wpAny_pyIter_tuple m2
  exact⟨_,rfl,h⟩
theorem Zyc{a b:Addr}{xs ys:Array Value}{Q:Value→Shared→Prop}(e1:s.heap.IsList a xs)(e2:s.heap.IsTuple b ys)
  (h:∀ h',IsZip h' (s.heap.objs.size+4) (s.heap.objs.size+2) (s.heap.objs.size+3) .none→IsPair h' (s.heap.objs.size+2) (.ref s.heap.objs.size) (.ref (s.heap.objs.size+1))→IsPair h' (s.heap.objs.size+3) .none .none→h'.IsListIter s.heap.objs.size a 0→h'.IsTupleIter (s.heap.objs.size+1) b 0→(∀ c o,s.heap.get? c=some o→h'.get? c=some o)→Q (.ref (s.heap.objs.size+4)) {s with heap:=h'}) :
  wpAny (model prog w) A (call (.type "zip") [.ref a,.ref b]) Q E s:=by
 refine callType_new F.called_zip (by decide) (F.typeCall_zip_2 _ _) (F.newCall_zip_2 _ _) (fun obj=>F.args_object_init_3 obj _ _) F.entry_zip_new (Zym a b xs ys) ⟨e1,e2,?_⟩
 have up:∀ {h:Heap} {c o o'},h.get? c=some o→(h.push o').get? c=some o:=fun e=>Us _ e
 have s1:(zlt1 s.heap a).objs.size=s.heap.objs.size+1:=Heap.size_push ..
 have s2:(zlt2 s.heap a b).objs.size=s.heap.objs.size+2:=by rw[Heap.size_push,s1]
 have s3:(zlt3 s.heap a b).objs.size=s.heap.objs.size+3:=by rw[Heap.size_push,s2]
 have s4:(zlt4 s.heap a b).objs.size=s.heap.objs.size+4:=by rw[Heap.size_push,s3]
 have g5:(zlt5 s.heap a b).get? (zlt4 s.heap a b).objs.size=some _:=UG _ rfl
 have g4:(zlt5 s.heap a b).get? (zlt3 s.heap a b).objs.size=some _:=up (UG _ rfl)
 have g3:(zlt5 s.heap a b).get? (zlt2 s.heap a b).objs.size=some _:=up (up (UG _ rfl))
 have g2:(zlt5 s.heap a b).get? (zlt1 s.heap a).objs.size=some _:=up (up (up (UG _ rfl)))
 have g1:(zlt5 s.heap a b).get? s.heap.objs.size=some _:=up (up (up (up (UG _ rfl))))
 show _∧_
 rw[s2,s3,s4] at g5
 rw[s3] at g4
 rw[s1,s2] at g3
 rw[s1] at g2
 rw[s4]
 exact⟨⟨_,g5,rfl⟩,h _ g5 g3 g4 ⟨_,g1,rfl,rfl⟩ ⟨_,g2,rfl,rfl⟩ fun c o e=>up (up (up (up (up e))))⟩
end
noncomputable def ItzT(K:Ua)(a b:Addr)(xs ys:List V):It :=
 ⟨fun i H=>SqL K H a xs∧SqT K H b ys∧i<min xs.length ys.length,fun i H x H'=>∃ (T:Addr) (u v:V),H T=none∧xs[i]?=some u∧ys[i]?=some v∧x = .ref T∧H'=upd H T (.tup [u,v]),fun i H=>SqL K H a xs∧SqT K H b ys∧min xs.length ys.length≤i⟩
theorem Zw{h:Heap}{a:Addr}{xs:Array Value}(x:IsTup h a xs):h.IsTuple a xs:=x
theorem Zts{P:Program}{w:World}{K:Ua}{elts:List Expr}{k:Nat}{pos:Pos}(a b z TI TO i1 i2:Addr)(xs ys:List V)(n1:a≠i1)(n2:b≠i2)(D:ZAp z TI TO i1 i2 [i1,a] [i2,b]) :
  Turn P w K (.Tuple elts k pos) (ItzT K a b xs ys) [z,TI,TO,i1,i2] z (fun i h=>i≤min xs.length ys.length∧IsZip h z TI TO .none∧IsPair h TI (.ref i1) (.ref i2)∧(∃ a b,IsPair h TO a b)∧h.IsListIter i1 a i∧h.IsTupleIter i2 b i) where
 mem:=by simp
 obj:=fun i h st c hc=>by
  obtain⟨_,st1,st2,⟨p,q,st3⟩,st4,st5⟩:=st
  rcases Um.mp hc with e | hc
  ·subst e;exact⟨_,st1,fun v z=>by cases z⟩
  rcases Um.mp hc with e | hc
  ·subst e;exact⟨_,st2,fun v z=>by cases z⟩
  rcases Um.mp hc with e | hc
  ·subst e;exact⟨_,st3,fun v z=>by cases z⟩
  rcases Um.mp hc with e | hc
  ·subst e
   obtain⟨o,e,c,d⟩:=st4
   exact⟨o,e,fun v z=>by rw[d] at z;cases z⟩
  ·obtain rfl:=UD.mp hc
   obtain⟨o,e,c,d⟩:=st5
   exact⟨o,e,fun v z=>by rw[d] at z;cases z⟩
 keep:=fun i h h' st k=>by
  obtain⟨hi,st1,st2,⟨p,q,st3⟩,st4,st5⟩:=st
  exact⟨hi,k z (by simp) _ st1,k TI (by simp) _ st2,⟨p,q,k TO (by simp) _ st3⟩,st4.at fun o e=>k i1 (by simp) o e,tupIterAt st5 fun o e=>k i2 (by simp) o e⟩
 item:=by
  intro X hP hw hK hc i pins s σ H E I hf st hg
  subst hP hw hK
  obtain⟨hq1,hq2,hi⟩:=hg
  obtain⟨its1,rv1,p1,hz1⟩:=I.list hq1
  obtain⟨its2,rv2,p2,hz2⟩:=I.tuple hq2
  have hlen1:=rv1.length
  have hlen2:=rv2.length
  obtain⟨_,st1,st2,⟨pa,pb,st3⟩,st4,st5⟩:=st
  have hh:=I.ok.hd hc
  refine Zng (i:=i) (Draws.list (A:=X.A.in1) hh i1 a n1 its1.toArray) (Draws.tup (A:=X.A.in1) hh i2 b n2 its2.toArray) D st1 st2 st3 (by rw[Uu];omega) (by rw[Uu];omega) ⟨st4,p1.isList⟩ ⟨st5,Zw p2⟩ fun u1 u2 h' tk hu1 hu2 c1 c2 c3 c4 c5 kk=>?_
  refine⟨_,rfl,wpAny_letOwnedTupleGo_zip c1 fun h'' c1' xs'=>?_⟩
  have hu1':its1[i]?=some u1:=by simpa using hu1
  have hu2':its2[i]?=some u2:=by simpa using hu2
  have hy1:xs[i]?=some (xs[i]'(by omega)):=Ui _
  have hy2:ys[i]?=some (ys[i]'(by omega)):=Ui _
  obtain⟨v1,hv1,ru1⟩:=rv1.get hy1
  obtain⟨v2,hv2,ru2⟩:=rv2.get hy2
  rw[hu1'] at hv1;cases hv1
  rw[hu2'] at hv2;cases hv2
  have hT:s.heap.objs.size≤s.heap.objs.size:=Up _
  have hTf:=I.hok.fresh hT
  have lt:∀ {c o},s.heap.get? c=some o→c≠s.heap.objs.size:=fun e=>UR (UL e)
  have nT2:∀ c∈[z,TI,TO,i1,i2],c≠s.heap.objs.size:=fun c hcm=>by
   rcases Um.mp hcm with e | hcm
   ·rw[e];exact lt st1
   rcases Um.mp hcm with e | hcm
   ·rw[e];exact lt st2
   rcases Um.mp hcm with e | hcm
   ·rw[e];exact lt st3
   rcases Um.mp hcm with e | hcm
   ·rw[e];obtain⟨o,e,_⟩:=st4;exact lt e
   ·rw[UD.mp hcm];obtain⟨o,e,_⟩:=st5;exact lt e
  have kz:Heap.ExtBut z h' h'':=xs'.extBut
  refine⟨.ref s.heap.objs.size,upd H s.heap.objs.size (.tup [xs[i]'(by omega),ys[i]'(by omega)]),?_,rfl,⟨_,_,_,hTf,hy1,hy2,rfl,rfl⟩,⟨by omega,c1',kz _ _ D.TIz (kk _ _ D.TIz D.TITO D.TIi1 D.TIi2 st2),⟨_,_,kz _ _ D.TOz c2⟩,c3.1.extBut kz D.i1z,c4.1.extBut kz D.i2z⟩,fun c hcm=>?_⟩
  ·refine I.turnedNew (ch:=[z,TO,i1,i2]) (t':=tk) (fun c o hcn ec=>?_) (fun c hcm=>hf c ?_) hT ?_
   ·have nn:∀ {d:Addr},d∈[z,TO,i1,i2]→c≠d:=fun hd e=>hcn (e ▸ hd)
    exact kz c o (nn (by simp)) (kk c o (nn (by simp)) (nn (by simp)) (nn (by simp)) (nn (by simp)) ec)
   ·rcases Um.mp hcm with e | hcm
    ·rw[e];simp
    ·exact Ul _ (Ul _ hcm)
   ·refine⟨by show 2≤sizeLine;decide,[u1,u2],.cons ru1 (.cons ru2 .nil),?_⟩
    exact⟨_,kz _ _ (nT2 z (by simp)).symm c5,rfl,_,rfl⟩
  ·rw[Zn (nT2 c hcm)]
   exact(hf c hcm).1
 done:=by
  intro X hP hw hK hc i pins s σ H E I hf st hg
  subst hP hw hK
  obtain⟨hq1,hq2,hi⟩:=hg
  obtain⟨its1,rv1,p1,hz1⟩:=I.list hq1
  obtain⟨its2,rv2,p2,hz2⟩:=I.tuple hq2
  have hlen1:=rv1.length
  have hlen2:=rv2.length
  obtain⟨hle,st1,st2,⟨pa,pb,st3⟩,st4,st5⟩:=st
  have hh:=I.ok.hd hc
  refine Zpd (i:=i) (Draws.list (A:=X.A.in1) hh i1 a n1 its1.toArray) (Draws.tup (A:=X.A.in1) hh i2 b n2 its2.toArray) D st1 st2 st3 (by rw[Uu,Uu];omega) ⟨st4,p1.isList⟩ ⟨st5,Zw p2⟩ fun h' tk kk=>⟨rfl,I.turnedL (ch:=[z,TO,i1,i2]) (t':=tk) (fun c o hcn ec=>?_) fun c hcm=>hf c ?_⟩
  ·have nn:∀ {d:Addr},d∈[z,TO,i1,i2]→c≠d:=fun hd e=>hcn (e ▸ hd)
   exact kk c o (nn (by simp)) (nn (by simp)) (nn (by simp)) (nn (by simp)) ec
  ·rcases Um.mp hcm with e | hcm
   ·rw[e];simp
   ·exact Ul _ (Ul _ hcm)
 self:=fun A i s Q E st h=>wpAny_pyIter_zip st.2.1 h
section
variable {X:Cx}
def iZipT(K:Ua)(ta:TA):TI:=fun σ H R=>ta σ H fun vs H1=>∃ a b xs ys,vs=[.ref a,.ref b]∧SqL K H1 a xs∧SqT K H1 b ys∧R (ItzT K a b xs ys) H1
theorem Ztb{l m:Expr}{ta:TA}{p pos:Pos}{elts:List Expr}{k:Nat}{tpos:Pos}(hg:Gl X "zip")(hm:X.mg "zip"=none)(ha:PA X [l,m] ta)(hs:starEach [l,m] X.env=[(false,eval l X.env),(false,eval m X.env)]:=by rfl)(hs2:starEach [m] X.env=[(false,eval m X.env)]:=by rfl) :
  PI X (.Tuple elts k tpos) (.Call (.Name "zip" p) [l,m] [] pos) (iZipT X.K ta):=by
 intro pins s σ H R I h
 refine Call_ (Zbu I hg hm boot_zip (PyProof.Rows.callWith_type1 (thn (ha pos pins s σ H (fun vs H1=>∃ a b xs ys,vs=[.ref a,.ref b]∧SqL X.K H1 a xs∧SqT X.K H1 b ys∧R (ItzT X.K a b xs ys) H1) I h) fun us s1 ⟨vs,H1,I1,r1,q1⟩=>?_) (by rw[hs,hs2]) (by rw[hs2];rfl)))
 obtain⟨a,b,xs,ys,rfl,hq1,hq2,q⟩:=q1
 obtain⟨u1,u2,rfl,ru1,ru2⟩:=vals2 r1
 obtain rfl:u1=Value.ref a:=ru1
 obtain rfl:u2=Value.ref b:=ru2
 obtain⟨its1,rv1,p1,hz1⟩:=I1.list hq1
 obtain⟨its2,rv2,p2,hz2⟩:=I1.tuple hq2
 have l1:a<s1.heap.objs.size:=by obtain⟨o,ho,_⟩:=p1.isList;exact UL ho
 have l2:b<s1.heap.objs.size:=by obtain⟨o,ho,_⟩:=Zw p2;exact UL ho
 refine Zyc p1.isList (Zw p2) fun h' z1 z2 z3 z4 z5 kk=>?_
 have I2:Inv X pins σ H1 {s1 with heap:=h'}:=I1.kept (t':=s1.toks) kk
 refine wpAny_pyIter_zip z1 ?_
 refine⟨_,_,_,_,H1,rfl,I2,Zts a b _ _ _ _ _ xs ys (UR l1) (UR (Nat.lt_succ_of_lt l2)) (zapLT l1 l2),⟨UF _,z1,z2,⟨_,_,z3⟩,z4,z5⟩,fun c hc=>?_,q⟩
 have hcl:s1.heap.objs.size≤c:=by
  rcases Um.mp hc with e | hc
  ·rw[e];exact Nat.le_add_right ..
  rcases Um.mp hc with e | hc
  ·rw[e];exact Nat.le_add_right ..
  rcases Um.mp hc with e | hc
  ·rw[e];exact Nat.le_add_right ..
  rcases Um.mp hc with e | hc
  ·rw[e];exact Up _
  ·rw[UD.mp hc];exact Nat.le_succ _
 exact I1.fpOk hcl (I1.hok.fresh hcl)
end
theorem Zmy{K:Ua}{a b:Addr}{xs ys:List V}{g:TG}{te:TE}{Q:VK}{H:Hp}{D:Addr}{σ0:St}(fe:Nat→V)(S:St→Prop)(hz:min xs.length ys.length≤100000)(h0:S σ0)(hD:H D=none)(hl1:SqL K H a xs)(hl2:SqT K H b ys)
  (ht:∀ i x y,xs[i]?=some x→ys[i]?=some y→∀ σ1 H1 T,S σ1→Same H H1→H1 T=none→∀ R:St→V→Hp→Prop,(∀ σ2 H3,S σ2→Same (upd H1 T (.tup [x,y])) H3→R σ2 (fe i) H3)→g (.ref T) σ1 (upd H1 T (.tup [x,y])) fun σ2 H2=>te σ2 H2 fun z H3=>R σ2 z H3)
  (hq:∀ H':Hp,Same H H'→H' D=some (.lst ((List.range (min xs.length ys.length)).map fe))→Q (.ref D) H') :
  CompGo (ItzT K a b xs ys) g tYes te Q σ0 H D:=by
 refine⟨fun i m σ1 H2=>i≤min xs.length ys.length∧m=min xs.length ys.length - i∧S σ1∧Same H H2∧H2 D=some (.lst ((List.range i).map fe)),⟨min xs.length ys.length,UF _,rfl,h0,Zq hD,Zb⟩,?_⟩
 rintro i m σ1 H2 ⟨h1,rfl,h2,hs,hDv⟩
 have q1:=hs.seq hl1
 have q2:SqT K H2 b ys:=hl2.elim (fun e => .inl (e.elim (fun e => .inl (hs _ _ e)) fun⟨o,e⟩ => .inr ⟨o,hs _ _ e⟩)) .inr
 rcases UZ i (min xs.length ys.length) with z | z
 ·refine .inr ⟨⟨q1,q2,z⟩,?_⟩
  rintro x H3 ⟨T,u,v,hT,hu,hv,rfl,rfl⟩
  refine ht i u v hu hv σ1 H2 T h2 hs hT (fun σ2 y H6=>∃ zs m',H6 D=some (.lst zs)∧zs.length<sizeLine∧m'<min xs.length ys.length - i∧(i+1≤min xs.length ys.length∧m'=min xs.length ys.length - (i+1)∧S σ2∧Same H (upd H6 D (.lst (zs++[y])))∧upd H6 D (.lst (zs++[y])) D=some (.lst ((List.range (i+1)).map fe)))) fun σ2 H6 q3 hs6=>?_
  have nDT:D≠T:=fun e=>by rw[e,hT] at hDv;cases hDv
  refine⟨(List.range i).map fe,min xs.length ys.length - (i+1),hs6 _ _ (by rw[Zn nDT];exact hDv),?_,by omega,by omega,rfl,q3,?_,?_⟩
  ·rw[Uj,Vb]
   exact UA (show i<100000 by omega) (by decide)
  ·intro c o e
   rw[Zn (Xa e hD)]
   refine hs6 c o ?_
   rw[Zn (fun e'=>by rw[e',hs.free hT] at e;cases e)]
   exact hs c o e
  ·rw[Zb,List.range_succ,UE];rfl
 ·have e:i=min xs.length ys.length:=by omega
  subst e
  exact .inl ⟨⟨q1,q2,Up _⟩,hq H2 hs hDv⟩
noncomputable def inD(ns:List Str):D→Bool
 | .str s=>ns.any fun n=>n == s
 | _=>false
noncomputable def eqD(d:D)(u:Value):Bool:=match u with
 | .str n _=>(match d with | .str s=>n == s | _=>false)
 | _=>false
theorem Ztr(d:D):∀ {ns:List Str} {us:List Value},Vals (ns.map V.str) us→us.any (eqD d)=inD ns d
 | [],us,h=>by cases h;cases d<;>rfl
 | n::ns,us,h=>by
  obtain⟨u,r,rfl,⟨t,rfl⟩,hr⟩:∃ u r,us=u::r∧RelV (.str n) u∧Vals (ns.map V.str) r:=by cases h with | cons a b=>exact⟨_,_,rfl,a,b⟩
  rw[List.any_cons,Ztr d hr]
  cases d<;>rfl
theorem Zqm{u:Value}:∀ {ns:List Str} {us:List Value},Vals (ns.map V.str) us→u∈us→∃ n t,u = .str n t
 | [],us,h,hu=>by cases h;cases hu
 | n::ns,us,h,hu=>by
  obtain⟨v,r,rfl,⟨t,rfl⟩,hr⟩:∃ u r,us=u::r∧RelV (.str n) u∧Vals (ns.map V.str) r:=by cases h with | cons a b=>exact⟨_,_,rfl,a,b⟩
  rcases Um.mp hu with rfl | hu
  ·exact⟨n,t,rfl⟩
  ·exact Zqm hr hu
section
variable {X:Cx}
theorem Zuk(hu:X.A.units+64<cLine):OpR X (compareOp .NotIn) (fun x y H Q=>∃ p ns d,y = .ref p∧SqL X.K H p (ns.map V.str)∧DAt H d x∧Q (.bl (!inD ns d)) H):=by
 intro pins s σ H x y v u Q I rx ry h
 obtain⟨p,ns,d,rfl,hq,hd,q⟩:=h
 cases ry
 obtain⟨its,r,pl,hz⟩:=I.list hq
 have hu1:X.A.in1.units<cLine:=by show X.A.units+1<cLine;omega
 refine SeqAt.notIn_listAt (eqD d) pl.isList (fun w hw=>?_) ⟨.bl _,H,I,rfl,?_⟩
 ·obtain⟨n,t,rfl⟩:=Zqm r (by simpa using hw)
  cases d with
  | non=>obtain rfl:x = .non:=hd;cases rx;exact SeqAt.EqAt.str_none n t
  | bl b=>obtain rfl:x = .bl b:=hd;cases rx;exact SeqAt.EqAt.str_bool n t b
  | int i=>obtain rfl:x = .int i:=hd;obtain⟨t',rfl⟩:=rx;exact SeqAt.EqAt.str_int n t i t'
  | str z=>obtain⟨rfl,_⟩:=hd;obtain⟨t',rfl⟩:=rx;exact SeqAt.EqAt.str_str n t z t'
  | tup ds =>
   obtain⟨a,vs,rfl,e,_⟩:=hd
   cases rx
   obtain⟨its',r',p',_⟩:=I.tuple (SqT.of e)
   exact SeqAt.EqAt.str_tuple n t (Zw p') hu1
  | lst ds =>
   obtain⟨a,vs,rfl,e,_⟩:=hd
   cases rx
   obtain⟨its',r',p',_⟩:=I.list (SqL.of e)
   exact SeqAt.EqAt.str_list n t p'.isList hu1
 ·rw[show its.toArray.any (eqD d)=its.any (eqD d) by simp,Ztr d r]
  exact q
end
theorem Yq{f:Fm}{k:Fin 4}(h:slot f = .b k):f = .bare k:=by
 cases f with
 | bare j=>injection h with h;rw[h]
 | sp a b=>cases h
 | le s=>cases h
 | one j f=>cases h
 | two j ns fs=>cases h
theorem Znm{f:Fm}(h:slot f = .s):∃ a b,f = .sp a b:=by
 cases f with
 | sp a b=>exact⟨a,b,rfl⟩
 | bare j=>cases h
 | le s=>cases h
 | one j f=>cases h
 | two j ns fs=>cases h
theorem Znn{f:Fm}(h:slot f = .l):∃ s,f = .le s:=by
 cases f with
 | le s=>exact⟨s,rfl⟩
 | sp a b=>cases h
 | bare j=>cases h
 | one j f=>cases h
 | two j ns fs=>cases h
theorem Jl{f:Fm}{k:Fin 3}(h:slot f = .o k):∃ g,f = .one k g:=by
 cases f with
 | one j g=>injection h with h;rw[h];exact⟨g,rfl⟩
 | sp a b=>cases h
 | bare j=>cases h
 | le s=>cases h
 | two j ns fs=>cases h
theorem Zbx{f:Fm}{k:Fin 2}(h:slot f = .t k):∃ ns fs,f = .two k ns fs:=by
 cases f with
 | two j ns fs=>injection h with h;rw[h];exact⟨ns,fs,rfl⟩
 | sp a b=>cases h
 | bare j=>cases h
 | le s=>cases h
 | one j f=>cases h
theorem FsAt.get{c:FC}{X:List Addr}{H:Hp}:∀ (fs:List Fm) {os:List Addr} {i:Nat} {o:Addr},FsAt c X H fs os→os[i]?=some o→∃ f,fs[i]?=some f∧FAt c X H f o
 | [],os,i,o,h,e=>by
  obtain rfl:os=[]:=h
  cases e
 | f::fs,os,0,o,h,e=>by
  obtain⟨o',r,rfl,q,q2⟩:=h
  cases e
  exact⟨f,rfl,q⟩
 | f::fs,os,i+1,o,h,e=>by
  obtain⟨o',r,rfl,q,q2⟩:=h
  exact FsAt.get fs q2 e
theorem Zko:∀ {fs:List Fm} {i:Nat} {f:Fm},okFs fs→fs[i]?=some f→okF f∧ht f≤hts fs
 | [],i,f,h,e=>by cases e
 | g::fs,0,f,h,e=>by
  cases e
  rw[okFs] at h
  rw[hts]
  exact⟨h.1,Nat.le_max_left ..⟩
 | g::fs,i+1,f,h,e=>by
  rw[okFs] at h
  have:=Zko h.2 e
  rw[hts]
  exact⟨this.1,UC this.2 (Nat.le_max_right ..)⟩
theorem fin4:∀ k:Fin 4,k=0∨k=1∨k=2∨k=3:=by decide
theorem fin3:∀ k:Fin 3,k=0∨k=1∨k=2:=by decide
theorem fin2:∀ k:Fin 2,k=0∨k=1:=by decide
section
variable {P:Program} {w:World} {K:Ua} {mg:Str→Option Value} {base:Heap}
structure MethAt(K:Ua)(C:Addr)(m qual:Str)(st:Stmt)(ps:List Str):Prop where
 ex:∃ f fd,Fun K m qual st f fd∧Binds K fd ps []∧Meth K C m f
 cl:Cls K C
theorem Zht{C:Addr}{m qual:Str}{st:Stmt}{ps:List Str}{k:Nat}{sp:Sp}(M:MethAt K C m qual st ps)(h:∀ vs H Q E,¬sp vs H Q E):MethOk P w K mg base k C m ps sp:=by
 obtain⟨f,fd,F,hb,hm⟩:=M.ex
 exact⟨f,fd,⟨fun vs H Q E q=>absurd q (h _ _ _ _),fun A outer s H args us vs Q E _ _ _ _ q=>absurd q (h _ _ _ _)⟩,hb,hm⟩
end
mutual
noncomputable def inS(has:Sl→Bool):Fm→Prop
 | .bare k=>has (.b k)=true
 | .sp _ _=>has .s=true
 | .le _=>has .l=true
 | .one k f=>has (.o k)=true∧inS has f
 | .two k _ fs=>has (.t k)=true∧inSs has fs
noncomputable def inSs(has:Sl→Bool):List Fm→Prop
 | []=>True
 | f::fs=>inS has f∧inSs has fs
end
def okH(has:Sl→Bool)(f:Fm):Prop:=okF f∧inS has f
def okHs(has:Sl→Bool)(fs:List Fm):Prop:=okFs fs∧inSs has fs
theorem okH.one{has:Sl→Bool}{k:Fin 3}{f:Fm}(h:okH has (.one k f)):okH has f:=by
 obtain⟨a,b⟩:=h
 rw[okF] at a
 rw[inS] at b
 exact⟨a,b.2⟩
theorem okH.two{has:Sl→Bool}{k:Fin 2}{ns:List Str}{fs:List Fm}(h:okH has (.two k ns fs)):goodNames ns=true∧ns.length=fs.length∧okHs has fs:=by
 obtain⟨a,b⟩:=h
 rw[okF] at a
 rw[inS] at b
 exact⟨a.1,a.2.1,a.2.2,b.2⟩
theorem Zqr{has:Sl→Bool}:∀ {fs:List Fm} {i:Nat} {f:Fm},inSs has fs→fs[i]?=some f→inS has f
 | [],i,f,h,e=>by cases e
 | g::fs,0,f,h,e=>by
  cases e
  rw[inSs] at h
  exact h.1
 | g::fs,i+1,f,h,e=>by
  rw[inSs] at h
  exact Zqr h.2 e
theorem okHs.get{has:Sl→Bool}{fs:List Fm}{i:Nat}{f:Fm}(h:okHs has fs)(e:fs[i]?=some f):okH has f∧ht f≤hts fs :=
 ⟨⟨(Zko h.1 e).1,Zqr h.2 e⟩,(Zko h.1 e).2⟩
end L2
end
section
namespace L2
open PySem PySem.W PySem.Spec PyProof.Rows
theorem Zxr{l:List Nat}{c i:Nat}(h:l[i]?=some c)(hk:∀ k,k<i→l[k]?≠some c):l.idxOf c=i:=by
 induction l generalizing i with
 | nil=>cases h
 | cons a r ih =>
  cases i with
  | zero=>cases h;rw[List.idxOf_cons_self]
  | succ i =>
   have ha:a≠c:=fun e=>hk 0 (by omega) (by rw[e];rfl)
   have hb:(a == c)=false:=by simpa using ha
   rw[List.idxOf_cons,hb]
   show r.idxOf c+1=i+1
   rw[ih h fun k hk' e=>hk (k+1) (by omega) e]
section
variable {X:Cx}
theorem Zfo:MtR X "str.index" (fun x xs H Q=>∃ (y:Str) (c:Nat),x = .str y∧xs=[.str ⟨#[c]⟩]∧c∈y.cps.toList∧Q (.int ((y.cps.toList.idxOf c:Nat):Int)) H):=by
 intro pins s σ H x xs v us Q I rx rv h
 obtain⟨y,c,rfl,rfl,hc,q⟩:=h
 obtain⟨t,rfl⟩:=rx
 obtain⟨u,rfl,t',rfl⟩:=rv.one
 rcases StrLaws.occ_head y ⟨#[c]⟩ 1 (Up _) with⟨_,no⟩ | ⟨i,r,ho,hat,hno⟩
 ·obtain⟨i,hi⟩:=List.getElem?_of_mem hc
  exact absurd ((StrLaws.subAt_one y c i).mpr hi) (no i)
 ·have e:=Zxr ((StrLaws.subAt_one y c i).mp hat) fun k hk z=>hno k hk ((StrLaws.subAt_one y c k).mpr z)
  rw[e] at q
  exact call_gives F.slot_str_index (typeIs_str s y t) F.entry_str_index (F.args_str_index_2 _ _) (gives_str_index y ⟨#[c]⟩ t t' i r ho) ⟨.int _,H,I.tok _,⟨_,rfl⟩,q⟩
end
end L2
end
section
namespace L2
open PySem PySem.W PySem.Spec PyProof.Rows
end L2
end
section
namespace L2
open PySem PySem.W PySem.Spec PyProof.Rows PySem.SeqAt
noncomputable def isNonD:D→Bool
 | .non=>true
 | _=>false
noncomputable def eqBl(a:Bool):D→Bool
 | .bl b=>a == b
 | .int b=>(if a then 1 else 0) == b
 | _=>false
noncomputable def eqIn(a:Int):D→Bool
 | .bl b=>a == (if b then 1 else 0)
 | .int b=>a == b
 | _=>false
noncomputable def eqSt(a:Str):D→Bool
 | .str b=>a == b
 | _=>false
noncomputable def eqTu(g:List D→Bool):D→Bool
 | .tup ds=>g ds
 | _=>false
noncomputable def eqLi(g:List D→Bool):D→Bool
 | .lst ds=>g ds
 | _=>false
mutual
noncomputable def eqDD:D→D→Bool
 | .non,d=>isNonD d
 | .bl a,d=>eqBl a d
 | .int a,d=>eqIn a d
 | .str a,d=>eqSt a d
 | .tup as,d=>eqTu (eqDs as) d
 | .lst as,d=>eqLi (eqDs as) d
noncomputable def eqDs:List D→List D→Bool
 | [],ds=>ds.isEmpty
 | a::as,ds=>match ds with | []=>false | d::ds=>eqDD a d&&eqDs as ds
end
mutual
noncomputable def dht:D→Nat
 | .non=>1
 | .bl _=>1
 | .int _=>1
 | .str _=>1
 | .tup ds=>dhts ds+1
 | .lst ds=>dhts ds+1
noncomputable def dhts:List D→Nat
 | []=>0
 | d::ds=>max (dht d) (dhts ds)
end
theorem Ztj(d:D):1≤dht d:=by cases d<;>rw[dht]<;>omega
theorem dhts_mem{d:D}{n:Nat}:∀ {ds:List D},d∈ds→dhts ds≤n→dht d≤n
 | [],h,_=>by cases h
 | e::ds,h,hn=>by
  rw[dhts] at hn
  rcases Um.mp h with rfl | h
  ·omega
  ·exact dhts_mem h (by omega)
mutual
theorem Zvg:∀ d:D,eqDD d d=true
 | .non=>by rw[eqDD];rfl
 | .bl b=>by rw[eqDD];show (b == b)=true;exact beq_self_eq_true b
 | .int b=>by rw[eqDD];show (b == b)=true;exact beq_self_eq_true b
 | .str b=>by rw[eqDD];show (b == b)=true;exact beq_self_eq_true b
 | .tup ds=>by rw[eqDD];exact Zcg ds
 | .lst ds=>by rw[eqDD];exact Zcg ds
theorem Zcg:∀ ds:List D,eqDs ds ds=true
 | []=>by rw[eqDs];rfl
 | d::ds=>by
  rw[eqDs]
  show (eqDD d d&&eqDs ds ds)=true
  rw[Zvg d,Zcg ds];rfl
end
theorem Zgv:∀ (ds es:List D),eqDs ds es=((List.range (min ds.length es.length)).all (fun j=>eqDD (ds.getD j .non) (es.getD j .non))&&ds.length == es.length)
 | [],es=>by
  rw[eqDs]
  cases es<;>simp
 | d::ds,[]=>by rw[eqDs];simp
 | d::ds,e::es=>by
  rw[eqDs]
  show (eqDD d e&&eqDs ds es)=_
  rw[Zgv ds es,Uq,Uq,Nat.succ_min_succ,List.range_succ_eq_map,List.all_cons,List.all_map]
  have e1:(ds.length+1 == es.length+1)=(ds.length == es.length):=by rw[Bool.eq_iff_iff];simp
  rw[e1,Bool.and_assoc]
  rfl
mutual
theorem DAt.inj{H:Hp}:∀ (d d':D) {v:V},DAt H d v→DAt H d' v→d=d'
 | .non,d',v,h,h'=>by
  obtain rfl:v = .non:=h
  cases d' with
  | non=>rfl
  | bl b=>cases (show V.non=V.bl b from h')
  | int b=>cases (show V.non=V.int b from h')
  | str b=>cases h'.1
  | tup ds=>obtain⟨a,vs,z,_⟩:=h';cases z
  | lst ds=>obtain⟨a,vs,z,_⟩:=h';cases z
 | .bl b,d',v,h,h'=>by
  obtain rfl:v = .bl b:=h
  cases d' with
  | non=>cases (show V.bl b=V.non from h')
  | bl c=>have z:V.bl b=V.bl c:=h';injection z with z;rw[z]
  | int c=>cases (show V.bl b=V.int c from h')
  | str c=>cases h'.1
  | tup ds=>obtain⟨a,vs,z,_⟩:=h';cases z
  | lst ds=>obtain⟨a,vs,z,_⟩:=h';cases z
 | .int b,d',v,h,h'=>by
  obtain rfl:v = .int b:=h
  cases d' with
  | non=>cases (show V.int b=V.non from h')
  | int c=>have z:V.int b=V.int c:=h';injection z with z;rw[z]
  | bl c=>cases (show V.int b=V.bl c from h')
  | str c=>cases h'.1
  | tup ds=>obtain⟨a,vs,z,_⟩:=h';cases z
  | lst ds=>obtain⟨a,vs,z,_⟩:=h';cases z
 | .str b,d',v,h,h'=>by
  obtain⟨rfl,_⟩:=h
  cases d' with
  | non=>cases (show V.str b=V.non from h')
  | int c=>cases (show V.str b=V.int c from h')
  | bl c=>cases (show V.str b=V.bl c from h')
  | str c=>have z:=h'.1;injection z with z;rw[z]
  | tup ds=>obtain⟨a,vs,z,_⟩:=h';cases z
  | lst ds=>obtain⟨a,vs,z,_⟩:=h';cases z
 | .tup ds,d',v,h,h'=>by
  obtain⟨a,vs,rfl,ea,hs,_⟩:=h
  cases d' with
  | non=>cases (show V.ref a=V.non from h')
  | int c=>cases (show V.ref a=V.int c from h')
  | bl c=>cases (show V.ref a=V.bl c from h')
  | str c=>cases h'.1
  | tup es=>obtain⟨b,ws,z,eb,hs',_⟩:=h';cases z;rw[ea] at eb;cases eb;rw[DsAt.inj ds es hs hs']
  | lst es=>obtain⟨b,ws,z,eb,hs',_⟩:=h';cases z;rw[ea] at eb;cases eb
 | .lst ds,d',v,h,h'=>by
  obtain⟨a,vs,rfl,ea,hs,_⟩:=h
  cases d' with
  | non=>cases (show V.ref a=V.non from h')
  | int c=>cases (show V.ref a=V.int c from h')
  | bl c=>cases (show V.ref a=V.bl c from h')
  | str c=>cases h'.1
  | tup es=>obtain⟨b,ws,z,eb,hs',_⟩:=h';cases z;rw[ea] at eb;cases eb
  | lst es=>obtain⟨b,ws,z,eb,hs',_⟩:=h';cases z;rw[ea] at eb;cases eb;rw[DsAt.inj ds es hs hs']
theorem DsAt.inj{H:Hp}:∀ (ds es:List D) {vs:List V},DsAt H ds vs→DsAt H es vs→ds=es
 | [],es,vs,h,h'=>by
  obtain rfl:vs=[]:=h
  cases es with
  | nil=>rfl
  | cons e es=>obtain⟨v,r,z,_⟩:=h';cases z
 | d::ds,es,vs,h,h'=>by
  obtain⟨v,r,rfl,q,q2⟩:=h
  cases es with
  | nil=>cases (show v::r=[] from h')
  | cons e es =>
   obtain⟨v',r',z,q',q2'⟩:=h'
   cases z
   rw[DAt.inj d e q q',DsAt.inj ds es q2 q2']
end
section
variable {X:Cx} {pins:List (Addr×Obj)} {σ:St} {H:Hp} {s:Shared} {A:Around} {a1 a2:Addr} {ds1 ds2:List D} {vs1 vs2:List V}
theorem Zpv{its1 its2:List Value}(r1:Vals vs1 its1)(r2:Vals vs2 its2)(h1:DsAt H ds1 vs1)(h2:DsAt H ds2 vs2)
  (he:∀ (e e2:D) (w w2:V) (x x2:Value),e∈ds1→DAt H e w→DAt H e2 w2→RelV w x→RelV w2 x2→EqAt A s x x2 (eqDD e e2)) :
  ∀ j (h1:j<its1.toArray.size) (h2:j<its2.toArray.size),EqAt A s its1.toArray[j] its2.toArray[j] (eqDD (ds1.getD j .non) (ds2.getD j .non)):=by
 intro j l1 l2
 rw[Uu] at l1 l2
 have e1:=r1.length
 have e2:=r2.length
 have g1:vs1[j]?=some (vs1[j]'(by omega)):=Ui (by omega)
 have g2:vs2[j]?=some (vs2[j]'(by omega)):=Ui (by omega)
 obtain⟨u1,hu1,ru1⟩:=r1.get g1
 obtain⟨u2,hu2,ru2⟩:=r2.get g2
 obtain⟨d1,hd1,hv1⟩:=DsAt.get ds1 h1 g1
 obtain⟨d2,hd2,hv2⟩:=DsAt.get ds2 h2 g2
 have i1:its1.toArray[j]'(by rw[Uu];exact l1)=u1:=by
  rw[List.getElem_toArray]
  rw[Ui l1] at hu1
  exact Ub hu1
 have i2:its2.toArray[j]'(by rw[Uu];exact l2)=u2:=by
  rw[List.getElem_toArray]
  rw[Ui l2] at hu2
  exact Ub hu2
 rw[i1,i2,Uk,Uk,hd1,hd2]
 exact he d1 d2 _ _ u1 u2 (Uv hd1) hv1 hv2 ru1 ru2
theorem rcT(I:Inv X pins σ H s)(hu:A.units<cLine)(e1:H a1=some (.tup vs1))(e2:H a2=some (.tup vs2))(h1:DsAt H ds1 vs1)(h2:DsAt H ds2 vs2)
  (he:∀ (e e2:D) (w w2:V) (x x2:Value),e∈ds1→DAt H e w→DAt H e2 w2→RelV w x→RelV w2 x2→EqAt A.in1 s x x2 (eqDD e e2)) :
  RcAt A s (.ref a1) (.ref a2) (eqDs ds1 ds2)∧RcNeAt A s (.ref a1) (.ref a2) (!eqDs ds1 ds2):=by
 obtain⟨its1,r1,p1,_⟩:=I.tuple (SqT.of e1)
 obtain⟨its2,r2,p2,_⟩:=I.tuple (SqT.of e2)
 have l1:its1.toArray.size=ds1.length:=by rw[Uu,← r1.length];exact DsAt.len ds1 h1
 have l2:its2.toArray.size=ds2.length:=by rw[Uu,← r2.length];exact DsAt.len ds2 h2
 have E:=Zpv r1 r2 h1 h2 he
 have A1:=RcAt.tuples (Zw p1) (Zw p2) hu E
 have A2:=RcNeAt.tuples (Zw p1) (Zw p2) hu E
 rw[l1,l2,← Zgv] at A1 A2
 exact⟨A1,A2⟩
theorem rcL(I:Inv X pins σ H s)(hu:A.units<cLine)(e1:H a1=some (.lst vs1))(e2:H a2=some (.lst vs2))(h1:DsAt H ds1 vs1)(h2:DsAt H ds2 vs2)
  (he:∀ (e e2:D) (w w2:V) (x x2:Value),e∈ds1→DAt H e w→DAt H e2 w2→RelV w x→RelV w2 x2→EqAt A.in1 s x x2 (eqDD e e2)) :
  RcAt A s (.ref a1) (.ref a2) (eqDs ds1 ds2)∧RcNeAt A s (.ref a1) (.ref a2) (!eqDs ds1 ds2):=by
 obtain⟨its1,r1,p1,_⟩:=I.list (SqL.of e1)
 obtain⟨its2,r2,p2,_⟩:=I.list (SqL.of e2)
 have l1:its1.toArray.size=ds1.length:=by rw[Uu,← r1.length];exact DsAt.len ds1 h1
 have l2:its2.toArray.size=ds2.length:=by rw[Uu,← r2.length];exact DsAt.len ds2 h2
 have E:=Zpv r1 r2 h1 h2 he
 by_cases z:ds1.length=ds2.length
 ·have A1:=RcAt.lists p1.isList p2.isList (by rw[l1,l2,z]) hu E
  have A2:=RcNeAt.lists p1.isList p2.isList (by rw[l1,l2,z]) hu E
  have G:=Zgv ds1 ds2
  rw[z,Nat.min_self,beq_self_eq_true,Bool.and_true] at G
  rw[l1,z,← G] at A1 A2
  exact⟨A1,A2⟩
 ·have G:=Zgv ds1 ds2
  rw[beq_false_of_ne z,Bool.and_false] at G
  rw[G]
  have hne:(its1.toArray.size != its2.toArray.size)=true:=by rw[l1,l2];simpa using z
  exact⟨RcAt.lists_lengths p1.isList p2.isList hne hu,RcNeAt.lists_lengths p1.isList p2.isList hne hu⟩
set_option maxHeartbeats 1000000 in
theorem Xam(I:Inv X pins σ H s):∀ (n:Nat) {d1 d2:D} {v1 v2:V} {u1 u2:Value} {A:Around},dht d1≤n→DAt H d1 v1→DAt H d2 v2→RelV v1 u1→RelV v2 u2→A.units+n<cLine→EqAt A s u1 u2 (eqDD d1 d2)∧RcAt A s u1 u2 (eqDD d1 d2)∧RcNeAt A s u1 u2 (!eqDD d1 d2):=by
 intro n
 induction n with
 | zero =>
  intro d1 d2 v1 v2 u1 u2 A hn
  have:=Ztj d1
  omega
 | succ n ih =>
  intro d1 d2 v1 v2 u1 u2 A hn hd hd2 ru ru2 hu
  have h1:A.units<cLine:=by omega
  have h2:A.in1.units+n<cLine:=by show A.units+1+n<cLine;omega
  cases d1 with
  | non =>
   obtain rfl:v1 = .non:=hd;obtain rfl:u1 = .none:=ru
   rw[eqDD]
   cases d2 with
   | non =>
    obtain rfl:v2 = .non:=hd2;obtain rfl:u2 = .none:=ru2
    exact⟨.same _,.none_none,.none_none⟩
   | bl b2 =>
    obtain rfl:v2 = .bl b2:=hd2;obtain rfl:u2 = .bool b2:=ru2
    exact⟨.none_bool _,.none_bool _,.none_bool _⟩
   | int i2 =>
    obtain rfl:v2 = .int i2:=hd2;obtain⟨t2,rfl⟩:∃ t,u2 = .int i2 t:=ru2
    exact⟨.none_int _ _,.none_int _ _,.none_int _ _⟩
   | str x2 =>
    obtain⟨rfl,_⟩:v2 = .str x2∧_:=hd2;obtain⟨t2,rfl⟩:∃ t,u2 = .str x2 t:=ru2
    exact⟨.none_str _ _,.none_str _ _,.none_str _ _⟩
   | tup ds2 =>
    obtain⟨a2,vs2,rfl,ea2,hs2,_⟩:=hd2;obtain rfl:u2 = .ref a2:=ru2;obtain⟨its2,q2,p2,_⟩:=I.tuple (SqT.of ea2)
    exact⟨.none_tuple (Zw p2) h1,.none_tuple (Zw p2) h1,.none_tuple (Zw p2) h1⟩
   | lst ds2 =>
    obtain⟨a2,vs2,rfl,ea2,hs2,_⟩:=hd2;obtain rfl:u2 = .ref a2:=ru2;obtain⟨its2,q2,p2,_⟩:=I.list (SqL.of ea2)
    exact⟨.none_list p2.isList h1,.none_list p2.isList h1,.none_list p2.isList h1⟩
  | bl b1 =>
   obtain rfl:v1 = .bl b1:=hd;obtain rfl:u1 = .bool b1:=ru
   rw[eqDD]
   cases d2 with
   | non =>
    obtain rfl:v2 = .non:=hd2;obtain rfl:u2 = .none:=ru2
    exact⟨.bool_none _,.bool_none _,.bool_none _⟩
   | bl b2 =>
    obtain rfl:v2 = .bl b2:=hd2;obtain rfl:u2 = .bool b2:=ru2
    exact⟨.bool_bool _ _,.bool_bool _ _,.bool_bool _ _⟩
   | int i2 =>
    obtain rfl:v2 = .int i2:=hd2;obtain⟨t2,rfl⟩:∃ t,u2 = .int i2 t:=ru2
    exact⟨.bool_int _ _ _,.bool_int _ _ _,.bool_int _ _ _⟩
   | str x2 =>
    obtain⟨rfl,_⟩:v2 = .str x2∧_:=hd2;obtain⟨t2,rfl⟩:∃ t,u2 = .str x2 t:=ru2
    exact⟨.bool_str _ _ _,.bool_str _ _ _,.bool_str _ _ _⟩
   | tup ds2 =>
    obtain⟨a2,vs2,rfl,ea2,hs2,_⟩:=hd2;obtain rfl:u2 = .ref a2:=ru2;obtain⟨its2,q2,p2,_⟩:=I.tuple (SqT.of ea2)
    exact⟨.bool_tuple _ (Zw p2) h1,.bool_tuple _ (Zw p2) h1,.bool_tuple _ (Zw p2) h1⟩
   | lst ds2 =>
    obtain⟨a2,vs2,rfl,ea2,hs2,_⟩:=hd2;obtain rfl:u2 = .ref a2:=ru2;obtain⟨its2,q2,p2,_⟩:=I.list (SqL.of ea2)
    exact⟨.bool_list _ p2.isList h1,.bool_list _ p2.isList h1,.bool_list _ p2.isList h1⟩
  | int i1 =>
   obtain rfl:v1 = .int i1:=hd;obtain⟨t1,rfl⟩:∃ t,u1 = .int i1 t:=ru
   rw[eqDD]
   cases d2 with
   | non =>
    obtain rfl:v2 = .non:=hd2;obtain rfl:u2 = .none:=ru2
    exact⟨.int_none _ _,.int_none _ _,.int_none _ _⟩
   | bl b2 =>
    obtain rfl:v2 = .bl b2:=hd2;obtain rfl:u2 = .bool b2:=ru2
    exact⟨.int_bool _ _ _,.int_bool _ _ _,.int_bool _ _ _⟩
   | int i2 =>
    obtain rfl:v2 = .int i2:=hd2;obtain⟨t2,rfl⟩:∃ t,u2 = .int i2 t:=ru2
    exact⟨.int_int _ _ _ _,.int_int _ _ _ _,.int_int _ _ _ _⟩
   | str x2 =>
    obtain⟨rfl,_⟩:v2 = .str x2∧_:=hd2;obtain⟨t2,rfl⟩:∃ t,u2 = .str x2 t:=ru2
    exact⟨.int_str _ _ _ _,.int_str _ _ _ _,.int_str _ _ _ _⟩
   | tup ds2 =>
    obtain⟨a2,vs2,rfl,ea2,hs2,_⟩:=hd2;obtain rfl:u2 = .ref a2:=ru2;obtain⟨its2,q2,p2,_⟩:=I.tuple (SqT.of ea2)
    exact⟨.int_tuple _ _ (Zw p2) h1,.int_tuple _ _ (Zw p2) h1,.int_tuple _ _ (Zw p2) h1⟩
   | lst ds2 =>
    obtain⟨a2,vs2,rfl,ea2,hs2,_⟩:=hd2;obtain rfl:u2 = .ref a2:=ru2;obtain⟨its2,q2,p2,_⟩:=I.list (SqL.of ea2)
    exact⟨.int_list _ _ p2.isList h1,.int_list _ _ p2.isList h1,.int_list _ _ p2.isList h1⟩
  | str x1 =>
   obtain⟨rfl,_⟩:v1 = .str x1∧_:=hd;obtain⟨t1,rfl⟩:∃ t,u1 = .str x1 t:=ru
   rw[eqDD]
   cases d2 with
   | non =>
    obtain rfl:v2 = .non:=hd2;obtain rfl:u2 = .none:=ru2
    exact⟨.str_none _ _,.str_none _ _,.str_none _ _⟩
   | bl b2 =>
    obtain rfl:v2 = .bl b2:=hd2;obtain rfl:u2 = .bool b2:=ru2
    exact⟨.str_bool _ _ _,.str_bool _ _ _,.str_bool _ _ _⟩
   | int i2 =>
    obtain rfl:v2 = .int i2:=hd2;obtain⟨t2,rfl⟩:∃ t,u2 = .int i2 t:=ru2
    exact⟨.str_int _ _ _ _,.str_int _ _ _ _,.str_int _ _ _ _⟩
   | str x2 =>
    obtain⟨rfl,_⟩:v2 = .str x2∧_:=hd2;obtain⟨t2,rfl⟩:∃ t,u2 = .str x2 t:=ru2
    exact⟨.str_str _ _ _ _,.str_str _ _ _ _,.str_str _ _ _ _⟩
   | tup ds2 =>
    obtain⟨a2,vs2,rfl,ea2,hs2,_⟩:=hd2;obtain rfl:u2 = .ref a2:=ru2;obtain⟨its2,q2,p2,_⟩:=I.tuple (SqT.of ea2)
    exact⟨.str_tuple _ _ (Zw p2) h1,.str_tuple _ _ (Zw p2) h1,.str_tuple _ _ (Zw p2) h1⟩
   | lst ds2 =>
    obtain⟨a2,vs2,rfl,ea2,hs2,_⟩:=hd2;obtain rfl:u2 = .ref a2:=ru2;obtain⟨its2,q2,p2,_⟩:=I.list (SqL.of ea2)
    exact⟨.str_list _ _ p2.isList h1,.str_list _ _ p2.isList h1,.str_list _ _ p2.isList h1⟩
  | tup ds1 =>
   obtain⟨a1,vs1,rfl,ea1,hs1,_⟩:=hd;obtain rfl:u1 = .ref a1:=ru;obtain⟨its1,q1,p1,_⟩:=I.tuple (SqT.of ea1)
   rw[eqDD]
   cases d2 with
   | non =>
    obtain rfl:v2 = .non:=hd2;obtain rfl:u2 = .none:=ru2
    exact⟨.tuple_none (Zw p1) h1,.tuple_none (Zw p1) h1,.tuple_none (Zw p1) h1⟩
   | bl b2 =>
    obtain rfl:v2 = .bl b2:=hd2;obtain rfl:u2 = .bool b2:=ru2
    exact⟨.tuple_bool _ (Zw p1) h1,.tuple_bool _ (Zw p1) h1,.tuple_bool _ (Zw p1) h1⟩
   | int i2 =>
    obtain rfl:v2 = .int i2:=hd2;obtain⟨t2,rfl⟩:∃ t,u2 = .int i2 t:=ru2
    exact⟨.tuple_int _ _ (Zw p1) h1,.tuple_int _ _ (Zw p1) h1,.tuple_int _ _ (Zw p1) h1⟩
   | str x2 =>
    obtain⟨rfl,_⟩:v2 = .str x2∧_:=hd2;obtain⟨t2,rfl⟩:∃ t,u2 = .str x2 t:=ru2
    exact⟨.tuple_str _ _ (Zw p1) h1,.tuple_str _ _ (Zw p1) h1,.tuple_str _ _ (Zw p1) h1⟩
   | tup ds2 =>
    obtain⟨a2,vs2,rfl,ea2,hs2,_⟩:=hd2;obtain rfl:u2 = .ref a2:=ru2;obtain⟨its2,q2,p2,_⟩:=I.tuple (SqT.of ea2)
    have R:=rcT I h1 ea1 ea2 hs1 hs2 fun e e2 w w2 x x2 hm g g2 r r2=>(ih (dhts_mem hm (by rw[dht] at hn;omega)) g g2 r r2 h2).1
    refine⟨?_,R⟩
    by_cases z:a1=a2
    ·subst z
     obtain rfl:ds1=ds2:=by have hh:=DAt.inj (.tup ds1) (.tup ds2) (v := .ref a1) ⟨a1,vs1,rfl,ea1,hs1,‹_›⟩ ⟨a1,vs2,rfl,ea2,hs2,‹_›⟩;injection hh
     show EqAt A s _ _ (eqDs ds1 ds1)
     rw[Zcg];exact .same _
    ·exact .of_refs z R.1
   | lst ds2 =>
    obtain⟨a2,vs2,rfl,ea2,hs2,_⟩:=hd2;obtain rfl:u2 = .ref a2:=ru2;obtain⟨its2,q2,p2,_⟩:=I.list (SqL.of ea2)
    exact⟨.tuple_list (Zw p1) p2.isList h1,.tuple_list (Zw p1) p2.isList h1,.tuple_list (Zw p1) p2.isList h1⟩
  | lst ds1 =>
   obtain⟨a1,vs1,rfl,ea1,hs1,_⟩:=hd;obtain rfl:u1 = .ref a1:=ru;obtain⟨its1,q1,p1,_⟩:=I.list (SqL.of ea1)
   rw[eqDD]
   cases d2 with
   | non =>
    obtain rfl:v2 = .non:=hd2;obtain rfl:u2 = .none:=ru2
    exact⟨.list_none p1.isList h1,.list_none p1.isList h1,.list_none p1.isList h1⟩
   | bl b2 =>
    obtain rfl:v2 = .bl b2:=hd2;obtain rfl:u2 = .bool b2:=ru2
    exact⟨.list_bool _ p1.isList h1,.list_bool _ p1.isList h1,.list_bool _ p1.isList h1⟩
   | int i2 =>
    obtain rfl:v2 = .int i2:=hd2;obtain⟨t2,rfl⟩:∃ t,u2 = .int i2 t:=ru2
    exact⟨.list_int _ _ p1.isList h1,.list_int _ _ p1.isList h1,.list_int _ _ p1.isList h1⟩
   | str x2 =>
    obtain⟨rfl,_⟩:v2 = .str x2∧_:=hd2;obtain⟨t2,rfl⟩:∃ t,u2 = .str x2 t:=ru2
    exact⟨.list_str _ _ p1.isList h1,.list_str _ _ p1.isList h1,.list_str _ _ p1.isList h1⟩
   | tup ds2 =>
    obtain⟨a2,vs2,rfl,ea2,hs2,_⟩:=hd2;obtain rfl:u2 = .ref a2:=ru2;obtain⟨its2,q2,p2,_⟩:=I.tuple (SqT.of ea2)
    exact⟨.list_tuple p1.isList (Zw p2) h1,.list_tuple p1.isList (Zw p2) h1,.list_tuple p1.isList (Zw p2) h1⟩
   | lst ds2 =>
    obtain⟨a2,vs2,rfl,ea2,hs2,_⟩:=hd2;obtain rfl:u2 = .ref a2:=ru2;obtain⟨its2,q2,p2,_⟩:=I.list (SqL.of ea2)
    have R:=rcL I h1 ea1 ea2 hs1 hs2 fun e e2 w w2 x x2 hm g g2 r r2=>(ih (dhts_mem hm (by rw[dht] at hn;omega)) g g2 r r2 h2).1
    refine⟨?_,R⟩
    by_cases z:a1=a2
    ·subst z
     obtain rfl:ds1=ds2:=by have hh:=DAt.inj (.lst ds1) (.lst ds2) (v := .ref a1) ⟨a1,vs1,rfl,ea1,hs1,‹_›⟩ ⟨a1,vs2,rfl,ea2,hs2,‹_›⟩;injection hh
     show EqAt A s _ _ (eqDs ds1 ds1)
     rw[Zcg];exact .same _
    ·exact .of_refs z R.1
theorem Xbj(hu:X.A.units+64<cLine):OpR X (compareOp .Eq) (fun x y H Q=>∃ d d',DAt H d x∧DAt H d' y∧dht d≤60∧Q (.bl (eqDD d d')) H):=by
 intro pins s σ H x y v u Q I rx ry h
 obtain⟨d,d',hd,hd',hn,q⟩:=h
 exact(Xam I 60 hn hd hd' rx ry (by omega)).2.1 _ _ _ _ ⟨.bl _,H,I,rfl,q⟩
end
section
variable {X:Cx}
noncomputable def oEqD(hu:X.A.units+64<cLine):=OpR.or (oEq (X:=X)) (Xbj hu)
end
end L2
end
section
namespace L2
open PySem PySem.W PySem.Spec PyProof.Rows
structure AS where
 has:Addr→Prop
noncomputable instance:Membership Addr AS:=⟨fun X a=>X.has a⟩
noncomputable def AS.cn(l:Addr)(X:AS):AS:=⟨fun a=>a=l∨a∈X⟩
theorem AS.hd{l:Addr}{X:AS}:l∈AS.cn l X := .inl rfl
theorem AS.tl{a l:Addr}{X:AS}(h:a∈X):a∈AS.cn l X := .inr h
noncomputable def AS.of(H:Hp):AS:=⟨fun a=>∃ o,H a=some o⟩
mutual
noncomputable def DX{α:Type}[Membership Addr α](X:α)(H:Hp):D→V→Prop
 | .non,v=>v = .non
 | .bl b,v=>v = .bl b
 | .int i,v=>v = .int i
 | .str s,v=>v = .str s∧s.length≤100000
 | .tup ds,v=>∃ a vs,v = .ref a∧a∉X∧H a=some (.tup vs)∧DsX X H ds vs∧vs.length≤1000
 | .lst ds,v=>∃ a vs,v = .ref a∧a∉X∧H a=some (.lst vs)∧DsX X H ds vs∧vs.length≤1000
noncomputable def DsX{α:Type}[Membership Addr α](X:α)(H:Hp):List D→List V→Prop
 | [],vs=>vs=[]
 | d::ds,vs=>∃ v r,vs=v::r∧DX X H d v∧DsX X H ds r
end
mutual
theorem DX.at{α:Type}[Membership Addr α]{X:α}{H:Hp}:∀ (d:D) {v:V},DX X H d v→DAt H d v
 | .non,v,h=>h
 | .bl b,v,h=>h
 | .int i,v,h=>h
 | .str t,v,h=>h
 | .tup ds,v,h=>by
  obtain⟨a,vs,e,n,eT,q,z⟩:=h
  exact⟨a,vs,e,eT,DsX.at ds q,z⟩
 | .lst ds,v,h=>by
  obtain⟨a,vs,e,n,eT,q,z⟩:=h
  exact⟨a,vs,e,eT,DsX.at ds q,z⟩
theorem DsX.at{α:Type}[Membership Addr α]{X:α}{H:Hp}:∀ (ds:List D) {vs:List V},DsX X H ds vs→DsAt H ds vs
 | [],vs,h=>h
 | d::ds,vs,h=>by
  obtain⟨v,r,e,q,q2⟩:=h
  exact⟨v,r,e,DX.at d q,DsX.at ds q2⟩
end
mutual
theorem DX.keep{α:Type}[Membership Addr α]{X:α}{H H':Hp}(s:∀ b u,b∉X→H b=some u→H' b=some u):∀ (d:D) {v:V},DX X H d v→DX X H' d v
 | .non,v,h=>h
 | .bl b,v,h=>h
 | .int i,v,h=>h
 | .str t,v,h=>h
 | .tup ds,v,h=>by
  obtain⟨a,vs,e,n,eT,q,z⟩:=h
  exact⟨a,vs,e,n,s _ _ n eT,DsX.keep s ds q,z⟩
 | .lst ds,v,h=>by
  obtain⟨a,vs,e,n,eT,q,z⟩:=h
  exact⟨a,vs,e,n,s _ _ n eT,DsX.keep s ds q,z⟩
theorem DsX.keep{α:Type}[Membership Addr α]{X:α}{H H':Hp}(s:∀ b u,b∉X→H b=some u→H' b=some u):∀ (ds:List D) {vs:List V},DsX X H ds vs→DsX X H' ds vs
 | [],vs,h=>h
 | d::ds,vs,h=>by
  obtain⟨v,r,e,q,q2⟩:=h
  exact⟨v,r,e,DX.keep s d q,DsX.keep s ds q2⟩
end
mutual
theorem DAt.dx{H:Hp}:∀ (d:D) {v:V},DAt H d v→DX ([]:List Addr) H d v
 | .non,v,h=>h
 | .bl b,v,h=>h
 | .int i,v,h=>h
 | .str t,v,h=>h
 | .tup ds,v,h=>by
  obtain⟨a,vs,e,eT,q,z⟩:=h
  exact⟨a,vs,e,(fun z=>nomatch z),eT,DsAt.dx ds q,z⟩
 | .lst ds,v,h=>by
  obtain⟨a,vs,e,eT,q,z⟩:=h
  exact⟨a,vs,e,(fun z=>nomatch z),eT,DsAt.dx ds q,z⟩
theorem DsAt.dx{H:Hp}:∀ (ds:List D) {vs:List V},DsAt H ds vs→DsX ([]:List Addr) H ds vs
 | [],vs,h=>h
 | d::ds,vs,h=>by
  obtain⟨v,r,e,q,q2⟩:=h
  exact⟨v,r,e,DAt.dx d q,DsAt.dx ds q2⟩
end
mutual
theorem DX.add{X:List Addr}{H:Hp}{l:Addr}(hl:H l=none):∀ (d:D) {v:V},DX X H d v→DX (l::X) H d v
 | .non,v,h=>h
 | .bl b,v,h=>h
 | .int i,v,h=>h
 | .str t,v,h=>h
 | .tup ds,v,h=>by
  obtain⟨a,vs,e,n,eT,q,z⟩:=h
  exact⟨a,vs,e,fun y=>(Um.mp y).elim (fun y=>by rw[y,hl] at eT;cases eT) n,eT,DsX.add hl ds q,z⟩
 | .lst ds,v,h=>by
  obtain⟨a,vs,e,n,eT,q,z⟩:=h
  exact⟨a,vs,e,fun y=>(Um.mp y).elim (fun y=>by rw[y,hl] at eT;cases eT) n,eT,DsX.add hl ds q,z⟩
theorem DsX.add{X:List Addr}{H:Hp}{l:Addr}(hl:H l=none):∀ (ds:List D) {vs:List V},DsX X H ds vs→DsX (l::X) H ds vs
 | [],vs,h=>h
 | d::ds,vs,h=>by
  obtain⟨v,r,e,q,q2⟩:=h
  exact⟨v,r,e,DX.add hl d q,DsX.add hl ds q2⟩
end
mutual
theorem DX.weak{α:Type}[Membership Addr α]{X Y:α}{H:Hp}(hs:∀ x,x∈X→x∈Y):∀ (d:D) {v:V},DX Y H d v→DX X H d v
 | .non,v,h=>h
 | .bl b,v,h=>h
 | .int i,v,h=>h
 | .str t,v,h=>h
 | .tup ds,v,h=>by
  obtain⟨a,vs,e,n,eT,q,z⟩:=h
  exact⟨a,vs,e,fun y=>n (hs _ y),eT,DsX.weak hs ds q,z⟩
 | .lst ds,v,h=>by
  obtain⟨a,vs,e,n,eT,q,z⟩:=h
  exact⟨a,vs,e,fun y=>n (hs _ y),eT,DsX.weak hs ds q,z⟩
theorem DsX.weak{α:Type}[Membership Addr α]{X Y:α}{H:Hp}(hs:∀ x,x∈X→x∈Y):∀ (ds:List D) {vs:List V},DsX Y H ds vs→DsX X H ds vs
 | [],vs,h=>h
 | d::ds,vs,h=>by
  obtain⟨v,r,e,q,q2⟩:=h
  exact⟨v,r,e,DX.weak hs d q,DsX.weak hs ds q2⟩
end
theorem DX.same{α:Type}[Membership Addr α]{X:α}{H H':Hp}(s:Same H H'){d:D}{v:V}(h:DX X H d v):DX X H' d v:=DX.keep (fun b u _ e=>s b u e) d h
theorem DsX.same{α:Type}[Membership Addr α]{X:α}{H H':Hp}(s:Same H H'){ds:List D}{vs:List V}(h:DsX X H ds vs):DsX X H' ds vs:=DsX.keep (fun b u _ e=>s b u e) ds h
theorem DsX.snoc{α:Type}[Membership Addr α]{X:α}{H:Hp}{d:D}{v:V}(hd:DX X H d v):∀ (ds:List D) {vs:List V},DsX X H ds vs→DsX X H (ds++[d]) (vs++[v])
 | [],vs,h=>by
  obtain rfl:vs=[]:=h
  exact⟨v,[],rfl,hd,rfl⟩
 | e::ds,vs,h=>by
  obtain⟨w,r,rfl,q,q2⟩:=h
  exact⟨w,r++[v],rfl,q,DsX.snoc hd ds q2⟩
end L2
end
section
namespace HT
open PySem PyProof.Rows
section
open PySem.SeqAt
open PySem.AutoSeq1 (wpAny_loadPart')
open PySem.MeetsSeq PySem.MeetsSeq2 PySem.MeetsSeq3 PySem.SeqRoads2
theorem Zgp:∀ {vs:List Value} {ns:List Int},IntsAre vs ns→∀ i (h:i<vs.length),∃ x t,vs[i]?=some (.int x t)∧ns.drop i=x::ns.drop (i+1)
 | _,_,.nil,i,h=>absurd h (Nat.not_lt_zero _)
 | _,_,.cons x t r,0,h=>⟨x,t,rfl,rfl⟩
 | _,_,.cons x t r,i+1,h=>Zgp r i (Nat.lt_of_succ_lt_succ h)
theorem Zzw(l b:Addr)(items items2:Array Value)(n n2:Nat)(dd dd2:Option Addr)(sl sl2:Array (Option Value))(ns ms:List Int)(hi:IntsAre items.toList ns)(hj:IntsAre items2.toList ms)(k:Nat) :
  ∀ i:Nat,items.size - i=k→i≤items.size→i≤items2.size→Meets (Builtin.«list.__eq__.loop» ⟨[.ref l,.ref b,rawInt i,rawInt 0],[]⟩)
   (fun A R s=>s.heap.get? l=some {cls := .type "list",dict:=dd,data := .seq items n,slots:=sl}∧s.heap.get? b=some {cls := .type "list",dict:=dd2,data := .seq items2 n2,slots:=sl2}∧R (.ok (.ret (.bool (lexLt (ns.drop i) (ms.drop i))))) s):=by
 have z1:items.size=ns.length:=by rw[← hi.length];simp
 have z2:items2.size=ms.length:=by rw[← hj.length];simp
 induction k with
 | zero =>
  intro i hk h1 h2 prog w A R s h
  obtain⟨hp,g,d,tk,os⟩:=s;obtain⟨hl,hb,h⟩:=h
  wp_walk using wpAny_loadPart' hl,wpAny_loadPart' hb
  have hi1:items[((i:Nat):Int).toNat]?=none:=by simp;omega
  rw[hi1]
  wp_walk using wpAny_loadPart' hl,wpAny_loadPart' hb
  have e1:ns.drop i=[]:=List.drop_eq_nil_of_le (by omega)
  have e:lexLt (ns.drop i) (ms.drop i)=decide (items.size<items2.size):=by
   rw[e1]
   cases hd:ms.drop i with
   | nil =>
    have:=congrArg List.length hd
    rw[Va,List.length_nil] at this
    exact(UB (by omega)).symm
   | cons y r =>
    have:=congrArg List.length hd
    rw[Va,Uq] at this
    exact(Ut (by omega)).symm
  rw[e] at h
  exact h
 | succ k ih =>
  intro i hk h1 h2 prog w A R s h
  obtain⟨hp,g,d,tk,os⟩:=s;obtain⟨hl,hb,h⟩:=h
  have hlt:i<items.size:=by omega
  obtain⟨x,t,hx,ex⟩:=Zgp hi i (by simpa using hlt)
  have hx:items[i]?=some (.int x t):=by simpa using hx
  wp_walk using wpAny_loadPart' hl,wpAny_loadPart' hb
  have hi1:items[((i:Nat):Int).toNat]?=some (.int x t):=by simpa using hx
  rw[hi1]
  by_cases h3:i<items2.size
  ·obtain⟨y,u,hy,ey⟩:=Zgp hj i (by simpa using h3)
   have hy:items2[i]?=some (.int y u):=by simpa using hy
   have hi2:items2[((i:Nat):Int).toNat]?=some (.int y u):=by simpa using hy
   have hc:((i:Int)+1)=((i+1:Nat):Int):=by omega
   rw[hi2]
   rw[ex,ey,lexLt_cons] at h
   refine wpAny_bind (EqAt.int_int x t y u prog w _ _ ?_)
   cases hb':(x == y) with
   | true =>
    have hxy:x=y:=by simpa using hb'
    rw[if_pos hxy] at h
    wp_walk
    rw[hc]
    exact⟨plainId_quiet plain_eq_loop _,codeAny_builtin entry_eq_loop (by
     rw[Around.under_plainId plain_eq_loop _]
     exact ih (i+1) (by omega) (by omega) (by omega) prog w A R _ ⟨hl,hb,h⟩)⟩
   | false =>
    have hxy:¬x=y:=by simpa using hb'
    rw[if_neg hxy] at h
    wp_walk using wpAny_loadPart' hl,wpAny_loadPart' hb
    rw[hi1,hi2]
    refine wpAny_bind (Zwo _ _ x t y u prog w _ _ ?_)
    wp_walk
    exact h
  ·have hi2:items2[((i:Nat):Int).toNat]?=none:=by simp;omega
   rw[hi2]
   wp_walk using wpAny_loadPart' hl,wpAny_loadPart' hb
   have e2:ms.drop i=[]:=List.drop_eq_nil_of_le (by omega)
   have e:lexLt (ns.drop i) (ms.drop i)=decide (items.size<items2.size):=by
    rw[e2,ex,Zku]
    exact(UB (by omega)).symm
   rw[e] at h
   exact h
theorem list_lt_ints(l b:Addr)(items items2:Array Value)(n n2:Nat)(dd dd2:Option Addr)(sl sl2:Array (Option Value))(ns ms:List Int)(hi:IntsAre items.toList ns)(hj:IntsAre items2.toList ms) :
  Meets (Builtin.«list.__lt__» ⟨[.ref l,.ref b],[]⟩)
   (fun A R s=>s.heap.get? l=some {cls := .type "list",dict:=dd,data := .seq items n,slots:=sl}∧s.heap.get? b=some {cls := .type "list",dict:=dd2,data := .seq items2 n2,slots:=sl2}∧R (.ok (.ret (.bool (lexLt ns ms)))) s):=by
 intro prog w A R s h
 obtain⟨hp,g,d,tk,os⟩:=s;obtain⟨hl,hb,h⟩:=h
 have f3:=AutoSeq1.sub_list_list
 wp_walk using wpAny_loadPart' hl,wpAny_loadPart' hb
 exact⟨plainId_quiet plain_eq_loop _,codeAny_builtin entry_eq_loop (by
  rw[Around.under_plainId plain_eq_loop _]
  exact Zzw l b items items2 n n2 dd dd2 sl sl2 ns ms hi hj _ 0 rfl (UF _) (UF _) prog w A R _ ⟨hl,hb,h⟩)⟩
end
end HT
namespace L2
open PySem PySem.W PySem.Spec PyProof.Rows
section
variable {X:Cx}
def rLtLI(K:Ua):R2:=fun x y H Q=>∃ a b ns ms,x = .ref a∧y = .ref b∧SqL K H a (ns.map V.int)∧SqL K H b (ms.map V.int)∧Q (.bl (HT.lexLt ns ms)) H
theorem Zzm(hu:X.A.units+64<cLine):OpR X (compareOp .Lt) (rLtLI X.K):=by
 intro pins s σ H x y v u Q I rx ry h
 obtain⟨a,b,ns,ms,rfl,rfl,ha,hb,q⟩:=h
 cases rx
 cases ry
 obtain⟨its,r1,p1,_⟩:=I.list ha
 obtain⟨its2,r2,p2,_⟩:=I.list hb
 have i1:IntsAre its.toArray.toList ns:=Zdb r1
 have i2:IntsAre its2.toArray.toList ms:=Zdb r2
 obtain⟨⟨cls,dd,data,sl⟩,ho,hc,n,hd⟩:=id p1.isList
 obtain⟨⟨cls2,dd2,data2,sl2⟩,ho2,hc2,n2,hd2⟩:=id p2.isList
 simp only at hc hd hc2 hd2
 subst hc hd hc2 hd2
 exact richCompare_meets_room (op := .Lt) ⟨_,ho,rfl⟩ ⟨_,ho2,rfl⟩ PySem.F.slot_list_lt PySem.F.entry_list_lt (PySem.F.args_list_lt_2 _ _) (HT.list_lt_ints a b its.toArray its2.toArray n n2 dd dd2 sl sl2 ns ms i1 i2)
  ⟨ho,ho2,show Value.bool (HT.lexLt ns ms)≠Value.notImplemented∧_ from⟨(fun x=>nomatch x),⟨.bl (HT.lexLt ns ms),H,I,rfl,q⟩⟩⟩ (by omega)
noncomputable def oLtLI(hu:X.A.units+64<cLine):=OpR.or (oLt (X:=X)) (Zzm hu)
end
end L2
end
section
namespace KM
open PySem L2
noncomputable def itemsRow(e:Int→List Bool)(ks:List Int):List Bool:=(ks.map fun x=>true::e x).flatten++[false]
theorem Zmp{e:Int→List Bool}{P:Int→Prop}(he:∀ x y,P x→P y→x<y→Sep (e x) (e y)):∀ {a b:List Int},(∀ x,x∈a→P x)→(∀ x,x∈b→P x)→HT.lexLt a b=true→Sep (itemsRow e a) (itemsRow e b)
 | [],[],_,_,h=>by cases h
 | [],y::b,_,_,_=>⟨[],[],e y++((b.map fun x=>true::e x).flatten++[false]),rfl,by unfold itemsRow;simp⟩
 | x::a,[],_,_,h=>by cases h
 | x::a,y::b,ha,hb,h=>by
  have ea:∀ z l,itemsRow e (z::l)=(true::e z)++itemsRow e l:=fun z l=>by unfold itemsRow;rw[UP,Vf,UH]
  rw[ea,ea]
  rw[HT.lexLt_cons] at h
  by_cases hx:x=y
  ·subst hx
   rw[if_pos rfl] at h
   exact(Zmp he (fun z hz=>ha z (Ul _ hz)) (fun z hz=>hb z (Ul _ hz)) h).pre _
  ·rw[if_neg hx] at h
   exact(((he x y (ha x (Ux ..)) (hb y (Ux ..)) (UJ h)).pre [true]).post _ _)
end KM
end
section
namespace HT
open PySem PyProof.Rows
section
open PySem.SeqAt
open PySem.AutoSeq1 (wpAny_loadPart')
open PySem.MeetsSeq PySem.MeetsSeq2 PySem.MeetsSeq3 PySem.SeqRoads2
theorem Zsg{α:Type}[DecidableEq α]{β:Type}(x y:α){a b:β}:(if y=x then a else b)=if x=y then a else b:=by
 by_cases h:x=y
 ·rw[if_pos h,if_pos h.symm]
 ·rw[if_neg h,if_neg (Uh h)]
theorem Zwp(A:Around)(s:Shared)(a:Int)(t:Tok)(c:Int)(u:Tok)(prog:Program)(w:World)(E:Value→Shared→Prop)(Q:Value→Shared→Prop)(h:Q (.bool (decide (c<a))) s) :
  wpAny (model prog w) A (richCompare .Gt (.int a t) (.int c u)) Q E s :=
 (PyProof.Rows.gt_int h:wpAny (model prog w) A (compareOp .Gt (.int a t) (.int c u)) Q E s)
theorem Xag(l b:Addr)(items items2:Array Value)(n n2:Nat)(dd dd2:Option Addr)(sl sl2:Array (Option Value))(ns ms:List Int)(hi:IntsAre items.toList ns)(hj:IntsAre items2.toList ms)(k:Nat) :
  ∀ i:Nat,items.size - i=k→i≤items.size→i≤items2.size→Meets (Builtin.«list.__eq__.loop» ⟨[.ref l,.ref b,rawInt i,rawInt 4],[]⟩)
   (fun A R s=>s.heap.get? l=some {cls := .type "list",dict:=dd,data := .seq items n,slots:=sl}∧s.heap.get? b=some {cls := .type "list",dict:=dd2,data := .seq items2 n2,slots:=sl2}∧R (.ok (.ret (.bool (lexLt (ms.drop i) (ns.drop i))))) s):=by
 have z1:items.size=ns.length:=by rw[← hi.length];simp
 have z2:items2.size=ms.length:=by rw[← hj.length];simp
 induction k with
 | zero =>
  intro i hk h1 h2 prog w A R s h
  obtain⟨hp,g,d,tk,os⟩:=s;obtain⟨hl,hb,h⟩:=h
  wp_walk using wpAny_loadPart' hl,wpAny_loadPart' hb
  have hi1:items[((i:Nat):Int).toNat]?=none:=by simp;omega
  rw[hi1]
  wp_walk using wpAny_loadPart' hl,wpAny_loadPart' hb
  have e1:ns.drop i=[]:=List.drop_eq_nil_of_le (by omega)
  have e:lexLt (ms.drop i) (ns.drop i)=decide (items2.size<items.size):=by
   rw[e1]
   cases hd:ms.drop i with
   | nil=>exact(UB (by omega)).symm
   | cons y r=>exact(UB (by omega)).symm
  rw[e] at h
  exact h
 | succ k ih =>
  intro i hk h1 h2 prog w A R s h
  obtain⟨hp,g,d,tk,os⟩:=s;obtain⟨hl,hb,h⟩:=h
  have hlt:i<items.size:=by omega
  obtain⟨x,t,hx,ex⟩:=Zgp hi i (by simpa using hlt)
  have hx:items[i]?=some (.int x t):=by simpa using hx
  wp_walk using wpAny_loadPart' hl,wpAny_loadPart' hb
  have hi1:items[((i:Nat):Int).toNat]?=some (.int x t):=by simpa using hx
  rw[hi1]
  by_cases h3:i<items2.size
  ·obtain⟨y,u,hy,ey⟩:=Zgp hj i (by simpa using h3)
   have hy:items2[i]?=some (.int y u):=by simpa using hy
   have hi2:items2[((i:Nat):Int).toNat]?=some (.int y u):=by simpa using hy
   have hc:((i:Int)+1)=((i+1:Nat):Int):=by omega
   rw[hi2]
   rw[ex,ey,lexLt_cons,Zsg x y] at h
   refine wpAny_bind (EqAt.int_int x t y u prog w _ _ ?_)
   cases hb':(x == y) with
   | true =>
    have hxy:x=y:=by simpa using hb'
    rw[if_pos hxy] at h
    wp_walk
    rw[hc]
    exact⟨plainId_quiet plain_eq_loop _,codeAny_builtin entry_eq_loop (by
     rw[Around.under_plainId plain_eq_loop _]
     exact ih (i+1) (by omega) (by omega) (by omega) prog w A R _ ⟨hl,hb,h⟩)⟩
   | false =>
    have hxy:¬x=y:=by simpa using hb'
    rw[if_neg hxy] at h
    wp_walk using wpAny_loadPart' hl,wpAny_loadPart' hb
    rw[hi1,hi2]
    refine wpAny_bind (Zwp _ _ x t y u prog w _ _ ?_)
    wp_walk
    exact h
  ·have hi2:items2[((i:Nat):Int).toNat]?=none:=by simp;omega
   rw[hi2]
   wp_walk using wpAny_loadPart' hl,wpAny_loadPart' hb
   have e2:ms.drop i=[]:=List.drop_eq_nil_of_le (by omega)
   have e:lexLt (ms.drop i) (ns.drop i)=decide (items2.size<items.size):=by
    rw[e2,ex,Zkt]
    exact(Ut (by omega)).symm
   rw[e] at h
   exact h
theorem list_gt_ints(l b:Addr)(items items2:Array Value)(n n2:Nat)(dd dd2:Option Addr)(sl sl2:Array (Option Value))(ns ms:List Int)(hi:IntsAre items.toList ns)(hj:IntsAre items2.toList ms) :
  Meets (Builtin.«list.__gt__» ⟨[.ref l,.ref b],[]⟩)
   (fun A R s=>s.heap.get? l=some {cls := .type "list",dict:=dd,data := .seq items n,slots:=sl}∧s.heap.get? b=some {cls := .type "list",dict:=dd2,data := .seq items2 n2,slots:=sl2}∧R (.ok (.ret (.bool (lexLt ms ns)))) s):=by
 intro prog w A R s h
 obtain⟨hp,g,d,tk,os⟩:=s;obtain⟨hl,hb,h⟩:=h
 have f3:=AutoSeq1.sub_list_list
 wp_walk using wpAny_loadPart' hl,wpAny_loadPart' hb
 exact⟨plainId_quiet plain_eq_loop _,codeAny_builtin entry_eq_loop (by
  rw[Around.under_plainId plain_eq_loop _]
  exact Xag l b items items2 n n2 dd dd2 sl sl2 ns ms hi hj _ 0 rfl (UF _) (UF _) prog w A R _ ⟨hl,hb,h⟩)⟩
end
end HT
namespace L2
open PySem PySem.W PySem.Spec PyProof.Rows
section
variable {X:Cx}
def rGtLI(K:Ua):R2:=fun x y H Q=>∃ a b ns ms,x = .ref a∧y = .ref b∧SqL K H a (ns.map V.int)∧SqL K H b (ms.map V.int)∧Q (.bl (HT.lexLt ms ns)) H
theorem Zzo(hu:X.A.units+64<cLine):OpR X (compareOp .Gt) (rGtLI X.K):=by
 intro pins s σ H x y v u Q I rx ry h
 obtain⟨a,b,ns,ms,rfl,rfl,ha,hb,q⟩:=h
 cases rx
 cases ry
 obtain⟨its,r1,p1,_⟩:=I.list ha
 obtain⟨its2,r2,p2,_⟩:=I.list hb
 have i1:IntsAre its.toArray.toList ns:=Zdb r1
 have i2:IntsAre its2.toArray.toList ms:=Zdb r2
 obtain⟨⟨cls,dd,data,sl⟩,ho,hc,n,hd⟩:=id p1.isList
 obtain⟨⟨cls2,dd2,data2,sl2⟩,ho2,hc2,n2,hd2⟩:=id p2.isList
 simp only at hc hd hc2 hd2
 subst hc hd hc2 hd2
 exact richCompare_meets_room (op := .Gt) ⟨_,ho,rfl⟩ ⟨_,ho2,rfl⟩ PySem.F.slot_list_gt PySem.F.entry_list_gt (PySem.F.args_list_gt_2 _ _) (HT.list_gt_ints a b its.toArray its2.toArray n n2 dd dd2 sl sl2 ns ms i1 i2)
  ⟨ho,ho2,show Value.bool (HT.lexLt ms ns)≠Value.notImplemented∧_ from⟨(fun x=>nomatch x),⟨.bl (HT.lexLt ms ns),H,I,rfl,q⟩⟩⟩ (by omega)
noncomputable def oGtLI(hu:X.A.units+64<cLine):=OpR.or (oGt (X:=X)) (Zzo hu)
def rBl(f:Int→Int→Bool):R2:=fun x y H Q=>∃ a b,x = .bl a∧y = .bl b∧Q (.bl (f (b2i a) (b2i b))) H
theorem Zzn:OpR X (compareOp .Lt) (rBl fun i j=>decide (i<j)):=by
 intro pins s σ H x y v u Q I rx ry h
 obtain⟨a,b,rfl,rfl,q⟩:=h
 cases rx
 cases ry
 exact lt_bool (Xp I q rfl)
theorem Zzp:OpR X (compareOp .Gt) (rBl fun i j=>decide (j<i)):=by
 intro pins s σ H x y v u Q I rx ry h
 obtain⟨a,b,rfl,rfl,q⟩:=h
 cases rx
 cases ry
 exact gt_bool (Xp I q rfl)
noncomputable def oLtA(hu:X.A.units+64<cLine):=OpR.or (oLtLI (X:=X) hu) Zzn
noncomputable def oGtA(hu:X.A.units+64<cLine):=OpR.or (oGtLI (X:=X) hu) Zzp
end
end L2
end
section
namespace L2
open PySem PySem.W PySem.Spec PyProof.Rows
end L2
end
namespace KR
open PySem L2 KM
abbrev Uy:=@SqL.of
abbrev Uz:=@SqT.of
abbrev Vy:=@Same.refl
noncomputable def top(i:Nat):Stmt:=PySem.Challenge.pw_keyrise_k91_whole_values_in_order.main.body.getD i (.Pass ⟨0,0,0,0⟩)
noncomputable section
abbrev Zbd:Stmt:=top 76
abbrev Zav:Stmt:=top 74
abbrev Zfe:Stmt:=top 75
abbrev Zfi:Stmt:=top 71
abbrev Zaf:Stmt:=top 69
abbrev Zei:Stmt:=top 70
abbrev Zcq:Stmt:=top 68
abbrev Zfg:Stmt:=top 64
abbrev Zff:Stmt:=top 63
abbrev Zdp:Stmt:=top 66
abbrev Zdo:Stmt:=top 65
abbrev Zcn:Stmt:=top 67
abbrev Zfh:Stmt:=top 72
abbrev Zco:Stmt:=top 73
abbrev Qn:Stmt:=Xb (top 57) 1
abbrev Ws:Stmt:=Xb (top 57) 2
abbrev Qo:Stmt:=Xb (top 57) 4
abbrev Ja:Stmt:=Xb (top 45) 0
abbrev Yx:Stmt:=Xb (top 45) 1
abbrev Jb:Stmt:=Xb (top 45) 3
abbrev Zah:Stmt:=Xb (top 43) 0
abbrev Wx:Stmt:=Xb (top 43) 1
abbrev Zai:Stmt:=Xb (top 43) 3
abbrev Zam:Stmt:=Xb (top 54) 4
abbrev Zal:Stmt:=Xb (top 54) 1
abbrev Wz:Stmt:=Xb (top 54) 2
abbrev Xw:Stmt:=Xb (top 40) 0
abbrev Zab:Stmt:=top 32
abbrev Zcr:Stmt:=top 22
abbrev Zct:Stmt:=top 21
abbrev Zbo:Stmt:=top 27
abbrev Zdu:Stmt:=top 26
abbrev Zfb:Stmt:=top 25
abbrev Zat:Stmt:=top 31
abbrev Jf:Stmt:=top 30
abbrev Zbn:Stmt:=top 29
abbrev Jx:Stmt:=top 28
abbrev Zwh:Stmt:=top 83
abbrev Zcp:Stmt:=top 80
abbrev Zdq:Stmt:=top 77
abbrev Ww:Stmt:=top 16
abbrev Zdf:Stmt:=Xb (top 9) 5
abbrev Zfc:Stmt:=top 61
abbrev Zfa:Stmt:=top 60
abbrev Zdn:Stmt:=top 81
abbrev Zcm:Stmt:=top 82
abbrev Zbe:Stmt:=top 79
abbrev Zag:Stmt:=top 78
abbrev Zcl:Stmt:=top 13
abbrev Zau:Stmt:=top 14
abbrev Zds:Stmt:=top 19
abbrev Zbq:Stmt:=Xb (top 9) 0
abbrev Qk:Stmt:=Xb (top 9) 1
abbrev Qj:Stmt:=Xb (top 9) 2
abbrev Zcs:Stmt:=top 23
abbrev Zfj:Stmt:=top 15
abbrev Zdt:Stmt:=top 17
abbrev Zdm:Stmt:=top 18
abbrev Wt:Stmt:=top 20
abbrev Zhi:Stmt:=top 39
abbrev Zhj:Stmt:=top 52
abbrev Zfd:Stmt:=top 53
abbrev Zdv:Stmt:=Xb (top 44) 0
abbrev Zaw:Stmt:=Xb (top 46) 0
abbrev Zbr:Stmt:=Xb (top 56) 0
abbrev Zbs:Stmt:=Xb (top 57) 0
abbrev Zcu:Stmt:=Xb (top 54) 0
abbrev Zdw:Stmt:=Xb (top 55) 0
abbrev Zbp:Stmt:=Xb (top 58) 0
abbrev Zdr:Stmt:=top 38
abbrev Jp:Stmt:=Xb (top 41) 0
abbrev Zaj:Stmt:=Xb (top 42) 0
abbrev Zbf:Stmt:=Xb (top 44) 1
abbrev Js:Stmt:=Xb (top 46) 1
abbrev Qg:Stmt:=Xb (top 58) 1
abbrev Zbh:Stmt:=Xb (top 55) 1
abbrev Ql:Stmt:=Xb (top 56) 1
abbrev Wf:Stmt:=Xb (top 41) 1
abbrev Wy:Stmt:=Xb (top 42) 1
abbrev Jo:Stmt:=Xb (top 44) 2
abbrev Wp:Stmt:=Xb (top 58) 2
abbrev Jr:Stmt:=Xb (top 55) 2
abbrev Wq:Stmt:=Xb (top 56) 2
abbrev Jq:Stmt:=Xb (top 41) 3
abbrev Zak:Stmt:=Xb (top 42) 3
abbrev Zbg:Stmt:=Xb (top 44) 4
abbrev Qh:Stmt:=Xb (top 58) 4
abbrev Zbi:Stmt:=Xb (top 55) 4
abbrev Qm:Stmt:=Xb (top 56) 4
abbrev Jt:Stmt:=Xb (top 46) 5
abbrev Wr:Stmt:=Xb (top 46) 2
abbrev Wg:Stmt:=Xb (top 46) 3
abbrev Qi:Stmt:=Xb (top 9) 4
end
theorem Ym:FnScope ["_law_pool_here","_law_form_here","_law_word","_law_cell","_law_text","_law_k","_law_name","_law_inner"] ["_law_pool_here","_law_form_here"] (Zg Zbd):=by constructor<;>first|rfl|decide +kernel
theorem Yc:FnScope ["_law_one","_law_other","_law_top","_law_bottom","_law_low","_law_by","_law_rest"] ["_law_one","_law_other"] (Zg Zav):=by constructor<;>first|rfl|decide +kernel
theorem Zpm:FnScope ["_law_form_here","_law_cell","_law_pool_here"] ["_law_form_here","_law_cell","_law_pool_here"] (Zg Zfe):=by constructor<;>first|rfl|decide +kernel
theorem Zpp:FnScope ["_law_form_here"] ["_law_form_here"] (Zg Zfi):=by constructor<;>first|rfl|decide +kernel
theorem Qc:FnScope ["_law_form_here","_law_kept","_law_old","_law_made_here"] ["_law_form_here","_law_kept"] (Zg Zaf):=by constructor<;>first|rfl|decide +kernel
theorem Zjo:FnScope ["_law_form_here","_law_kept","_law_word"] ["_law_form_here","_law_kept"] (Zg Zei):=by constructor<;>first|rfl|decide +kernel
theorem Xv:FnScope ["_law_pool_here","_law_deep","_law_cell","_law_way","_law_many","_law_names_here","_law_inner","_law_alike","_law_base","_law_k","_law_depth","_law_part"] ["_law_pool_here","_law_deep"] (Zg Zcq):=by constructor<;>first|rfl|decide +kernel
theorem Zpo:FnScope ["_law_pool_here"] ["_law_pool_here"] (Zg Zfg):=by constructor<;>first|rfl|decide +kernel
theorem Wj:FnScope ["_law_script","_law_pool_here","_law_k","_law_number"] ["_law_script"] (Zg Zff):=by constructor<;>first|rfl|decide +kernel
theorem Yb:FnScope ["_law_cell","_law_many","_law_some","_law_size_here","_law_at","_law_step","_law_number","_law_first","_law_stem","_law_k"] ["_law_cell","_law_many"] (Zg Zdp):=by constructor<;>first|rfl|decide +kernel
theorem Yf:FnScope ["_law_cell","_law_rest","_law_size_here","_law_number","_law_found","_law_k","_law_at"] ["_law_cell"] (Zg Zdo):=by constructor<;>first|rfl|decide +kernel
theorem Zbl:FnScope ["_law_pool_here","_law_way","_law_low","_law_cell"] ["_law_pool_here","_law_way"] (Zg Zcn):=by constructor<;>first|rfl|decide +kernel
theorem Zid:FnScope ["_law_cell","_law_number"] ["_law_cell"] (Zg Zfh):=by constructor<;>first|rfl|decide +kernel
theorem Zld:FnScope ["_law_cell"] ["_law_cell"] (Zg Zco):=by constructor<;>first|rfl|decide +kernel
theorem Zjz:FnScope ["self","value"] ["self","value"] (Zg Qn):=by constructor<;>first|rfl|decide +kernel
theorem Zbc:FnScope ["self","value","place"] ["self","value"] (Zg Ws):=by constructor<;>first|rfl|decide +kernel
theorem Zdl:FnScope ["self","source","place"] ["self","source"] (Zg Qo):=by constructor<;>first|rfl|decide +kernel
theorem Zhg:FnScope ["self","value"] ["self","value"] (Zg Ja):=by constructor<;>first|rfl|decide +kernel
theorem Zes:FnScope ["self","value"] ["self","value"] (Zg Yx):=by constructor<;>first|rfl|decide +kernel
theorem Zhh:FnScope ["self","source"] ["self","source"] (Zg Jb):=by constructor<;>first|rfl|decide +kernel
theorem Zle:FnScope ["self","value"] ["self","value"] (Zg Zah):=by constructor<;>first|rfl|decide +kernel
theorem Zhd:FnScope ["self","value"] ["self","value"] (Zg Wx):=by constructor<;>first|rfl|decide +kernel
theorem Zlf:FnScope ["self","source"] ["self","source"] (Zg Zai):=by constructor<;>first|rfl|decide +kernel
theorem Zlk:FnScope ["self","source"] ["self","source"] (Zg Zam):=by constructor<;>first|rfl|decide +kernel
theorem Zlj:FnScope ["self","value"] ["self","value"] (Zg Zal):=by constructor<;>first|rfl|decide +kernel
theorem Zhf:FnScope ["self","value"] ["self","value"] (Zg Wz):=by constructor<;>first|rfl|decide +kernel
theorem Zpr:FnScope ["self","value"] ["self","value"] (Zg Xw):=by constructor<;>first|rfl|decide +kernel
theorem Zca:FnScope ["source","steps"] ["source"] (Zg Zab):=by constructor<;>first|rfl|decide +kernel
theorem Zev:FnScope ["source","n"] ["source"] (Zg Zcr):=by constructor<;>first|rfl|decide +kernel
theorem Qe:FnScope ["source","ahead","digits"] ["source"] (Zg Zct):=by constructor<;>first|rfl|decide +kernel
theorem Yo:FnScope ["steps","top","bottom","step","turned_over"] ["steps"] (Zg Zbo):=by constructor<;>first|rfl|decide +kernel
theorem Znt:FnScope ["steps"] ["steps"] (Zg Zdu):=by constructor<;>first|rfl|decide +kernel
theorem Wi:FnScope ["fraction","steps","top","bottom","rest"] ["fraction"] (Zg Zfb):=by constructor<;>first|rfl|decide +kernel
theorem Yl:FnScope ["steps","last","rows","k","step","row"] ["steps"] (Zg Zat):=by constructor<;>first|rfl|decide +kernel
theorem Zad:FnScope ["fraction","steps"] ["fraction"] (Zg Jf):=by constructor<;>first|rfl|decide +kernel
theorem Zjp:FnScope ["fraction"] ["fraction"] (Zg Zbn):=by constructor<;>first|rfl|decide +kernel
theorem We:FnScope ["one","other","rest"] ["one","other"] (Zg Jx):=by constructor<;>first|rfl|decide +kernel
theorem Je:FnScope ["_law_script","_law_pool_here","_law_form_here","_law_made_here","_law_some","_law_early","_law_turn","_law_back","_law_rows","_law_k","_law_j","_law_way","_law_due"] ["_law_script"] (Zg Zwh):=by constructor<;>first|rfl|decide +kernel
theorem Zpn:FnScope ["_law_found","_law_due"] ["_law_found","_law_due"] (Zg Zcp):=by constructor<;>first|rfl|decide +kernel
theorem Zfx:FnScope ["_law_pool_here","_law_cell"] ["_law_pool_here"] (Zg Zdq):=by constructor<;>first|rfl|decide +kernel
theorem Zbz:FnScope ["n"] ["n"] (Zg Ww):=by constructor<;>first|rfl|decide +kernel
theorem Zpl:FnScope ["form","signs"] ["form","signs"] (Zg Zfc):=by constructor<;>first|rfl|decide +kernel
theorem Zib:FnScope ["form","source","value"] ["form","source"] (Zg Zfa):=by constructor<;>first|rfl|decide +kernel
theorem Znq:FnScope ["_law_way","_law_mine","_law_theirs"] ["_law_way","_law_mine","_law_theirs"] (Zg Zdn):=by constructor<;>first|rfl|decide +kernel
theorem Wu:FnScope ["_law_form_here","_law_some","_law_found","_law_value_here","_law_at"] ["_law_form_here","_law_some"] (Zg Zcm):=by constructor<;>first|rfl|decide +kernel
theorem Yg:FnScope ["_law_form_here","_law_one","_law_other","_law_word","_law_names_here","_law_bottom"] ["_law_form_here","_law_one","_law_other"] (Zg Zbe):=by constructor<;>first|rfl|decide +kernel
theorem Zbm:FnScope ["_law_forms","_law_one","_law_other","_law_k","_law_way"] ["_law_forms","_law_one","_law_other"] (Zg Zag):=by constructor<;>first|rfl|decide +kernel
theorem Zlc:FnScope ["row"] ["row"] (Zg Zcl):=by constructor<;>first|rfl|decide +kernel
theorem Zin:FnScope ["n","width"] ["n","width"] (Zg Zau):=by constructor<;>first|rfl|decide +kernel
theorem Zns:FnScope ["n","most"] ["n","most"] (Zg Zds):=by constructor<;>first|rfl|decide +kernel
theorem Zju:FnScope ["self","signs","at"] ["self","signs","at"] (Zg Zbq):=by constructor<;>first|rfl|decide +kernel
theorem Zar:FnScope ["self","wished","sign"] ["self"] (Zg Qk):=by constructor<;>first|rfl|decide +kernel
theorem Zjt:FnScope ["self"] ["self"] (Zg Qj):=by constructor<;>first|rfl|decide +kernel
theorem Qd:FnScope ["source","most","n","k"] ["source","most"] (Zg Zcs):=by constructor<;>first|rfl|decide +kernel
theorem Zpq:FnScope ["n"] ["n"] (Zg Zfj):=by constructor<;>first|rfl|decide +kernel
theorem Jn:FnScope ["n","m","digits","ahead","end"] ["n"] (Zg Zdt):=by constructor<;>first|rfl|decide +kernel
theorem Znp:FnScope ["n"] ["n"] (Zg Zdm):=by constructor<;>first|rfl|decide +kernel
theorem Yr:FnScope ["source","width","n","k"] ["source","width"] (Zg Wt):=by constructor<;>first|rfl|decide +kernel
theorem Zrs:FnScope ["text","signs"] ["text","signs"] (Zg Zhi):=by constructor<;>first|rfl|decide +kernel
theorem Zrt:FnScope ["name"] ["name"] (Zg Zhj):=by constructor<;>first|rfl|decide +kernel
theorem Zic:FnScope ["parts","names"] ["parts"] (Zg Zfd):=by constructor<;>first|rfl|decide +kernel
theorem Znu:FnScope ["self","low","high"] ["self","low","high"] (Zg Zdv):=by constructor<;>first|rfl|decide +kernel
theorem Zis:FnScope ["self","signs"] ["self","signs"] (Zg Zaw):=by constructor<;>first|rfl|decide +kernel
theorem Zjv:FnScope ["self","parts"] ["self","parts"] (Zg Zbr):=by constructor<;>first|rfl|decide +kernel
theorem Zjy:FnScope ["self","cases"] ["self","cases"] (Zg Zbs):=by constructor<;>first|rfl|decide +kernel
theorem Zli:FnScope ["self","inner"] ["self","inner"] (Zg Zcu):=by constructor<;>first|rfl|decide +kernel
theorem Znx:FnScope ["self","inner"] ["self","inner"] (Zg Zdw):=by constructor<;>first|rfl|decide +kernel
theorem Zjq:FnScope ["self","inner"] ["self","inner"] (Zg Zbp):=by constructor<;>first|rfl|decide +kernel
theorem Znr:FnScope ["value"] ["value"] (Zg Zdr):=by constructor<;>first|rfl|decide +kernel
theorem Zip:FnScope ["self","value"] ["self","value"] (Zg Jp):=by constructor<;>first|rfl|decide +kernel
theorem Zlg:FnScope ["self","value"] ["self","value"] (Zg Zaj):=by constructor<;>first|rfl|decide +kernel
theorem Znv:FnScope ["self","value"] ["self","value"] (Zg Zbf):=by constructor<;>first|rfl|decide +kernel
theorem Zit:FnScope ["self","value"] ["self","value"] (Zg Js):=by constructor<;>first|rfl|decide +kernel
theorem Zjr:FnScope ["self","value"] ["self","value"] (Zg Qg):=by constructor<;>first|rfl|decide +kernel
theorem Zny:FnScope ["self","value"] ["self","value"] (Zg Zbh):=by constructor<;>first|rfl|decide +kernel
theorem Zjw:FnScope ["self","value"] ["self","value"] (Zg Ql):=by constructor<;>first|rfl|decide +kernel
theorem Zez:FnScope ["self","value"] ["self","value"] (Zg Wf):=by constructor<;>first|rfl|decide +kernel
theorem Zhe:FnScope ["self","value"] ["self","value"] (Zg Wy):=by constructor<;>first|rfl|decide +kernel
theorem Zio:FnScope ["self","value"] ["self","value"] (Zg Jo):=by constructor<;>first|rfl|decide +kernel
theorem Zfy:FnScope ["self","value"] ["self","value"] (Zg Wp):=by constructor<;>first|rfl|decide +kernel
theorem Zir:FnScope ["self","value"] ["self","value"] (Zg Jr):=by constructor<;>first|rfl|decide +kernel
theorem Zfz:FnScope ["self","value"] ["self","value"] (Zg Wq):=by constructor<;>first|rfl|decide +kernel
theorem Ziq:FnScope ["self","source"] ["self","source"] (Zg Jq):=by constructor<;>first|rfl|decide +kernel
theorem Zlh:FnScope ["self","source"] ["self","source"] (Zg Zak):=by constructor<;>first|rfl|decide +kernel
theorem Znw:FnScope ["self","source"] ["self","source"] (Zg Zbg):=by constructor<;>first|rfl|decide +kernel
theorem Zdk:FnScope ["self","source","value"] ["self","source"] (Zg Qh):=by constructor<;>first|rfl|decide +kernel
theorem Zga:FnScope ["self","source","values"] ["self","source"] (Zg Zbi):=by constructor<;>first|rfl|decide +kernel
theorem Zjx:FnScope ["self","source"] ["self","source"] (Zg Qm):=by constructor<;>first|rfl|decide +kernel
theorem Zaa:FnScope ["self","source","text"] ["self","source"] (Zg Jt):=by constructor<;>first|rfl|decide +kernel
theorem Zgb:FnScope ["self","text"] ["self","text"] (Zg Wr):=by constructor<;>first|rfl|decide +kernel
theorem Zas:FnScope ["self","value","most"] ["self","value"] (Zg Wg):=by constructor<;>first|rfl|decide +kernel
theorem Zjs:FnScope ["self","sign"] ["self","sign"] (Zg Qi):=by constructor<;>first|rfl|decide +kernel
structure NB(mg:Str→Option Value):Prop where
 len_:mg "len"=none
 range_:mg "range"=none
 int_:mg "int"=none
 str_:mg "str"=none
 bool_:mg "bool"=none
 tuple_:mg "tuple"=none
 isinstance_:mg "isinstance"=none
 min_:mg "min"=none
 list_:mg "list"=none
 all_:mg "all"=none
 reversed_:mg "reversed"=none
 enumerate_:mg "enumerate"=none
 zip_:mg "zip"=none
 set_:mg "set"=none
 sorted_:mg "sorted"=none
 abs_:mg "abs"=none
section
open PySem L2 KM
variable {P:Program} {w:World} {K:Ua} {mg:Str→Option Value} {base:Heap}
variable {f C:Addr}{fd:FuncData}{c:FC}{n:Nat}{ff:D→Bool}{has:Sl→Bool}{fw:D→List Bool}
seal PE PT PW PA PS PSs PG PGs PI PTs PC PO
local macro_rules | `(tactic| walk_at "g1")=>`(tactic| first
 | with_reducible exact True.intro
 | refine⟨_,rfl,?_⟩
 | refine⟨_,_,rfl,rfl,?_⟩
 | refine Or.inl ⟨_,_,rfl,rfl,?_⟩
 | refine Or.inr ⟨_,_,rfl,rfl,?_⟩
 | refine⟨rfl,?_⟩
 | refine⟨(by first | omega | decide),?_⟩)
local macro_rules | `(tactic| walk_at "g")=>`(tactic| repeat walk_at "g1")
theorem iteD{p A B:Prop}[Decidable p](h1:p→A)(h2:¬p→B):if decide p=true then A else B:=by
 by_cases h:p
 ·rw[if_pos (Ut h)];exact h1 h
 ·rw[if_neg (by simpa using h)];exact h2 h
theorem iteN{p A B:Prop}[Decidable p](h:¬p)(h2:B):if decide p=true then A else B:=by rw[if_neg (by simpa using h)];exact h2
theorem iteY{p A B:Prop}[Decidable p](h:p)(h2:A):if decide p=true then A else B:=by rw[if_pos (Ut h)];exact h2
theorem small7{n:Nat}(h:n≤16000000):n≤sizeLine:=UC h (by decide)
def Qs:Sp:=fun vs H Q _=>∃ l:List Bool,vs=[.str (rowS l)]∧l.length≤16000000∧Q (.str (rowS (l.map (!·)))) H
theorem Xo{n:Nat}(h:n≤100000):n≤sizeLine:=UC h (by decide)
theorem Zxb(l:List Bool){fe:Nat→V}(g:Bool→Bool)(h:∀ i,i<l.length→fe i = .str (rowS [g (l.getD i false)])):(List.range l.length).map fe=((l.map g).map fun b=>rowS [b]).map V.str:=by
 apply List.ext_getElem?
 intro i
 rw[Ur,Ur,Ur,Ur]
 rcases UZ i l.length with z | z
 ·rw[List.getElem?_range z,Ui z]
  have:=h i z
  rw[Uk,Ui z] at this
  exact congrArg some this
 ·rw[Vh (by simpa using z),Vh z];rfl
theorem Zqq(l:List Bool):((l.map fun b=>rowS [b]).map (·.length)).sum+(l.map fun b=>rowS [b]).length*(Str.ofString "").length=l.length:=by
 have e:(Str.ofString "").length=0:=by decide +kernel
 rw[e,Nat.mul_zero,Nat.add_zero]
 induction l with
 | nil=>rfl
 | cons b r ih=>simp only[UP,List.sum_cons,ih,Zr,Uq,List.length_nil];omega
theorem Zki{σ:St}(h:σ.length=1):∃ z,σ=[z]:=by
 match σ,h with
 | [z],_=>exact⟨z,rfl⟩
theorem Zll(F:FunAt K mg "turned_row" Zcl ["row"] f fd):DefOk P w K mg base 1 "turned_row" ["row"] Qs:=by
 refine F.ok Zlc (fun vs H Q E h=>?_) (fun cdv A outer s H vs Q E hr h=>?_)
 ·obtain⟨l,rfl,_⟩:=h;rfl
 obtain⟨l,rfl,hl,q⟩:=h
 refine⟨_,(Zf (Zj (Wb PySem.F.plainAttrs_str PySem.F.slot_str_join PySem.F.type_str_join Zem Zu (Za (Yd ["sign"] [] rfl (by decide +kernel) trivial (piAll (pv 0)) (fun _ _ _ _ _=>(Zy (i:=0) (show (["sign"]:List Str).Nodup by decide +kernel) rfl (by first | exact Or.inl rfl | exact Or.inr rfl))) (fun _ _ _ _ _=>Xs) (fun _ _ _ _ _=>(Wm (Zl oEq (pv 0) Zu (Zk _)) Zu Zu))) Ze)))),?_⟩
 try dsimp only[cxK0,cxK1,cxK2,cxK3]
 refine⟨rfl,.inr ⟨_,rfl,_,rfl,fun D hD=>?_⟩⟩
 refine Zkx l.length (fun i => .str (rowS [l.getD i false])) (fun i => .str (rowS [!l.getD i false])) (fun σ=>σ.length=1) (small7 hl) ?_ ?_ ?_ ?_ ?_ ?_
 ·rfl
 ·intro i H1 hi;show i<(rowS l).cps.size;simpa [rowS] using hi
 ·intro H1;show (rowS l).cps.size≤l.length;simp[rowS]
 ·rintro i H1 x H2 hi ⟨rfl,c,hc,rfl⟩
  exact⟨rfl,Zwj hc⟩
 ·intro i σ1 H1 hi hS R hR
  obtain⟨z,rfl⟩:=Zki hS
  refine⟨_,rfl,rfl,_,rfl,?_⟩
  revert hR
  rw[s0,s1,Zwl]
  cases l.getD i false
  ·intro hR;exact iteT (hR _ (by rfl))
  ·intro hR;exact iteF (hR _ (by rfl))
 ·refine⟨_,D,(l.map (!·)).map fun b=>rowS [b],rfl,rfl,Uy ?_,?_,H,.refl ?_,?_⟩
  ·rw[Zb];exact congrArg (fun x=>some (HO.lst x)) (Zxb l (!·) fun i _=>rfl)
  ·rw[Zqq,Uj];omega
  ·exact Zq hD
  ·rw[Zmo];exact q
def spLowerDigits:Sp:=fun vs H Q _=>∃ n d:Nat,vs=[.int n,.int d]∧d≤16000000∧Q (.str (rowS (Xh n d))) H
theorem Zri(n d:Nat):Xh n d=(List.range d).map fun i=>n.testBit (d - 1 - i):=by
 induction d with
 | zero=>rfl
 | succ d ih =>
  rw[Xh,ih,List.range_succ_eq_map,UP,UU]
  congr 1
  apply Vg
  intro i hi
  show n.testBit (d - 1 - i)=n.testBit (d+1 - 1 - (i+1))
  congr 1
  omega
theorem Xar(n k:Nat):Builtin.bitAnd ((n:Int)/2 ^ k) 1=((n.testBit k).toNat:Int):=by
 rw[PyProof.Rows.bitAnd_m1]
 have e:((n:Int)/2 ^ k)%2=((n/2 ^ k%2:Nat):Int):=by
  rw[Int.natCast_emod,Int.natCast_ediv,Int.natCast_pow];rfl
 rw[e,Nat.testBit_eq_decide_div_mod_eq]
 have:n/2 ^ k%2<2:=Nat.mod_lt _ (by decide)
 by_cases q:n/2 ^ k%2=1
 ·simp[q]
 ·have:n/2 ^ k%2=0:=by omega
  simp[this]
theorem Ziv(nb:NB mg)(F:FunAt K mg "lower_digits" Zau ["n","width"] f fd):DefOk P w K mg base 1 "lower_digits" ["n","width"] spLowerDigits:=by
 refine F.ok Zin (fun vs H Q E h=>?_) (fun cdv A outer s H vs Q E hr h=>?_)
 ·obtain⟨n,d,rfl,_⟩:=h;rfl
 obtain⟨n,d,rfl,hl,q⟩:=h
 refine⟨_,(Zf (Zj (Wb PySem.F.plainAttrs_str PySem.F.slot_str_join PySem.F.type_str_join Zem Zu (Za (Yd ["k"] [(0,"n")] rfl (by decide +kernel) ⟨rfl,.inl rfl,trivial⟩ (Zmg rfl nb.range_ (Za (Zh oSub (pv 1) Zd) (Za (Zbk Jk Zd) (Za (Zbk Jk Zd) Ze)))) (fun _ _ _ _ _=>(Zy (i:=0) (show (["k","n"]:List Str).Nodup by decide +kernel) rfl (by first | exact Or.inl rfl | exact Or.inr rfl))) (fun _ _ _ _ _=>Xs) (fun _ _ _ _ _=>(Wm (Zl oEq (Zh Xbk (Zh Zwv (pv 1) (pv 0)) Zd) Zd (Zk _)) Zu Zu))) Ze)))),?_⟩
 try dsimp only[cxK0,cxK1,cxK2,cxK3]
 refine⟨rfl,_,rfl,_,_,rfl,rfl,_,rfl,_,rfl,_,_,rfl,⟨by omega,by omega,by decide,by decide⟩,fun D hD=>?_⟩
 have hn:(((d:Int) - 1) - (-1)).toNat=d:=by omega
 refine Zkx (((d:Int) - 1) - (-1)).toNat (fun i => .int ((d:Int) - 1+i*(-1))) (fun i => .str (rowS [n.testBit (d - 1 - i)])) (fun σ=>∃ z,σ=[z,some (.int n)]) (by rw[hn];exact small7 hl) ?_ ?_ ?_ ?_ ?_ ?_
 ·exact⟨_,rfl⟩
 ·intro i H1 hi;exact hi
 ·intro H1;exact Up _
 ·rintro i H1 x H2 hi ⟨rfl,rfl⟩
  exact⟨rfl,rfl⟩
 ·rintro i σ1 H1 hi ⟨z,rfl⟩ R hR
  rw[hn] at hi
  have ej:((d:Int) - 1+(i:Int)*(-1)).toNat=d - 1 - i:=by omega
  refine⟨_,rfl,_,rfl,_,_,rfl,rfl,(by omega),_,_,rfl,rfl,rfl,_,rfl,?_⟩
  have hb:Builtin.bitAnd ((n:Int)/2 ^ ((d:Int) - 1+(i:Int)*(-1)).toNat) 1=((n.testBit (d - 1 - i)).toNat:Int):=by rw[ej];exact Xar _ _
  revert hR
  rw[s0,s1]
  cases e:n.testBit (d - 1 - i)
  ·rw[e] at hb
   intro hR;exact iteN (fun c=>absurd (hb.symm.trans (V.int.inj c)) (by decide)) (hR _ ⟨_,rfl⟩)
  ·rw[e] at hb
   intro hR;exact iteY (congrArg V.int hb) (hR _ ⟨_,rfl⟩)
 ·refine⟨_,D,(Xh n d).map fun b=>rowS [b],rfl,rfl,Uy ?_,?_,H,.refl ?_,?_⟩
  ·rw[Zb,hn,Zri,UU,UU];rfl
  ·rw[Zqq,Xe];omega
  ·exact Zq hD
  ·rw[Zmo];exact q
def spFixedRow:Sp:=fun vs H Q _=>∃ n m:Nat,vs=[.int n,.int m]∧n≤m∧blen m≤16000000∧Q (.str (rowS (Xh n (blen m)))) H
theorem Zok(F:FunAt K mg "fixed_row" Zds ["n","most"] f fd)(D_lower_digits:DefOk P w K mg base 1 "lower_digits" ["n","width"] spLowerDigits):DefOk P w K mg base 2 "fixed_row" ["n","most"] spFixedRow:=by
 refine F.ok Zns (fun vs H Q E h=>?_) (fun cdv A outer s H vs Q E hr h=>?_)
 ·obtain⟨n,m,rfl,_⟩:=h;rfl
 obtain⟨n,m,rfl,hl,hb,q⟩:=h
 refine⟨_,(Zc (Zz (PW.pt (Zae (Zl oLt (pv 0) Zd (Zk _)) (Ju (Zl oGt (pv 0) (pv 1) (Zk _))))) (Zf Yv) Zo)
  (Zf (Zj (Zi D_lower_digits hr (Za (pv 0) (Za (Zkf PySem.F.plainAttrs_int PySem.F.slot_int_bit_length PySem.F.type_int_bit_length Zcf (pv 1)) Ze)))))),?_⟩
 try dsimp only[cxK0,cxK1,cxK2,cxK3]
 refine⟨_,rfl,.inl ⟨_,_,rfl,rfl,_,rfl,?_⟩⟩
 refine iteN (by omega) ⟨_,rfl,_,rfl,_,_,rfl,rfl,_,rfl,?_⟩
 refine iteN (by omega) ⟨_,rfl,_,rfl,rfl,_,rfl,rfl,?_⟩
 rw[Zeq]
 exact⟨n,blen m,rfl,hb,H,.refl (Vy _),q⟩
noncomputable def Yi(z:Str)(i:Int)(t e:Bool)(u:Int):List (Str×V):=[("signs",.str z),("place",.int i),("turned",.bl t),("endless",.bl e),("wished",.int u)]
noncomputable abbrev flds(z:Str)(i:Int)(t e:Bool):List (Str×V):=Yi z i t e 0
structure SrcCls(K:Ua)(C:Addr):Prop where
 cl:Cls K C
 nS:NoAttr K C "signs"
 nP:NoAttr K C "place"
 nT:NoAttr K C "turned"
 nE:NoAttr K C "endless"
 nW:NoAttr K C "wished"
theorem f01:¬(("signs":Str)="place"):=by decide +kernel
theorem f02:¬(("signs":Str)="turned"):=by decide +kernel
theorem f03:¬(("signs":Str)="endless"):=by decide +kernel
theorem f04:¬(("signs":Str)="wished"):=by decide +kernel
theorem f12:¬(("place":Str)="turned"):=by decide +kernel
theorem f13:¬(("place":Str)="endless"):=by decide +kernel
theorem f14:¬(("place":Str)="wished"):=by decide +kernel
theorem f23:¬(("turned":Str)="endless"):=by decide +kernel
theorem f24:¬(("turned":Str)="wished"):=by decide +kernel
theorem f34:¬(("endless":Str)="wished"):=by decide +kernel
theorem g10:(("place":Str) == "signs")=false:=by decide +kernel
theorem g20:(("turned":Str) == "signs")=false:=by decide +kernel
theorem g21:(("turned":Str) == "place")=false:=by decide +kernel
theorem g40:(("wished":Str) == "signs")=false:=by decide +kernel
theorem g41:(("wished":Str) == "place")=false:=by decide +kernel
theorem g42:(("wished":Str) == "turned")=false:=by decide +kernel
theorem g43:(("wished":Str) == "endless")=false:=by decide +kernel
theorem Zek(z:Str):putF "signs" (.str z) []=([("signs",.str z)]:List (Str×V)):=rfl
theorem Zcw(z:Str)(i:Int):putF "place" (.int i) ([("signs",.str z)]:List (Str×V))=([("signs",.str z),("place",.int i)]:List (Str×V)):=by
 simp only[putF,f01,if_false]
theorem Zdx(z:Str)(i:Int)(t:Bool):putF "turned" (.bl t) ([("signs",.str z),("place",.int i)]:List (Str×V))=([("signs",.str z),("place",.int i),("turned",.bl t)]:List (Str×V)):=by
 simp only[putF,f02,f12,if_false]
theorem Zge(z:Str)(i:Int)(t e:Bool):putF "endless" (.bl e) ([("signs",.str z),("place",.int i),("turned",.bl t)]:List (Str×V))=([("signs",.str z),("place",.int i),("turned",.bl t),("endless",.bl e)]:List (Str×V)):=by
 simp only[putF,f03,f13,f23,if_false]
theorem Zpw(z:Str)(i:Int)(t e:Bool)(u:Int):putF "wished" (.int u) ([("signs",.str z),("place",.int i),("turned",.bl t),("endless",.bl e)]:List (Str×V))=Yi z i t e u:=by
 simp only[putF,f04,f14,f24,f34,if_false];rfl
theorem Zue(z:Str)(i j:Int)(t e:Bool)(u:Int):putF "place" (.int j) (Yi z i t e u)=Yi z j t e u:=by
 simp only[Yi,putF,f01,if_false,if_true]
theorem Zrw(z:Str)(i:Int)(t t2 e:Bool)(u:Int):putF "turned" (.bl t2) (Yi z i t e u)=Yi z i t2 e u:=by
 simp only[Yi,putF,f02,f12,if_false,if_true]
theorem Zkd(z:Str)(i:Int)(t e:Bool)(u u2:Int):putF "wished" (.int u2) (Yi z i t e u)=Yi z i t e u2:=by
 simp only[Yi,putF,f04,f14,f24,f34,if_false,if_true]
theorem Zfp(z:Str)(i:Int)(t e:Bool){u:Int}:(Yi z i t e u).lookup ("signs":Str)=some (.str z):=by simp[Yi]
theorem Zda(z:Str)(i:Int)(t e:Bool){u:Int}:(Yi z i t e u).lookup ("place":Str)=some (.int i):=by
 simp[Yi,List.lookup,g10]
theorem Zig(z:Str)(i:Int)(t e:Bool){u:Int}:(Yi z i t e u).lookup ("turned":Str)=some (.bl t):=by
 simp[Yi,List.lookup,g20,g21]
theorem Zqo(z:Str)(i:Int)(t e:Bool){u:Int}:(Yi z i t e u).lookup ("wished":Str)=some (.int u):=by
 simp[Yi,List.lookup,g40,g41,g42,g43]
theorem Ye(z:Str)(i:Int)(t e:Bool){u:Int}{m:Str}(h:(m == ("signs":Str))=false)(h2:(m == ("place":Str))=false)(h3:(m == ("turned":Str))=false)
  (h4:(m == ("endless":Str))=false:=by decide +kernel) (h5:(m == ("wished":Str))=false:=by decide +kernel):(Yi z i t e u).lookup m=none:=by
 simp[Yi,List.lookup,h,h2,h3,h4,h5]
def SrcAt(H:Hp)(p C dx:Addr)(l:List Bool)(i:Nat)(t e:Bool):Prop:=∃ u:Int,H p=some (.ins C dx (Yi (rowS l) ((i:Nat):Int) t e u))
def spSrcInit(C:Addr):Sp:=fun vs H Q _=>∃ p dx z i,vs=[.ref p,.str z,.int i]∧H p=some (.ins C dx [])∧Q .non (upd H p (.ins C dx (flds z i false false)))
theorem Zpz(T:SrcCls K C)(F:Fun K "__init__" "Source.__init__" Zbq f fd):FnOk P w K mg base CX0 1 f fd ["self","signs","at"] (spSrcInit C):=by
 refine F.ok Zju (fun vs H Q E h=>?_) (fun cdv A outer s H vs Q E hr h=>?_)
 ·obtain⟨p,dx,z,i,rfl,_⟩:=h;rfl
 obtain⟨p,dx,z,i,rfl,hp,q⟩:=h
 refine⟨_,(Zc (Yy (pv 0) (pv 1) rfl)
  (Zc (Yy (pv 0) (pv 2) rfl)
  (Zc (Yy (pv 0) Jw rfl)
  (Zc (Yy (pv 0) Jw rfl)
  (Zf (Yy (pv 0) Zd rfl)))))),?_⟩
 try dsimp only[cxK0,cxK1,cxK2,cxK3]
 refine⟨_,rfl,_,rfl,p,C,dx,_,rfl,hp,T.cl,T.nS,(by show 0<1000;decide),?_⟩
 refine⟨_,rfl,_,rfl,p,C,dx,_,rfl,Zb,T.cl,T.nP,(by show 1<1000;decide),?_⟩
 refine⟨_,rfl,p,C,dx,_,rfl,Zb,T.cl,T.nT,(by rw[Zek,Zcw];show 2<1000;decide),?_⟩
 refine⟨_,rfl,p,C,dx,_,rfl,Zb,T.cl,T.nE,(by rw[Zek,Zcw,Zdx];show 3<1000;decide),?_⟩
 refine⟨_,rfl,p,C,dx,_,rfl,Zb,T.cl,T.nW,(by rw[Zek,Zcw,Zdx,Zge];show 4<1000;decide),?_⟩
 rw[Xf,Xf,Xf,Xf,Zek,Zcw,Zdx,Zge,Zpw]
 exact q
def spDraw(C:Addr):Sp:=fun vs H Q _=>∃ (p dx:Addr) (l:List Bool) (i:Nat) (t e b:Bool),vs=[.ref p]∧SrcAt H p C dx l i t e∧l.length≤16000000∧l[i]?=some b∧Q (.int ((xor t b).toNat:Nat)) (upd H p (.ins C dx (flds (rowS l) ((i+1:Nat):Int) t e)))
theorem Zzs(nb:NB mg)(T:SrcCls K C)(F:Fun K "draw" "Source.draw" Qk f fd):FnOk P w K mg base CX0 1 f fd ["self"] (spDraw C):=by
 refine F.ok Zar (fun vs H Q E h=>?_) (fun cdv A outer s H vs Q E hr h=>?_)
 ·obtain⟨p,dx,l,i,t,e,b,rfl,_⟩:=h;rfl
 obtain⟨p,dx,l,i,t,e,b,rfl,⟨u,hp⟩,hl,hb,q⟩:=h
 have hi:i<l.length:=(Uw.mp hb).1
 refine⟨_,(Zc (Zp (i:=1) Zar.nd rfl (by exact Or.inl rfl) (Xl (pv 0) rfl))
  (Zc (Yy (pv 0) Zd rfl)
  (Zc (Zz (Zl oLt (Xl (pv 0) rfl) (Zm Zt rfl nb.len_ Xg (Za (Xl (pv 0) rfl) Ze)) (Zk _)) (Zc (Zp (i:=2) Zar.nd rfl (by exact Or.inl rfl) (Wc Jj rfl nb.int_ Zba (Za (Zs iAll (Xl (pv 0) rfl) (Xl (pv 0) rfl) (fun _ _=>rfl)) Ze)))
   (Zc (Yy (pv 0) (Zh oAdd (Xl (pv 0) rfl) Zd) rfl)
   (Zf (Zj (Wm (Xm (Xl (pv 0) rfl) (fun _=>rfl)) (Zh oSub Zd (pv 2)) (pv 2)))))) Zo)
  (Zc (Zz (Yt (Xm (Xl (pv 0) rfl) (fun _=>rfl))) (Zf Yv) Zo)
  (Zf (Zj (pv 1))))))),?_⟩
 try dsimp only[cxK0,cxK1,cxK2,cxK3]
 refine⟨_,rfl,p,C,dx,_,_,rfl,hp,T.cl,T.nW,Zqo ..,?_⟩
 refine⟨_,rfl,p,C,dx,_,rfl,hp,T.cl,T.nW,(by show 5<1000;decide),?_⟩
 rw[Zkd]
 refine⟨_,rfl,p,C,dx,_,_,rfl,Zb,T.cl,T.nP,Zda ..,_,rfl,p,C,dx,_,_,rfl,Zb,T.cl,T.nS,Zfp ..,_,_,rfl,⟨by rw[Zr];exact small7 hl,rfl⟩,.inl ⟨_,_,rfl,rfl,_,rfl,?_⟩⟩
 refine iteY (by rw[Zr];omega) ?_
 refine⟨_,rfl,p,C,dx,_,_,rfl,Zb,T.cl,T.nS,Zfp ..,_,rfl,p,C,dx,_,_,rfl,Zb,T.cl,T.nP,Zda ..,.inr ⟨_,_,bc b,rfl,rfl,by rw[Zr];exact small7 hl,Zx (Zwk hb),.inr ⟨_,_,rfl,Zwf b,(by show 1≤640;decide),?_⟩⟩⟩
 refine⟨_,rfl,p,C,dx,_,_,rfl,Zb,T.cl,T.nP,Zda ..,.inl ⟨_,_,rfl,rfl,_,rfl,p,C,dx,_,rfl,Zb,T.cl,T.nP,(by show 5<1000;decide),?_⟩⟩
 rw[Zue,Xf]
 refine⟨_,rfl,p,C,dx,_,_,rfl,Zb,T.cl,T.nT,Zig ..,_,rfl,?_⟩
 cases t with
 | false =>
  refine iteF ⟨_,rfl,?_⟩
  have e:(false ^^ b)=b:=by cases b<;>rfl
  rw[e] at q
  exact q
 | true =>
  refine iteT ⟨_,rfl,_,_,rfl,rfl,?_⟩
  have e:((true ^^ b).toNat:Int)=1 - (b.toNat:Int):=by cases b<;>rfl
  rw[e] at q
  exact q
def spTurn(C:Addr):Sp:=fun vs H Q _=>∃ (p dx:Addr) (l:List Bool) (i:Nat) (t e:Bool) (u:Int),vs=[.ref p]∧H p=some (.ins C dx (Yi (rowS l) ((i:Nat):Int) t e u))∧Q .non (upd H p (.ins C dx (Yi (rowS l) ((i:Nat):Int) (!t) e u)))
theorem Zzr(T:SrcCls K C)(F:Fun K "turn" "Source.turn" Qj f fd):FnOk P w K mg base CX0 1 f fd ["self"] (spTurn C):=by
 refine F.ok Zjt (fun vs H Q E h=>?_) (fun cdv A outer s H vs Q E hr h=>?_)
 ·obtain⟨p,dx,l,i,t,e,u,rfl,_⟩:=h;rfl
 obtain⟨p,dx,l,i,t,e,u,rfl,hp,q⟩:=h
 refine⟨_,(Zf (Yy (pv 0) (Zoa (Xl (pv 0) rfl)) rfl)),?_⟩
 try dsimp only[cxK0,cxK1,cxK2,cxK3]
 refine⟨_,rfl,p,C,dx,_,_,rfl,hp,T.cl,T.nT,Zig ..,t,rfl,_,rfl,p,C,dx,_,rfl,hp,T.cl,T.nT,(by show 5<1000;decide),?_⟩
 rw[Zrw]
 exact q
def spNo:Sp:=fun _ _ _ _=>False
noncomputable abbrev srcO(C dx:Addr)(l:List Bool)(i:Nat)(t e:Bool):HO := .ins C dx (flds (rowS l) ((i:Nat):Int) t e)
noncomputable abbrev srcW(C dx:Addr)(l:List Bool)(i:Nat)(t e:Bool)(u:Int):HO := .ins C dx (Yi (rowS l) ((i:Nat):Int) t e u)
def spDrawFixed(C:Addr):Sp:=fun vs H Q _=>∃ (p dx:Addr) (l:List Bool) (i n m:Nat) (t en:Bool),vs=[.ref p,.int m]∧H p=some (srcO C dx l i t en)∧l.length≤16000000∧n≤m∧i+blen m≤l.length∧
 ((l.drop i).take (blen m)).map (xor t)=Xh n (blen m)∧Q (.int n) (upd H p (srcO C dx l (i+blen m) t en))
theorem Zlt(nb:NB mg)(c_C:Cls K C)(F:FunAt K mg "draw_fixed" Zcs ["source","most"] f fd)(M_draw:MethOk P w K mg base 1 C "draw" ["self"] (spDraw C))(M_refuse:MethOk P w K mg base 1 C "refuse" ["self"] spNo):DefOk P w K mg base 2 "draw_fixed" ["source","most"] (spDrawFixed C):=by
 refine F.ok Qd (fun vs H Q E h=>?_) (fun cdv A outer s H vs Q E hr h=>?_)
 ·obtain⟨p,dx,l,i,n,m,t,en,rfl,_⟩:=h;rfl
 obtain⟨p,dx,l,i,n,m,t,en,rfl,hp,hl,hn,hi,hb,q⟩:=h
 refine⟨_,(Zc (Zp (i:=2) Qd.nd rfl (by exact Or.inl rfl) Zd)
  (Zc (Jg PassesOwn.never rfl (Zmg rfl nb.range_ (Za (Zh oSub (Zkf PySem.F.plainAttrs_int PySem.F.slot_int_bit_length PySem.F.type_int_bit_length Zcf (pv 1)) Zd) (Za (Zbk Jk Zd) (Za (Zbk Jk Zd) Ze)))) (Zy (i:=3) Qd.nd rfl (by exact Or.inl rfl))
   (Zc (Zp (i:=2) Qd.nd rfl (by exact Or.inl rfl) (Zh oAdd (Zh oMul Zd (pv 2)) (Xt M_draw c_C hr (pv 0))))
   (Zf (Zz (Zl oGt (pv 2) (Zh Zwv (pv 1) (pv 3)) (Zk _)) (Zf (Yj (Xt M_refuse c_C hr (pv 0)))) Zo))))
  (Zf (Zj (pv 2))))),?_⟩
 try dsimp only[cxK0,cxK1,cxK2,cxK3]
 have hbits:=Zeq m
 refine⟨_,rfl,rfl,_,rfl,rfl,_,_,rfl,rfl,_,rfl,_,rfl,_,_,rfl,⟨by omega,by omega,by decide,by decide⟩,?_⟩
 have hw:(((Builtin.Int.intBits ((m:Nat):Int):Nat):Int) - 1 - (-1)).toNat=blen m:=by omega
 refine Zso (fun j σ H2=>∃ z,σ=[some (.ref p),some (.int m),some (.int ((n/2 ^ (blen m - j):Nat):Int)),z]∧H2=upd H p (srcO C dx l (i+j) t en)) ?_ ?_ ?_
 ·refine⟨none,?_,(Zeg hp).symm⟩
  rw[Nat.sub_zero,Nat.div_eq_of_lt (Nat.lt_of_le_of_lt hn (Qq m))];rfl
 ·rintro j σ H2 hj ⟨z,rfl,rfl⟩
  rw[hw] at hj
  obtain⟨b,hb1,hb2⟩:=Zuh hb hj hi
  have ek:(((Builtin.Int.intBits ((m:Nat):Int):Nat):Int) - 1+(j:Int)*(-1)).toNat=blen m - 1 - j:=by omega
  have e1:blen m - j=blen m - 1 - j+1:=by omega
  have e2:blen m - (j+1)=blen m - 1 - j:=by omega
  have es:=Zxx n (blen m - 1 - j)
  refine⟨_,rfl,.inl ⟨_,_,rfl,rfl,.inl ⟨by decide,by decide⟩,_,rfl,p,dx,_,rfl,Zb,Ye _ _ _ _ (by decide +kernel) (by decide +kernel) (by decide +kernel),?_⟩⟩
  refine⟨p,dx,l,i+j,t,en,b,rfl,⟨_,Zb⟩,hl,hb1,.inl ⟨_,_,rfl,rfl,?_⟩⟩
  refine⟨_,rfl,_,rfl,_,rfl,_,_,rfl,rfl,(by omega),_,_,rfl,rfl,_,rfl,?_⟩
  have ev:(2:Int)*((n/2 ^ (blen m - j):Nat):Int)+(((t ^^ b).toNat:Nat):Int)=((n/2 ^ (blen m - (j+1)):Nat):Int):=by
   rw[hb2,e1,e2,es];omega
  refine iteN ?_ ?_
  ·rw[ev,ek,e2]
   have a1:((m:Nat):Int)/2 ^ (blen m - 1 - j)=((m/2 ^ (blen m - 1 - j):Nat):Int):=by
    rw[Int.natCast_ediv,Int.natCast_pow];rfl
   have a2:=Nat.div_le_div_right (c:=2 ^ (blen m - 1 - j)) hn
   rw[a1];omega
  ·rw[← ev]
   exact⟨_,rfl,by rw[Xf];rfl⟩
 ·rintro σ H2 ⟨z,rfl,rfl⟩
  rw[hw]
  refine⟨_,rfl,_,.ins hp (fun b u hb e=>by rw[Zn hb];exact e) Zb,?_⟩
  have e:n/2 ^ (blen m - blen m)=n:=by rw[Nat.sub_self,Nat.pow_zero,Nat.div_one]
  rw[e]
  exact q
def spCountRow:Sp:=fun vs H Q _=>∃ n:Nat,vs=[.int n]∧n+1<2 ^ 255∧Q (.str (rowS (cnt n))) H
theorem Zya{e:Nat}:e<8→0<(cend e).length:=by intro h;unfold cend;rw[if_neg (by omega)];decide
theorem Zky(e:Nat):(cend e).length≤1:=by unfold cend;split<;>simp
theorem Zye{n k:Nat}(h:2 ^ k≤n):k<blen n:=by
 rcases UZ k (blen n) with z | z
 ·exact z
 ·have:=Qq n
  have:=Nat.pow_le_pow_right (show 0<2 by decide) z
  omega
def CountIn(n:Int):Prop:=0≤n∧n<2 ^ 255 - 1
noncomputable instance (n:Int):Decidable (CountIn n):=inferInstanceAs (Decidable (_∧_))
def spIsCount:Sp:=fun vs H Q _=>∃ n:Int,vs=[.int n]∧Q (.bl (decide (CountIn n))) H
theorem countIn_blen{m:Nat}:CountIn (m:Int)↔blen (m+1)≤255:=by
 unfold CountIn
 constructor
 ·intro ⟨_,h⟩;exact Yh (by omega)
 ·intro h
  rcases UZ (m+1) (2 ^ 255) with z | z
  ·omega
  ·have:=Zye z;omega
theorem Zqh(g_MOST_DIGITS:GlobV mg "MOST_DIGITS" (.int 255))(F:FunAt K mg "is_count" Zfj ["n"] f fd):DefOk P w K mg base 1 "is_count" ["n"] spIsCount:=by
 refine F.ok Zpq (fun vs H Q E h=>?_) (fun cdv A outer s H vs Q E hr h=>?_)
 ·obtain⟨n,rfl,_⟩:=h;rfl
 obtain⟨n,rfl,q⟩:=h
 refine⟨_,(Zf (Zj (Yu (Xj oGe (pv 0) Zd (Zk _)) (Wl (Xj oLe (Zkf PySem.F.plainAttrs_int PySem.F.slot_int_bit_length PySem.F.type_int_bit_length Zcf (Zh oAdd (pv 0) Zd)) (Yw g_MOST_DIGITS) (Zk _)))))),?_⟩
 try dsimp only[cxK0,cxK1,cxK2,cxK3]
 refine⟨_,rfl,_,_,rfl,rfl,_,rfl,?_⟩
 refine iteD (fun c=>?_) (fun c=>?_)
 ·refine⟨_,rfl,.inl ⟨_,_,rfl,rfl,rfl,_,rfl,rfl,_,_,rfl,rfl,H,.refl (Vy _),?_⟩⟩
  obtain⟨m,rfl⟩:∃ m:Nat,n=m:=⟨n.toNat,by omega⟩
  rw[show ((m:Int)+1)=((m+1:Nat):Int) from rfl,Zeq (m+1)]
  have e:decide (((blen (m+1):Nat):Int)≤255)=decide (CountIn (m:Int)):=by
   rw[decide_eq_decide,countIn_blen];omega
  dsimp only
  rw[e]
  exact q
 ·refine⟨H,.refl (Vy _),?_⟩
  have e:decide (CountIn n)=false:=UB fun z=>c z.1
  rw[← e];exact q
theorem Zol(g_MOST_AHEAD:GlobV mg "MOST_AHEAD" (.int 7))(F:FunAt K mg "count_row" Zdt ["n"] f fd)(D_is_count:DefOk P w K mg base 1 "is_count" ["n"] spIsCount)(D_lower_digits:DefOk P w K mg base 1 "lower_digits" ["n","width"] spLowerDigits):DefOk P w K mg base 2 "count_row" ["n"] spCountRow:=by
 refine F.ok Jn (fun vs H Q E h=>?_) (fun cdv A outer s H vs Q E hr h=>?_)
 ·obtain⟨n,rfl,_⟩:=h;rfl
 obtain⟨n,rfl,hn,q⟩:=h
 refine⟨_,(Zc (Zz (Yt (Xm (Zi D_is_count hr (Za (pv 0) Ze)) (fun _=>rfl))) (Zf Yv) Zo)
  (Zc (Zp (i:=1) Jn.nd rfl (by exact Or.inl rfl) (Zh oAdd (pv 0) Zd))
  (Zc (Zp (i:=2) Jn.nd rfl (by exact Or.inl rfl) (Zkf PySem.F.plainAttrs_int PySem.F.slot_int_bit_length PySem.F.type_int_bit_length Zcf (pv 1)))
  (Zc (Zp (i:=3) Jn.nd rfl (by exact Or.inl rfl) (Zh oSub (Zkf PySem.F.plainAttrs_int PySem.F.slot_int_bit_length PySem.F.type_int_bit_length Zcf (pv 2)) Zd))
  (Zc (Zp (i:=4) Jn.nd rfl (by exact Or.inl rfl) (Wm (Zl oEq (pv 3) (Yw g_MOST_AHEAD) (Zk _)) Zu Zu))
  (Zf (Zj (Zh oAdd (Zh oAdd (Zh oAdd (Zh oMul Zu (pv 3)) (pv 4)) (Zi D_lower_digits hr (Za (pv 2) (Za (pv 3) Ze)))) (Zi D_lower_digits hr (Za (pv 1) (Za (Zh oSub (pv 2) Zd) Ze))))))))))),?_⟩
 try dsimp only[cxK0,cxK1,cxK2,cxK3]
 have hd:blen (n+1)≤255:=Yh hn
 have hp:0<blen (n+1):=Wo (by omega)
 have he:blen (blen (n+1))≤8:=Yh (by omega)
 have hq:0<blen (blen (n+1)):=Wo (by omega)
 have b1:=Zeq (n+1)
 have b2:=Zeq (blen (n+1))
 refine⟨_,rfl,_,rfl,_,rfl,?_⟩
 rw[Ut (countIn_blen.mpr hd)]
 refine iteF ⟨_,rfl,.inl ⟨_,_,rfl,rfl,_,rfl,rfl,_,rfl,rfl,?_⟩⟩
 rw[show ((n:Int)+1)=((n+1:Nat):Int) from rfl,b1]
 refine⟨_,rfl,rfl,_,rfl,rfl,_,_,rfl,rfl,?_⟩
 rw[b2]
 obtain⟨k,hk⟩:∃ k:Nat,((blen (blen (n+1)):Nat):Int) - 1=k:=⟨blen (blen (n+1)) - 1,by omega⟩
 have hk':k=blen (blen (n+1)) - 1:=by omega
 dsimp only
 rw[hk]
 have a1:(k:Int)<2 ^ 40:=by omega
 have a2 : -(2 ^ 40)<(k:Int):=by omega
 have a3:(Str.ofString "1").length*((k:Nat):Int).toNat≤sizeLine:=by rw[s1,Zr];exact Xo (by show 1*_≤_;omega)
 have a4:(Txt.mul (Str.ofString "1") (k:Int)).length+(rowS (cend (blen (blen (n+1))))).length≤sizeLine:=by
  rw[s1,Zje,Zr,Zr,List.length_replicate]
  have:=Zky (blen (blen (n+1)))
  exact Xo (by omega)
 have a5:(Txt.mul (Str.ofString "1") (k:Int)++rowS (cend (blen (blen (n+1))))).length+(rowS (Xh (blen (n+1)) k)).length≤sizeLine:=by
  rw[s1,Zje,Xx,Zr,Zr,Uo,List.length_replicate,Xe]
  have:=Zky (blen (blen (n+1)))
  exact Xo (by omega)
 have a6:(Txt.mul (Str.ofString "1") (k:Int)++rowS (cend (blen (blen (n+1))))++rowS (Xh (blen (n+1)) k)).length+(rowS (Xh (n+1) (blen (n+1) - 1))).length≤sizeLine:=by
  rw[s1,Zje,Xx,Xx,Zr,Zr,Uo,Uo,List.length_replicate,Xe,Xe]
  have:=Zky (blen (blen (n+1)))
  exact Xo (by omega)
 have ar:Txt.mul (Str.ofString "1") (k:Int)++rowS (cend (blen (blen (n+1))))++rowS (Xh (blen (n+1)) k)++rowS (Xh (n+1) (blen (n+1) - 1))=rowS (cnt n):=by
  rw[s1,Zje,Xx,Xx,Xx]
  unfold cnt
  rw[hk',UH,UH]
  rfl
 have ad:[V.int ((n:Int)+1),V.int (((blen (n+1):Nat):Int) - 1)]=[.int ((n+1:Nat):Int),.int ((blen (n+1) - 1:Nat):Int)]:=by
  have:((blen (n+1):Nat):Int) - 1=((blen (n+1) - 1:Nat):Int):=by omega
  rw[this];rfl
 refine⟨_,rfl,rfl,_,rfl,?_⟩
 refine iteD (fun c=>?_) (fun c=>?_)
 ·have hend:(Str.ofString "")=rowS (cend (blen (blen (n+1)))):=by
   have:=V.int.inj c
   rw[sE];unfold cend;rw[if_pos (by omega)]
  rw[hend]
  refine⟨_,rfl,.inr ⟨_,_,rfl,rfl,a1,a2,a3,_,rfl,.inr ⟨_,_,rfl,rfl,a4,_,rfl,_,rfl,_,_,rfl,(by omega),.inr ⟨_,_,rfl,rfl,a5,?_⟩⟩⟩⟩
  refine⟨_,rfl,_,rfl,_,_,rfl,rfl,n+1,blen (n+1) - 1,ad,(by omega),.inr ⟨_,_,rfl,rfl,a6,H,.refl (Vy _),?_⟩⟩
  rw[ar]
  exact q
 ·have hend:(Str.ofString "0")=rowS (cend (blen (blen (n+1)))):=by
   have:¬k=7:=fun z=>c (by rw[z];rfl)
   rw[s0];unfold cend;rw[if_neg (by omega)]
  rw[hend]
  refine⟨_,rfl,.inr ⟨_,_,rfl,rfl,a1,a2,a3,_,rfl,.inr ⟨_,_,rfl,rfl,a4,_,rfl,_,rfl,_,_,rfl,(by omega),.inr ⟨_,_,rfl,rfl,a5,?_⟩⟩⟩⟩
  refine⟨_,rfl,_,rfl,_,_,rfl,rfl,n+1,blen (n+1) - 1,ad,(by omega),.inr ⟨_,_,rfl,rfl,a6,H,.refl (Vy _),?_⟩⟩
  rw[ar]
  exact q
def WholeIn(n:Int):Prop := -(2 ^ 255)<n∧n<2 ^ 255 - 1
def Zcj:Sp:=fun vs H Q _=>∃ n:Int,vs=[.int n]∧WholeIn n∧Q (.str (rowS (whl n))) H
theorem Ztd{n:Int}(h:n<0)(b : -(2 ^ 255)<n):∃ m:Nat,-1 - n=m∧m+1<2 ^ 255∧whl n=false::(cnt m).map (!·):=by
 refine⟨(-1 - n).toNat,by omega,by omega,?_⟩
 unfold whl;rw[if_pos h]
theorem Zta{n:Int}(h:¬n<0)(b:n<2 ^ 255 - 1):∃ m:Nat,n=m∧m+1<2 ^ 255∧whl n=true::cnt m:=by
 refine⟨n.toNat,by omega,by omega,?_⟩
 unfold whl;rw[if_neg h]
theorem Zgy{n:Nat}(h:n+1<2 ^ 255):(cnt n).length≤269:=by
 have:=Zde h
 have:=Yh h
 omega
theorem Zre(b:Bool)(l:List Bool):rowS [b]++rowS l=rowS (b::l):=by rw[Xx];rfl
theorem Zoe(F:FunAt K mg "whole_row" Zdm ["n"] f fd)(D_count_row:DefOk P w K mg base 2 "count_row" ["n"] spCountRow)(D_turned_row:DefOk P w K mg base 1 "turned_row" ["row"] Qs):DefOk P w K mg base 3 "whole_row" ["n"] Zcj:=by
 refine F.ok Znp (fun vs H Q E h=>?_) (fun cdv A outer s H vs Q E hr h=>?_)
 ·obtain⟨n,rfl,_⟩:=h;rfl
 obtain⟨n,rfl,hn,q⟩:=h
 refine⟨_,(Zc (Zz (Zl oLt (pv 0) Zd (Zk _)) (Zf (Zj (Zh oAdd Zu (Zi D_turned_row hr (Za (Zi D_count_row hr (Za (Zh oSub (Zbk Jk Zd) (pv 0)) Ze)) Ze))))) Zo)
  (Zf (Zj (Zh oAdd Zu (Zi D_count_row hr (Za (pv 0) Ze)))))),?_⟩
 try dsimp only[cxK0,cxK1,cxK2,cxK3]
 refine⟨_,rfl,.inl ⟨_,_,rfl,rfl,_,rfl,?_⟩⟩
 refine iteD (fun c=>?_) (fun c=>?_)
 ·obtain⟨m,e,hm,ew⟩:=Ztd c hn.1
  have lm:=Zgy hm
  refine⟨_,rfl,_,rfl,_,_,rfl,rfl,m,(congrArg (fun x=>[V.int x]) e),hm,cnt m,rfl,(by omega),.inr ⟨_,_,rfl,rfl,(by rw[s0,Zr,Zr,Uj];exact Xo (by simp only[Uq,List.length_nil];omega)),H,.refl (Vy _),?_⟩⟩
  rw[s0,Zre,← ew]
  exact q
 ·obtain⟨m,rfl,hm,ew⟩:=Zta c hn.2
  have lm:=Zgy hm
  refine⟨_,rfl,m,rfl,hm,.inr ⟨_,_,rfl,rfl,(by rw[s1,Zr,Zr];exact Xo (by simp only[Uq,List.length_nil];omega)),H,.refl (Vy _),?_⟩⟩
  rw[s1,Zre,← ew]
  exact q
def spDrawLower(C:Addr):Sp:=fun vs H Q _=>∃ (p dx:Addr) (l:List Bool) (i d:Nat) (t en:Bool),vs=[.ref p,.int d]∧H p=some (srcO C dx l i t en)∧l.length≤16000000∧i+d≤l.length∧
 Q (.int ((rd 1 (((l.map (xor t)).drop i).take d):Nat):Int)) (upd H p (srcO C dx l (i+d) t en))
theorem get_map{l:List Bool}{i:Nat}{t:Bool}(h:i<l.length):∃ b,l[i]?=some b∧(l.map (xor t)).getD i false=xor t b:=by
 refine⟨l[i],Ui h,?_⟩
 rw[Uk,Ur,Ui h];rfl
theorem Ztw{L:List Bool}{i j:Nat}{b:Bool}(h:i+j<L.length)(hb:L.getD (i+j) false=b):(L.drop i).take (j+1)=(L.drop i).take j++[b]:=by
 rw[UX,List.getElem?_drop]
 rw[Uk,Ui h] at hb
 rw[Ui h]
 have:L[i+j]=b:=hb
 rw[this];rfl
theorem Zea(nb:NB mg)(c_C:Cls K C)(F:FunAt K mg "draw_lower_digits" Wt ["source","width"] f fd)(M_draw:MethOk P w K mg base 1 C "draw" ["self"] (spDraw C)):DefOk P w K mg base 2 "draw_lower_digits" ["source","width"] (spDrawLower C):=by
 refine F.ok Yr (fun vs H Q E h=>?_) (fun cdv A outer s H vs Q E hr h=>?_)
 ·obtain⟨p,dx,l,i,d,t,en,rfl,_⟩:=h;rfl
 obtain⟨p,dx,l,i,d,t,en,rfl,hp,hl,hi,q⟩:=h
 refine⟨_,(Zc (Zp (i:=2) Yr.nd rfl (by exact Or.inl rfl) Zd)
  (Zc (Jg PassesOwn.never rfl (Yk rfl nb.range_ (Za (pv 1) Ze)) (Zy (i:=3) Yr.nd rfl (by exact Or.inl rfl))
   (Zf (Zp (i:=2) Yr.nd rfl (by exact Or.inl rfl) (Zh oAdd (Zh oMul Zd (pv 2)) (Xt M_draw c_C hr (pv 0))))))
  (Zf (Zj (pv 2))))),?_⟩
 try dsimp only[cxK0,cxK1,cxK2,cxK3]
 refine⟨_,rfl,_,rfl,by omega,by omega,?_⟩
 refine Wd (fun j σ H2=>∃ z,σ=[some (.ref p),some (.int d),some (.int ((rd 1 (((l.map (xor t)).drop i).take j):Nat):Int)),z]∧H2=upd H p (srcO C dx l (i+j) t en)) ?_ ?_ ?_
 ·exact⟨none,rfl,(Zeg hp).symm⟩
 ·rintro j σ H2 hj ⟨z,rfl,rfl⟩
  have hj':j<d:=by omega
  obtain⟨b,hb1,hb2⟩:=get_map (l:=l) (t:=t) (i:=i+j) (by omega)
  have tm:=Ztw (L:=l.map (xor t)) (i:=i) (j:=j) (by rw[Uj];omega) hb2
  refine⟨_,rfl,.inl ⟨_,_,rfl,rfl,.inl ⟨by decide,by decide⟩,_,rfl,p,dx,_,rfl,Zb,Ye _ _ _ _ (by decide +kernel) (by decide +kernel) (by decide +kernel),?_⟩⟩
  refine⟨p,dx,l,i+j,t,en,b,rfl,⟨_,Zb⟩,hl,hb1,.inl ⟨_,_,rfl,rfl,?_⟩⟩
  have ev:(2:Int)*((rd 1 (((l.map (xor t)).drop i).take j):Nat):Int)+(((t ^^ b).toNat:Nat):Int)=((rd 1 (((l.map (xor t)).drop i).take (j+1)):Nat):Int):=by
   rw[tm,Zud]
   show _=((2*rd 1 (((l.map (xor t)).drop i).take j)+(t ^^ b).toNat:Nat):Int)
   omega
  rw[← ev]
  exact⟨_,rfl,by rw[Xf];rfl⟩
 ·rintro σ H2 ⟨z,rfl,rfl⟩
  have e:((d:Nat):Int).toNat=d:=by omega
  rw[e]
  exact⟨_,rfl,_,.ins hp (fun b u hb e=>by rw[Zn hb];exact e) Zb,q⟩
def spDrawCount(C:Addr):Sp:=fun vs H Q _=>∃ (p dx:Addr) (l:List Bool) (i n:Nat) (t en:Bool),vs=[.ref p]∧SrcAt H p C dx l i t en∧l.length≤16000000∧i≤l.length∧n+1<2 ^ 255∧cnt n <+: (l.map (xor t)).drop i∧
 Q (.int (n:Nat)) (upd H p (srcO C dx l (i+(cnt n).length) t en))
theorem Zlu(g_MOST_AHEAD:GlobV mg "MOST_AHEAD" (.int 7))(c_C:Cls K C)(F:FunAt K mg "draw_count" Zct ["source"] f fd)(M_draw:MethOk P w K mg base 1 C "draw" ["self"] (spDraw C))(D_draw_lower_digits:DefOk P w K mg base 2 "draw_lower_digits" ["source","width"] (spDrawLower C)):DefOk P w K mg base 3 "draw_count" ["source"] (spDrawCount C):=by
 refine F.ok Qe (fun vs H Q E h=>?_) (fun cdv A outer s H vs Q E hr h=>?_)
 ·obtain⟨p,dx,l,i,n,t,en,rfl,_⟩:=h;rfl
 obtain⟨p,dx,l,i,n,t,en,rfl,⟨u0,hp⟩,hl,hi,hn,hc,q⟩:=h
 refine⟨_,(Zc (Zp (i:=1) Qe.nd rfl (by exact Or.inl rfl) Zd)
  (Zc (Qu PassesOwn.never (PW.pt (Zcv (Zl oLt (pv 1) (Yw g_MOST_AHEAD) (Zk _)) (Zan (Zl oEq (Xt M_draw c_C hr (pv 0)) Zd (Zk _)))))
   (Zf (Zp (i:=1) Qe.nd rfl (by exact Or.inl rfl) (Zh oAdd (pv 1) Zd))))
  (Zc (Zp (i:=2) Qe.nd rfl (by exact Or.inl rfl) (Zi D_draw_lower_digits hr (Za (pv 0) (Za (pv 1) Ze))))
  (Zf (Zj (Zh oSub (Zi D_draw_lower_digits hr (Za (pv 0) (Za (Zh oSub (pv 2) Zd) Ze))) Zd)))))),?_⟩
 try dsimp only[cxK0,cxK1,cxK2,cxK3]
 have hd:blen (n+1)≤255:=Yh hn
 have hpd:0<blen (n+1):=Wo (by omega)
 have he:blen (blen (n+1))≤8:=Yh (by omega)
 have hq:0<blen (blen (n+1)):=Wo (by omega)
 have ca:=Xby hc (by rw[Uj];exact hi)
 have fits:=ca.fits
 have cl:=Ztn n
 rw[Uj] at fits
 refine⟨fun m σ H2=>∃ (j:Nat) (u:Int),j≤blen (blen (n+1)) - 1∧m=8 - j∧σ=[some (.ref p),some (.int (j:Nat)),none]∧(j≠0→u=0)∧H2=upd H p (.ins C dx (Yi (rowS l) ((i+j:Nat):Int) t en u)),⟨8,0,u0,UF _,rfl,rfl,(fun z=>absurd rfl z),(Zeg hp).symm⟩,?_⟩
 rintro m σ H2 ⟨j,u,hj,rfl,rfl,hu,rfl⟩
 refine⟨_,rfl,.inl ⟨_,_,rfl,rfl,_,rfl,?_⟩⟩
 have v1:rd 1 (((l.map (xor t)).drop (i+(blen (blen (n+1)) - 1)+(cend (blen (blen (n+1)))).length)).take (blen (blen (n+1)) - 1))=blen (n+1):=by rw[ca.size];exact Zwn (by omega)
 have v2:rd 1 (((l.map (xor t)).drop (i+(blen (blen (n+1)) - 1)+(cend (blen (blen (n+1)))).length+(blen (blen (n+1)) - 1))).take (blen (n+1) - 1))=n+1:=by rw[ca.more];exact Zwn (by omega)
 have ad:[V.ref p,V.int (((blen (n+1):Nat):Int) - 1)]=[.ref p,.int ((blen (n+1) - 1:Nat):Int)]:=by
  have:((blen (n+1):Nat):Int) - 1=((blen (n+1) - 1:Nat):Int):=by omega
  rw[this]
 have ae:((n+1:Nat):Int) - 1=((n:Nat):Int):=by omega
 have ap:i+(blen (blen (n+1)) - 1)+(cend (blen (blen (n+1)))).length+(blen (blen (n+1)) - 1)+(blen (n+1) - 1)=i+(cnt n).length:=by omega
 refine iteD (fun c=>?_) (fun c=>?_)
 ·have hj7:j<7:=by omega
  obtain⟨b,hb1,hb2⟩:=get_map (l:=l) (t:=t) (i:=i+j) (by have:=Zya (e:=blen (blen (n+1)));omega)
  refine⟨_,rfl,p,dx,_,rfl,Zb,Ye _ _ _ _ (by decide +kernel) (by decide +kernel) (by decide +kernel),p,dx,l,i+j,t,en,b,rfl,⟨_,Zb⟩,hl,hb1,rfl,_,rfl,?_⟩
  by_cases hjk:j<blen (blen (n+1)) - 1
  ·have o:=ca.ones j hjk
   rw[hb2] at o
   rw[o]
   refine iteY rfl ⟨fun σ' H'=>∃ m',m'<8 - j∧∃ (j':Nat) (u:Int),j'≤blen (blen (n+1)) - 1∧m'=8 - j'∧σ'=[some (.ref p),some (.int (j':Nat)),none]∧(j'≠0→u=0)∧H'=upd H p (.ins C dx (Yi (rowS l) ((i+j':Nat):Int) t en u)),fun _ _ h=>h,?_⟩
   exact⟨_,rfl,.inl ⟨_,_,rfl,rfl,8 - (j+1),by omega,j+1,0,by omega,rfl,rfl,(fun _=>rfl),by rw[Xf];rfl⟩⟩
  ·have ej:j=blen (blen (n+1)) - 1:=by omega
   have o:=ca.zero (by omega)
   rw[← ej,hb2] at o
   rw[o]
   refine iteN (by intro z;cases z) ?_
   have ec:(cend (blen (blen (n+1)))).length=1:=by unfold cend;rw[if_neg (by omega)];rfl
   have ex:upd (upd H p (.ins C dx (Yi (rowS l) ((i+j:Nat):Int) t en u))) p (.ins C dx (flds (rowS l) ((i+j+1:Nat):Int) t en))=upd H p (srcO C dx l (i+(blen (blen (n+1)) - 1)+(cend (blen (blen (n+1)))).length) t en):=by
    rw[Xf,ec,← ej]
   rw[ex,ej]
   refine⟨_,rfl,_,rfl,p,dx,l,i+(blen (blen (n+1)) - 1)+(cend (blen (blen (n+1)))).length,blen (blen (n+1)) - 1,t,en,rfl,Zb,hl,(by omega),?_⟩
   rw[v1]
   refine⟨_,rfl,_,rfl,_,_,rfl,rfl,p,dx,l,_,blen (n+1) - 1,t,en,ad,Zb,hl,(by omega),_,_,rfl,rfl,?_⟩
   rw[v2,Xf,Xf,ap]
   refine⟨_,.ins hp (fun b u hb e=>by rw[Zn hb];exact e) Zb,?_⟩
   dsimp only
   rw[ae]
   exact q
 ·have ej:j=blen (blen (n+1)) - 1:=by omega
  have ec:(cend (blen (blen (n+1)))).length=0:=by unfold cend;rw[if_pos (by omega)];rfl
  have hj0:j≠0:=by omega
  rw[hu hj0]
  have ex:upd H p (srcO C dx l (i+j) t en)=upd H p (srcO C dx l (i+(blen (blen (n+1)) - 1)+(cend (blen (blen (n+1)))).length) t en):=by
   rw[ec,← ej];rfl
  rw[ex,ej]
  refine⟨_,rfl,_,rfl,p,dx,l,i+(blen (blen (n+1)) - 1)+(cend (blen (blen (n+1)))).length,blen (blen (n+1)) - 1,t,en,rfl,Zb,hl,(by omega),?_⟩
  rw[v1]
  refine⟨_,rfl,_,rfl,_,_,rfl,rfl,p,dx,l,_,blen (n+1) - 1,t,en,ad,Zb,hl,(by omega),_,_,rfl,rfl,?_⟩
  rw[v2,Xf,Xf,ap]
  refine⟨_,.ins hp (fun b u hb e=>by rw[Zn hb];exact e) Zb,?_⟩
  dsimp only
  rw[ae]
  exact q
def spDrawWhole(C:Addr):Sp:=fun vs H Q _=>∃ (p dx:Addr) (l:List Bool) (i:Nat) (n:Int) (t en:Bool),vs=[.ref p]∧H p=some (srcO C dx l i t en)∧l.length≤16000000∧i≤l.length∧WholeIn n∧whl n <+: (l.map (xor t)).drop i∧
 Q (.int n) (upd H p (srcO C dx l (i+(whl n).length) t en))
theorem Zgq{L:List Bool}{i:Nat}{b:Bool}{r:List Bool}(h:(b::r) <+: L.drop i):i<L.length∧L.getD i false=b∧r <+: L.drop (i+1):=by
 obtain⟨u,e⟩:=h
 have hl:i<L.length:=by
  rcases UZ i L.length with z | z
  ·exact z
  ·rw[List.drop_eq_nil_of_le z] at e;cases e
 rw[UY hl] at e
 have e1:b=L[i]:=(List.cons.inj e).1
 refine⟨hl,?_,u,(List.cons.inj e).2⟩
 rw[Uk,Ui hl,e1];rfl
theorem Zls(c_C:Cls K C)(F:FunAt K mg "draw_whole" Zcr ["source"] f fd)(M_draw:MethOk P w K mg base 1 C "draw" ["self"] (spDraw C))(M_turn:MethOk P w K mg base 1 C "turn" ["self"] (spTurn C))(D_draw_count:DefOk P w K mg base 3 "draw_count" ["source"] (spDrawCount C)):DefOk P w K mg base 4 "draw_whole" ["source"] (spDrawWhole C):=by
 refine F.ok Zev (fun vs H Q E h=>?_) (fun cdv A outer s H vs Q E hr h=>?_)
 ·obtain⟨p,dx,l,i,n,t,en,rfl,_⟩:=h;rfl
 obtain⟨p,dx,l,i,n,t,en,rfl,hp,hl,hi,hn,hc,q⟩:=h
 refine⟨_,(Zc (Zz (Zl oEq (Xt M_draw c_C hr (pv 0)) Zd (Zk _)) (Zf (Zj (Zi D_draw_count hr (Za (pv 0) Ze)))) Zo)
  (Zc (Yj (Xt M_turn c_C hr (pv 0)))
  (Zc (Zp (i:=1) Zev.nd rfl (by exact Or.inl rfl) (Zh oSub (Zbk Jk Zd) (Zi D_draw_count hr (Za (pv 0) Ze))))
  (Zc (Yj (Xt M_turn c_C hr (pv 0)))
  (Zf (Zj (pv 1))))))),?_⟩
 try dsimp only[cxK0,cxK1,cxK2,cxK3]
 have nm:∀ (z:Str) (i:Int) (t e:Bool) {u:Int},(Yi z i t e u).lookup ("draw":Str)=none:=fun _ _ _ _=>Ye _ _ _ _ (by decide +kernel) (by decide +kernel) (by decide +kernel)
 have nt:∀ (z:Str) (i:Int) (t e:Bool) {u:Int},(Yi z i t e u).lookup ("turn":Str)=none:=fun _ _ _ _=>Ye _ _ _ _ (by decide +kernel) (by decide +kernel) (by decide +kernel)
 by_cases c:n<0
 ·obtain⟨m,e,hm,ew⟩:=Ztd c hn.1
  rw[ew] at hc
  obtain⟨h1,h2,h3⟩:=Zgq hc
  rw[Uj] at h1
  obtain⟨b,hb1,hb2⟩:=get_map (l:=l) (t:=t) h1
  rw[h2] at hb2
  refine⟨_,rfl,p,dx,_,rfl,hp,nm ..,p,dx,l,i,t,en,b,rfl,⟨_,hp⟩,hl,hb1,rfl,_,rfl,?_⟩
  rw[← hb2]
  refine iteN (by intro z;cases z) ?_
  refine⟨_,rfl,p,dx,_,rfl,Zb,nt ..,p,dx,l,_,_,_,_,rfl,Zb,?_⟩
  rw[Xf]
  refine⟨_,rfl,_,rfl,p,dx,l,i+1,m,(!t),en,rfl,⟨_,Zb⟩,hl,(by omega),hm,?_,?_⟩
  ·rw[← Zia,← List.map_drop];exact Zdy h3
  rw[Xf]
  refine⟨_,_,rfl,rfl,?_⟩
  refine⟨_,rfl,p,dx,_,rfl,Zb,nt ..,p,dx,l,_,_,_,_,rfl,Zb,?_⟩
  rw[Xf,Bool.not_not]
  refine⟨_,rfl,_,.ins hp (fun b u hb e=>by rw[Zn hb];exact e) Zb,?_⟩
  have en:(-1:Int) - (m:Int)=n:=by omega
  have el:i+1+(cnt m).length=i+(whl n).length:=by rw[ew,Uq,Uj];omega
  dsimp only
  rw[en,el]
  exact q
 ·obtain⟨m,rfl,hm,ew⟩:=Zta c hn.2
  rw[ew] at hc
  obtain⟨h1,h2,h3⟩:=Zgq hc
  rw[Uj] at h1
  obtain⟨b,hb1,hb2⟩:=get_map (l:=l) (t:=t) h1
  rw[h2] at hb2
  refine⟨_,rfl,p,dx,_,rfl,hp,nm ..,p,dx,l,i,t,en,b,rfl,⟨_,hp⟩,hl,hb1,rfl,_,rfl,?_⟩
  rw[← hb2]
  refine iteY rfl ?_
  refine⟨_,rfl,p,dx,l,i+1,m,t,en,rfl,⟨_,Zb⟩,hl,(by omega),hm,h3,?_⟩
  rw[Xf]
  refine⟨_,.ins hp (fun b u hb e=>by rw[Zn hb];exact e) Zb,?_⟩
  have el:i+1+(cnt m).length=i+(whl (m:Int)).length:=by rw[ew,Uq];omega
  rw[el]
  exact q
theorem mI(l:List Int):(l.map V.int).length=l.length:=Uj ..
theorem small5'{n:Nat}(h:n≤100001):n≤sizeLine:=UC h (by decide)
theorem Jh{H H2:Hp}{r:Addr}{o:HO}(hs:Same H H2)(hr:H r=none):Same H (upd H2 r o):=fun b u e=>by rw[Zn (Xa e hr)];exact hs b u e
def spStepsOf:Sp:=fun vs H Q _=>∃ (t:Addr) (p q:Int),vs=[.ref t]∧H t=some (.tup [.int p,.int q])∧0≤q∧(euc p q).length≤100000∧(∀ x∈euc p q,x.natAbs<2 ^ 1000)∧∀ r,H r=none→Q (.ref r) (upd H r (.lst ((euc p q).map .int)))
theorem Zpy(F:FunAt K mg "steps_of" Zfb ["fraction"] f fd):DefOk P w K mg base 1 "steps_of" ["fraction"] spStepsOf:=by
 refine F.ok Wi (fun vs H Q E h=>?_) (fun cdv A outer s H vs Q E hr h=>?_)
 ·obtain⟨t,p,q,rfl,_⟩:=h;rfl
 obtain⟨t,p,q,rfl,ht,hq,hl,hb,hQ⟩:=h
 refine⟨_,(Zc (Zp (i:=1) Wi.nd rfl (by exact Or.inl rfl) (Yp Ze))
  (Zc (Zp (i:=2) Wi.nd rfl (by exact Or.inl rfl) (Zs iAll (pv 0) Zd (fun _ _=>rfl)))
  (Zc (Zp (i:=3) Wi.nd rfl (by exact Or.inl rfl) (Zs iAll (pv 0) Zd (fun _ _=>rfl)))
  (Zc (Qu PassesOwn.never (Zl oNe (pv 3) Zd (Zk _))
   (Zc (Yj (Wb PySem.F.plainAttrs_list PySem.F.slot_list_append PySem.F.type_list_append Ji (pv 1) (Za (Zh Zcd (pv 2) (pv 3)) Ze)))
   (Zc (Zp (i:=4) Wi.nd rfl (by exact Or.inl rfl) (Zh Xc (pv 2) (pv 3)))
   (Zc (Zp (i:=2) Wi.nd rfl (by exact Or.inl rfl) (pv 3))
   (Zf (Zp (i:=3) Wi.nd rfl (by exact Or.inl rfl) (pv 4)))))))
  (Zf (Zj (pv 1))))))),?_⟩
 try dsimp only[cxK0,cxK1,cxK2,cxK3]
 have a0:atI [V.int p,V.int q] 0=some (.int p):=Zx (j:=0) rfl
 have a1:atI [V.int p,V.int q] 1=some (.int q):=Zx (j:=1) rfl
 refine⟨UF _,fun r hr2=>?_⟩
 have ht2:=Zq (o:=HO.lst []) hr2 t _ ht
 refine⟨_,rfl,.inl (.inr ⟨_,_,_,_,rfl,rfl,Uz ht2,a0,_,rfl,.inl (.inr ⟨_,_,_,_,rfl,rfl,Uz ht2,a1,?_⟩)⟩)⟩
 refine⟨fun m σ H2=>∃ (d:List Int) (x y:Int) (z:Option V),d++euc x y=euc p q∧0≤y∧m=y.toNat∧σ=[some (.ref t),some (.ref r),some (.int x),some (.int y),z]∧H2=upd H r (.lst (d.map .int)),⟨q.toNat,[],p,q,none,rfl,hq,rfl,rfl,rfl⟩,?_⟩
 rintro m σ H2 ⟨d,x,y,z,hd,hy,rfl,rfl,rfl⟩
 refine⟨_,rfl,rfl,_,rfl,?_⟩
 rw[Zgw]
 by_cases hy0:y=0
 ·subst hy0
  rw[Qx,List.append_nil] at hd
  subst hd
  refine iteF ⟨_,rfl,_,.new hr2 (Zq hr2) Zb trivial,hQ r hr2⟩
 ·have hy1:0<y:=by omega
  rw[Jc hy1] at hd
  have hmem:x/y∈euc p q:=by rw[← hd];exact Ue _ (Ux ..)
  have hlen:=congrArg List.length hd
  rw[Uo,Uq] at hlen
  have eb:(y == 0)=false:=by simpa using hy0
  rw[eb]
  have r1:=UK x hy1
  have r0:=UO x hy0
  refine iteT ⟨fun σ' H'=>∃ m',m'<y.toNat∧∃ (d:List Int) (x y:Int) (z:Option V),d++euc x y=euc p q∧0≤y∧m'=y.toNat∧σ'=[some (.ref t),some (.ref r),some (.int x),some (.int y),z]∧H'=upd H r (.lst (d.map .int)),fun _ _ h=>h,?_⟩
  refine⟨_,rfl,.inl ⟨rfl,_,Uy Zb⟩,_,rfl,_,rfl,_,_,rfl,rfl,⟨hy1,.inr (UC (Zxy hy1 (hb _ hmem)) (Nat.add_le_add_left (by decide) _))⟩,?_⟩
  refine⟨_,_,_,rfl,rfl,Zb,(by rw[mI];exact UA (show d.length<100001 by omega) (small5' (by decide))),?_⟩
  refine⟨_,rfl,_,rfl,_,_,rfl,rfl,hy1,_,rfl,_,rfl,?_⟩
  refine⟨(x%y).toNat,by omega,d++[x/y],y,x%y,_,?_,r0,rfl,rfl,?_⟩
  ·rw[UH];exact hd
  ·rw[Xf,UE];rfl
def spAreSteps:Sp:=fun vs H Q _=>∃ (a:Addr) (s:List Int),vs=[.ref a]∧H a=some (.lst (s.map .int))∧s.length≤100000∧Q (.bl (goodB s)) H
theorem Zqu{s:List Int}(h:s.length<2):goodB s=decide (s.length=1):=by unfold goodB;rw[if_pos h]
theorem Zsk{s:List Int}(h:¬s.length<2):goodB s=(s.tail.all (fun x=>decide (0<x))&&decide (1<s.getLastD 0)):=by unfold goodB;rw[if_neg h]
theorem Zhz{s:List Int}(h:s≠[]):atI (s.map V.int) (-1)=some (.int (s.getLastD 0)):=by
 rw[List.getLastD_eq_getLast?,List.getLast?_eq_some_getLast h,Option.getD_some]
 conv=>lhs;rw[← List.dropLast_concat_getLast h,UE]
 exact Zyh _ _
theorem Zom(nb:NB mg)(F:FunAt K mg "are_steps" Zdu ["steps"] f fd):DefOk P w K mg base 1 "are_steps" ["steps"] spAreSteps:=by
 refine F.ok Znt (fun vs H Q E h=>?_) (fun cdv A outer s H vs Q E hr h=>?_)
 ·obtain⟨a,s,rfl,_⟩:=h;rfl
 obtain⟨a,s,rfl,ha,hl,q⟩:=h
 refine⟨_,(Zc (Zz (Zl oLt (Zm Zt rfl nb.len_ Xg (Za (pv 0) Ze)) Zd (Zk _)) (Zf (Zj (Xj oEq (Zm Zt rfl nb.len_ Xg (Za (pv 0) Ze)) Zd (Zk _)))) Zo)
  (Zf (Zj (Yu (Zm (Zci rfl) rfl nb.all_ Zhy (Za (Yd ["step"] [] rfl (by decide +kernel) trivial (piAll (Zax slAll (pv 0) (Zcx Zd) Zcy)) (fun _ _ _ _ _=>(Zy (i:=0) (show (["step"]:List Str).Nodup by decide +kernel) rfl (by first | exact Or.inl rfl | exact Or.inr rfl))) (fun _ _ _ _ _=>Xs) (fun _ _ _ _ _=>(Xj oGt (pv 0) Zd (Zk _)))) Ze)) (Wl (Xj oGt (Zs iAll (pv 0) (Zbk Jk Zd) (fun _ _=>rfl)) Zd (Zk _))))))),?_⟩
 try dsimp only[cxK0,cxK1,cxK2,cxK3]
 refine⟨_,rfl,_,_,rfl,.inl ⟨_,Uy ha,rfl⟩,.inl ⟨_,_,rfl,rfl,_,rfl,?_⟩⟩
 rw[mI]
 refine iteD (fun c=>?_) (fun c=>?_)
 ·refine⟨_,rfl,_,_,rfl,.inl ⟨_,Uy ha,rfl⟩,rfl,H,.refl (Vy _),?_⟩
  have e:decide (V.int ((s.map V.int).length:Nat)=V.int 1)=goodB s:=by
   rw[Zqu (by omega),mI,Zgw]
   apply Bool.eq_iff_iff.mpr;simp;omega
  rw[e];exact q
 ·have hs:s≠[]:=by intro e;subst e;simp at c
  refine .inl ⟨_,rfl,_,rfl,.inl ⟨a,_,rfl,Uy ha,fun p hp=>⟨_,rfl,⟨_,Uy Zb⟩,fun D hD=>?_⟩⟩⟩
  rw[Zmw,← List.map_drop] at hD ⊢
  have s1':=Zq (o:=HO.lst ((s.drop 1).map V.int)) hp
  refine Zeo (xs:=(s.drop 1).map V.int) (fun x=>match x with | .int i => .bl (decide (0<i)) | _=>x) (fun σ=>σ.length=1) (by rw[mI,Va];exact Xo (by omega)) rfl hD (Uy Zb) ?_ ?_
  ·rintro x hx σ1 H1 hS hs1 R hR
   obtain⟨i,_,rfl⟩:=List.mem_map.mp hx
   obtain⟨z,rfl⟩:=Zki hS
   exact⟨_,rfl,_,_,rfl,rfl,hR _ rfl⟩
  ·rw[UU]
   have s2':=s1'.trans (Zq (o:=HO.lst ((s.drop 1).map fun i=>V.bl (decide (0<i)))) hD)
   refine⟨D,(s.drop 1).map fun i=>decide (0<i),rfl,Uy (by rw[Zb,UU];rfl),_,rfl,?_⟩
   have fin:goodB s=(((s.drop 1).map fun i=>decide (0<i)).all id&&decide (1<s.getLastD 0)):=by
    rw[Zsk (by omega),← List.drop_one,List.all_map];rfl
   cases hall:((s.drop 1).map fun i=>decide (0<i)).all id with
   | false =>
    rw[hall,Bool.false_and] at fin
    rw[fin] at q
    exact iteF ⟨H,.refl s2',q⟩
   | true =>
    rw[hall,Bool.true_and] at fin
    rw[fin] at q
    exact iteT ⟨_,rfl,_,rfl,.inl (.inl ⟨_,_,_,_,rfl,rfl,Uy (s2' _ _ ha),Zhz hs,_,_,rfl,rfl,H,.refl s2',q⟩)⟩
def spFracOf:Sp:=fun vs H Q _=>∃ (a:Addr) (s:List Int),vs=[.ref a]∧H a=some (.lst (s.map .int))∧s.length≤1000∧(∀ x∈s,x.natAbs<2 ^ 1000)∧Good s∧∀ r,H r=none→Q (.ref r) (upd H r (.tup [.int (frac s).1,.int (frac s).2]))
theorem Zvc{s:List Int}(hl:s.length≤1000)(hb:∀ x∈s,x.natAbs<2 ^ 1000):Builtin.Int.intBits (frac s).1≤2 ^ 20∧Builtin.Int.intBits (frac s).2≤2 ^ 20:=by
 obtain⟨h1,h2⟩:=Zms hb
 have k:(1000+1)*s.length+1≤2 ^ 20:=by
  have:(1000+1)*s.length≤1001*1000:=Nat.mul_le_mul_left _ hl
  omega
 exact⟨UC (Ztq h1) k,UC (Ztq h2) k⟩
theorem Zwb{s:List Int}{i:Nat}{x:V}(h:((s.take (s.length - 1)).map V.int)[((s.take (s.length - 1)).map V.int).length - 1 - i]?=some x)(hi:i<s.length - 1):∃ y,x = .int y∧s.drop (s.length - 1 - (i+1))=y::s.drop (s.length - 1 - i)∧y∈s:=by
 rw[mI,US,Nat.min_eq_left (by omega),Ur,List.getElem?_take_of_lt (by omega)] at h
 have hk:s.length - 1 - 1 - i<s.length:=by omega
 rw[Ui hk] at h
 refine⟨_,(Ub h).symm,?_,List.getElem_mem hk⟩
 have e1:s.length - 1 - (i+1)=s.length - 1 - 1 - i:=by omega
 have e2:s.length - 1 - i=s.length - 1 - 1 - i+1:=by omega
 rw[e1,e2]
 exact UY hk
theorem Zvj{s:List Int}(h:s≠[]):s.drop (s.length - 1)=[s.getLastD 0]:=by
 rw[List.getLastD_eq_getLast?,List.getLast?_eq_some_getLast h,Option.getD_some]
 conv=>lhs;rw[← List.dropLast_concat_getLast h]
 rw[Uo,UQ,Nat.add_sub_cancel,List.drop_left]
theorem Zkn(nb:NB mg)(F:FunAt K mg "fraction_of" Zbo ["steps"] f fd)(D_are_steps:DefOk P w K mg base 1 "are_steps" ["steps"] spAreSteps):DefOk P w K mg base 2 "fraction_of" ["steps"] spFracOf:=by
 refine F.ok Yo (fun vs H Q E h=>?_) (fun cdv A outer s H vs Q E hr h=>?_)
 ·obtain⟨a,s,rfl,_⟩:=h;rfl
 obtain⟨a,s,rfl,ha,hl,hb,hg,q⟩:=h
 refine⟨_,(Zc (Zz (Yt (Xm (Zi D_are_steps hr (Za (pv 0) Ze)) (fun _=>rfl))) (Zf Yv) Zo)
  (Zc (Zp (i:=1) Yo.nd rfl (by exact Or.inl rfl) (Zs iAll (pv 0) (Zbk Jk Zd) (fun _ _=>rfl)))
  (Zc (Zp (i:=2) Yo.nd rfl (by exact Or.inl rfl) Zd)
  (Zc (Jg PassesOwn.never rfl (Xbe rfl nb.reversed_ (Zax slAll (pv 0) Zcy (Zcx (Zbk Jk Zd)))) (Zy (i:=3) Yo.nd rfl (by exact Or.inl rfl))
   (Zc (Zp (i:=4) Yo.nd rfl (by exact Or.inl rfl) (pv 1))
   (Zc (Zp (i:=1) Yo.nd rfl (by exact Or.inl rfl) (Zh oAdd (Zh Zob (pv 3) (pv 1)) (pv 2)))
   (Zf (Zp (i:=2) Yo.nd rfl (by exact Or.inl rfl) (pv 4))))))
  (Zf (Zj (Yz (Za (pv 1) (Za (pv 2) Ze))))))))),?_⟩
 try dsimp only[cxK0,cxK1,cxK2,cxK3]
 have hs:=hg.ne
 have hn:0<s.length:=List.length_pos_iff.mpr hs
 refine⟨_,rfl,a,s,rfl,ha,by omega,_,rfl,?_⟩
 rw[(Zmr s).mpr hg]
 refine iteF ⟨_,rfl,_,rfl,.inl (.inl ⟨_,_,_,_,rfl,rfl,Uy ha,Zhz hs,?_⟩)⟩
 refine⟨_,rfl,_,rfl,_,rfl,.inl ⟨a,_,rfl,Uy ha,fun p hp=>?_⟩⟩
 rw[Zvn,← List.map_take,mI]
 have s1':=Zq (o:=HO.lst ((s.take (s.length - 1)).map V.int)) hp
 refine⟨p,_,rfl,Uy Zb,?_⟩
 have hlen:((s.take (s.length - 1)).map V.int).length=s.length - 1:=by rw[mI,US];omega
 refine Xak (fun i σ H2=>H2=upd H p (.lst ((s.take (s.length - 1)).map V.int))∧∃ z1 z2,σ=[some (.ref a),some (.int (frac (s.drop (s.length - 1 - i))).1),some (.int (frac (s.drop (s.length - 1 - i))).2),z1,z2]) ?_ ?_ ?_ ?_
 ·refine⟨rfl,none,none,?_⟩
  rw[Nat.sub_zero,Zvj hs]
  show _=[_,some (V.int (s.getLastD 0*1+0)),some (V.int 1),_,_]
  rw[Int.mul_one,Int.add_zero];rfl
 ·rintro i σ H2 hi ⟨rfl,_⟩;exact Uy Zb
 ·rintro i x σ H2 hi hx ⟨rfl,z1,z2,rfl⟩
  rw[hlen] at hi
  obtain⟨y,rfl,ed,hy⟩:=Zwb hx hi
  have fb:=Zvc (s:=s.drop (s.length - 1 - i)) (by rw[Va];omega) fun x hx=>hb x (List.mem_of_mem_drop hx)
  refine⟨_,rfl,_,rfl,_,rfl,_,_,rfl,rfl,⟨UC (Ztp (hb y hy)) (by decide),fb.1⟩,_,rfl,.inl ⟨_,_,rfl,rfl,_,rfl,rfl,some (.int y),some (.int (frac (s.drop (s.length - 1 - i))).1),?_⟩⟩
  rw[ed];rfl
 ·rintro σ H2 ⟨rfl,z1,z2,rfl⟩
  rw[hlen,Nat.sub_self,List.drop_zero]
  refine⟨_,rfl,_,rfl,(by show 2≤sizeLine;decide),fun r hr2=>?_⟩
  exact⟨_,.new (s1'.free hr2) (s1'.trans (Zq hr2)) Zb trivial,q r (s1'.free hr2)⟩
noncomputable instance (n:Int):Decidable (WholeIn n):=inferInstanceAs (Decidable (_∧_))
def RowIn(s:List Int):Prop:=(∀ x∈s.take 1,WholeIn x)∧∀ x∈s.drop 1,CountIn (x - 1)
noncomputable instance (s:List Int):Decidable (RowIn s):=inferInstanceAs (Decidable (_∧_))
def spHasWhole:Sp:=fun vs H Q _=>∃ n:Int,vs=[.int n]∧Q (.bl (decide (WholeIn n))) H
theorem Zho(F:FunAt K mg "has_whole_row" Ww ["n"] f fd)(D_is_count:DefOk P w K mg base 1 "is_count" ["n"] spIsCount):DefOk P w K mg base 2 "has_whole_row" ["n"] spHasWhole:=by
 refine F.ok Zbz (fun vs H Q E h=>?_) (fun cdv A outer s H vs Q E hr h=>?_)
 ·obtain⟨n,rfl,_⟩:=h;rfl
 obtain⟨n,rfl,q⟩:=h
 refine⟨_,(Zf (Zj (Zi D_is_count hr (Za (Wm (Zl oGe (pv 0) Zd (Zk _)) (pv 0) (Zh oSub (Zbk Jk Zd) (pv 0))) Ze)))),?_⟩
 try dsimp only[cxK0,cxK1,cxK2,cxK3]
 refine⟨_,rfl,_,_,rfl,rfl,_,rfl,?_⟩
 refine iteD (fun c=>?_) (fun c=>?_)
 ·refine⟨_,rfl,_,rfl,H,.refl (Vy _),?_⟩
  have e:decide (CountIn n)=decide (WholeIn n):=decide_eq_decide.mpr (by unfold CountIn WholeIn;omega)
  rw[e];exact q
 ·refine⟨_,rfl,_,rfl,_,_,rfl,rfl,_,rfl,H,.refl (Vy _),?_⟩
  have e:decide (CountIn (-1 - n))=decide (WholeIn n):=decide_eq_decide.mpr (by unfold CountIn WholeIn;omega)
  rw[e];exact q
def spCd:Sp:=fun vs H Q _=>∃ p q:Int,vs=[.int p,.int q]∧0≤q∧Q (.int (cd p q)) H
theorem Zgg(F:FunAt K mg "common_divisor" Jx ["one","other"] f fd):DefOk P w K mg base 1 "common_divisor" ["one","other"] spCd:=by
 refine F.ok We (fun vs H Q E h=>?_) (fun cdv A outer s H vs Q E hr h=>?_)
 ·obtain⟨p,q,rfl,_⟩:=h;rfl
 obtain⟨p,q,rfl,hq,hQ⟩:=h
 refine⟨_,(Zc (Qu PassesOwn.never (Zl oNe (pv 1) Zd (Zk _))
   (Zc (Zp (i:=2) We.nd rfl (by exact Or.inl rfl) (Zh Xc (pv 0) (pv 1)))
   (Zc (Zp (i:=0) We.nd rfl (by exact Or.inl rfl) (pv 1))
   (Zf (Zp (i:=1) We.nd rfl (by exact Or.inl rfl) (pv 2))))))
  (Zf (Zj (pv 0)))),?_⟩
 try dsimp only[cxK0,cxK1,cxK2,cxK3]
 refine⟨fun m σ H2=>∃ (x y:Int) (z:Option V),cd x y=cd p q∧0≤y∧m=y.toNat∧σ=[some (.int x),some (.int y),z]∧H2=H,⟨q.toNat,p,q,none,rfl,hq,rfl,rfl,rfl⟩,?_⟩
 rintro m σ H2 ⟨x,y,z,hd,hy,rfl,rfl,rfl⟩
 refine⟨_,rfl,rfl,_,rfl,?_⟩
 rw[Zgw]
 by_cases hy0:y=0
 ·subst hy0
  rw[Zgz] at hd
  subst hd
  exact iteF ⟨_,rfl,H2,.refl (Vy _),hQ⟩
 ·have hy1:0<y:=by omega
  rw[Zov hy1] at hd
  have eb:(y == 0)=false:=by simpa using hy0
  rw[eb]
  have r1:=UK x hy1
  have r0:=UO x hy0
  refine iteT ⟨fun σ' H'=>∃ m',m'<y.toNat∧∃ (x y:Int) (z:Option V),cd x y=cd p q∧0≤y∧m'=y.toNat∧σ'=[some (.int x),some (.int y),z]∧H'=H2,fun _ _ h=>h,?_⟩
  refine⟨_,rfl,_,rfl,_,_,rfl,rfl,hy1,_,rfl,_,rfl,?_⟩
  exact⟨(x%y).toNat,by omega,y,x%y,_,hd,r0,rfl,rfl,rfl⟩
def spIsFrac:Sp:=fun vs H Q _=>∃ (t:Addr) (p q:Int),vs=[.ref t]∧H t=some (.tup [.int p,.int q])∧Q (.bl (decide (0<q∧cd p q=1))) H
theorem Zkm(F:FunAt K mg "is_fraction" Zbn ["fraction"] f fd)(D_common_divisor:DefOk P w K mg base 1 "common_divisor" ["one","other"] spCd):DefOk P w K mg base 2 "is_fraction" ["fraction"] spIsFrac:=by
 refine F.ok Zjp (fun vs H Q E h=>?_) (fun cdv A outer s H vs Q E hr h=>?_)
 ·obtain⟨t,p,q,rfl,_⟩:=h;rfl
 obtain⟨t,p,q,rfl,ht,hQ⟩:=h
 refine⟨_,(Zf (Zj (Yu (Xj oGt (Zs iAll (pv 0) Zd (fun _ _=>rfl)) Zd (Zk _)) (Wl (Xj oEq (Zi D_common_divisor hr (Za (Zs iAll (pv 0) Zd (fun _ _=>rfl)) (Za (Zs iAll (pv 0) Zd (fun _ _=>rfl)) Ze))) Zd (Zk _)))))),?_⟩
 try dsimp only[cxK0,cxK1,cxK2,cxK3]
 have a0:atI [V.int p,V.int q] 0=some (.int p):=Zx (j:=0) rfl
 have a1:atI [V.int p,V.int q] 1=some (.int q):=Zx (j:=1) rfl
 refine⟨_,rfl,.inl (.inr ⟨_,_,_,_,rfl,rfl,Uz ht,a1,_,_,rfl,rfl,_,rfl,?_⟩)⟩
 refine iteD (fun c=>?_) (fun c=>?_)
 ·refine⟨_,rfl,.inl (.inr ⟨_,_,_,_,rfl,rfl,Uz ht,a0,_,rfl,.inl (.inr ⟨_,_,_,_,rfl,rfl,Uz ht,a1,p,q,rfl,Int.le_of_lt c,rfl,H,.refl (Vy _),?_⟩)⟩)⟩
  have e:decide (V.int (cd p q)=V.int 1)=decide (0<q∧cd p q=1):=decide_eq_decide.mpr ⟨fun z=>⟨c,V.int.inj z⟩,fun z=>congrArg V.int z.2⟩
  rw[e];exact hQ
 ·refine⟨H,.refl (Vy _),?_⟩
  rw[UB (fun z=>c z.1)] at hQ
  exact hQ
def spHasRow:Sp:=fun vs H Q _=>∃ (t:Addr) (p q:Int),vs=[.ref t]∧H t=some (.tup [.int p,.int q])∧(0<q→(euc p q).length≤100000∧∀ x∈euc p q,x.natAbs<2 ^ 1000)∧Q (.bl (decide (0<q∧cd p q=1∧RowIn (euc p q)))) H
theorem Zet(nb:NB mg)(F:FunAt K mg "has_fraction_row" Jf ["fraction"] f fd)(D_is_fraction:DefOk P w K mg base 2 "is_fraction" ["fraction"] spIsFrac)(D_steps_of:DefOk P w K mg base 1 "steps_of" ["fraction"] spStepsOf)(D_has_whole_row:DefOk P w K mg base 2 "has_whole_row" ["n"] spHasWhole)(D_is_count:DefOk P w K mg base 1 "is_count" ["n"] spIsCount):DefOk P w K mg base 3 "has_fraction_row" ["fraction"] spHasRow:=by
 refine F.ok Zad (fun vs H Q E h=>?_) (fun cdv A outer s H vs Q E hr h=>?_)
 ·obtain⟨t,p,q,rfl,_⟩:=h;rfl
 obtain⟨t,p,q,rfl,ht,hb,hQ⟩:=h
 refine⟨_,(Zc (Zz (Yt (Xm (Zi D_is_fraction hr (Za (pv 0) Ze)) (fun _=>rfl))) (Zf (Zj Jw)) Zo)
  (Zc (Zp (i:=1) Zad.nd rfl (by first | exact Or.inl rfl | exact Or.inr rfl) (Zi D_steps_of hr (Za (pv 0) Ze)))
  (Zf (Zj (Yu (Zi D_has_whole_row hr (Za (Zs iAll (pv 1) Zd (fun _ _=>rfl)) Ze)) (Wl (Zm (Zci rfl) rfl nb.all_ Zhy (Za (Yd ["step"] [] rfl (by decide +kernel) trivial (piAll (Zax slAll (pv 1) (Zcx Zd) Zcy)) (fun _ _ _ _ _=>(Zy (i:=0) (show (["step"]:List Str).Nodup by decide +kernel) rfl (by first | exact Or.inl rfl | exact Or.inr rfl))) (fun _ _ _ _ _=>Xs) (fun _ _ _ _ _=>(Zi D_is_count hr (Za (Zh oSub (pv 0) Zd) Ze)))) Ze)))))))),?_⟩
 try dsimp only[cxK0,cxK1,cxK2,cxK3]
 refine⟨_,rfl,t,p,q,rfl,ht,_,rfl,?_⟩
 by_cases hf:0<q∧cd p q=1
 ·rw[Ut hf]
  obtain⟨hl,hz⟩:=hb hf.1
  refine iteF ⟨_,rfl,t,p,q,rfl,ht,Int.le_of_lt hf.1,hl,hz,fun r hr2=>?_⟩
  have s1':=Zq (o:=HO.lst ((euc p q).map V.int)) hr2
  obtain⟨a,es,he⟩:∃ a es,euc p q=a::es:=⟨_,_,Jc hf.1⟩
  rw[he] at hQ s1' hl ⊢
  have a0:atI ((a::es).map V.int) 0=some (.int a):=Zx (j:=0) rfl
  refine⟨_,rfl,.inl (.inl ⟨_,_,_,_,rfl,rfl,Uy Zb,a0,a,rfl,_,rfl,?_⟩)⟩
  refine iteD (fun c=>?_) (fun c=>?_)
  ·refine .inl ⟨_,rfl,_,rfl,.inl ⟨r,_,rfl,Uy Zb,fun g hg=>⟨_,rfl,⟨_,Uy Zb⟩,fun D hD=>?_⟩⟩⟩
   rw[Zmw,← List.map_drop] at hD ⊢
   have s2':=s1'.trans (Zq (o:=HO.lst (((a::es).drop 1).map V.int)) hg)
   refine Zeo (xs:=((a::es).drop 1).map V.int) (fun x=>match x with | .int i => .bl (decide (CountIn (i - 1))) | _=>x) (fun σ=>σ.length=1) (by rw[mI,Va];exact Xo (by omega)) rfl hD (Uy Zb) ?_ ?_
   ·rintro x hx σ1 H1 hS hs1 R hR
    obtain⟨i,_,rfl⟩:=List.mem_map.mp hx
    obtain⟨z,rfl⟩:=Zki hS
    exact⟨_,rfl,_,_,rfl,rfl,_,rfl,hR _ rfl⟩
   ·rw[UU]
    have s3':=s2'.trans (Zq (o:=HO.lst (((a::es).drop 1).map fun i=>V.bl (decide (CountIn (i - 1))))) hD)
    refine⟨D,((a::es).drop 1).map fun i=>decide (CountIn (i - 1)),rfl,Uy (by rw[Zb,UU];rfl),H,.refl s3',?_⟩
    have e:(((a::es).drop 1).map fun i=>decide (CountIn (i - 1))).all id=decide (0<q∧cd p q=1∧RowIn (a::es)):=by
     rw[List.all_map]
     apply Bool.eq_iff_iff.mpr
     rw[Ve,UW]
     constructor
     ·intro h
      refine⟨hf.1,hf.2,fun x hx=>?_,fun x hx=>UJ (h x hx)⟩
      rw[UD.mp hx];exact c
     ·intro h x hx
      exact Ut (h.2.2.2 x hx)
    rw[e];exact hQ
  ·refine⟨H,.refl s1',?_⟩
   rw[UB (fun z=>c (z.2.2.1 a (UD.mpr rfl)))] at hQ
   exact hQ
 ·rw[UB hf]
  refine iteT ⟨H,.refl (Vy _),?_⟩
  rw[UB (fun z=>hf ⟨z.1,z.2.1⟩)] at hQ
  exact hQ
def spRowOf:Sp:=fun vs H Q _=>∃ (a:Addr) (s:List Int),vs=[.ref a]∧H a=some (.lst (s.map .int))∧s≠[]∧s.length≤10000∧RowIn s∧Q (.str (rowS (frow s))) H
theorem Zug{k:Nat}{x:Int}{b:Bool}(h:if k=0 then WholeIn x else CountIn (x - 1)):(piece k x b).length≤271:=by
 unfold piece
 rw[Uj,Uo,UQ]
 by_cases hk:k=0
 ·rw[if_pos hk] at h ⊢
  have:=Zjj h.1 h.2
  omega
 ·rw[if_neg hk] at h ⊢
  have:=Zgy (n:=(x - 1).toNat) (by unfold CountIn at h;omega)
  omega
theorem RowIn.at{s:List Int}{i:Nat}{x:Int}(h:RowIn s)(hx:s[i]?=some x):if i=0 then WholeIn x else CountIn (x - 1):=by
 match s,i,hx with
 | a::r,0,hx=>cases hx;exact h.1 x (UD.mpr rfl)
 | a::r,i+1,hx=>exact h.2 x (Uv hx)
theorem Zyu{l:List (List Bool)}(h:∀ p∈l,p.length≤271):((l.map rowS).map (·.length)).sum≤271*l.length:=by
 induction l with
 | nil=>exact UF _
 | cons p r ih =>
  rw[UP,UP,List.sum_cons,Uq,Zr]
  have:=h p (Ux ..)
  have:=ih fun q hq=>h q (Ul _ hq)
  omega
theorem Zeh(x:List Bool)(b:Bool):rowS x++rowS [b]=rowS (x++[b]):=by rw[Xx]
theorem Ziu(nb:NB mg)(F:FunAt K mg "row_of_steps" Zat ["steps"] f fd)(D_whole_row:DefOk P w K mg base 3 "whole_row" ["n"] Zcj)(D_count_row:DefOk P w K mg base 2 "count_row" ["n"] spCountRow)(D_turned_row:DefOk P w K mg base 1 "turned_row" ["row"] Qs):DefOk P w K mg base 4 "row_of_steps" ["steps"] spRowOf:=by
 refine F.ok Yl (fun vs H Q E h=>?_) (fun cdv A outer s H vs Q E hr h=>?_)
 ·obtain⟨a,s,rfl,_⟩:=h;rfl
 obtain⟨a,s,rfl,ha,hne,hl,hR,q⟩:=h
 refine⟨_,(Zc (Zp (i:=1) Yl.nd rfl (by exact Or.inl rfl) (Zh oSub (Zm Zt rfl nb.len_ Xg (Za (pv 0) Ze)) Zd))
  (Zc (Zp (i:=2) Yl.nd rfl (by exact Or.inl rfl) (Yp Ze))
  (Zc (Jg PassesOwn.never rfl (Zzg rfl nb.enumerate_ (pv 0)) (Zbt rfl (Xz (Zy (i:=3) Yl.nd rfl (by exact Or.inl rfl)) (Xz (Zy (i:=4) Yl.nd rfl (by exact Or.inl rfl)) Qp)))
   (Zc (Zp (i:=5) Yl.nd rfl (by exact Or.inl rfl) (Wm (Zl oEq (pv 3) Zd (Zk _)) (Zi D_whole_row hr (Za (pv 4) Ze)) (Zi D_count_row hr (Za (Zh oSub (pv 4) Zd) Ze))))
   (Zc (Zp (i:=5) Yl.nd rfl (by exact Or.inl rfl) (Zh oAdd (pv 5) (Wm (Zl oEq (pv 3) (pv 1) (Zk _)) Zu Zu)))
   (Zf (Yj (Wb PySem.F.plainAttrs_list PySem.F.slot_list_append PySem.F.type_list_append Ji (pv 2) (Za (Wm (Zl oEq (Zh Xc (pv 3) Zd) Zd (Zk _)) (Zi D_turned_row hr (Za (pv 5) Ze)) (pv 5)) Ze)))))))
  (Zf (Zj (Wb PySem.F.plainAttrs_str PySem.F.slot_str_join PySem.F.type_str_join Zem Zu (Za (pv 2) Ze))))))),?_⟩
 try dsimp only[cxK0,cxK1,cxK2,cxK3]
 refine⟨_,rfl,_,_,rfl,.inl ⟨_,Uy ha,rfl⟩,_,_,rfl,rfl,UF _,fun r hr2=>?_⟩
 have sB:=Zq (o:=HO.lst []) hr2
 refine⟨_,rfl,a,_,rfl,Uy (sB _ _ ha),?_⟩
 refine Zxp (xs:=s.map V.int) (fun i σ H2=>Same H H2∧H2 r=some (.lst (((pcs 0 s).take i).map (fun p=>V.str (rowS p))))∧∃ z1 z2 z3,σ=[some (.ref a),some (.int ((s.length:Nat) - 1:Int)),some (.ref r),z1,z2,z3]) ?_ ?_ ?_ ?_
 ·exact⟨sB,Zb,none,none,none,by dsimp only;rw[mI];rfl⟩
 ·rintro i σ H2 hi ⟨hs,_⟩;exact Uy (hs _ _ ha)
 ·rintro i xv σ H2 T hx hT ⟨hs,er,z1,z2,z3,rfl⟩
  obtain⟨x,hxs,rfl⟩:∃ x,s[i]?=some x∧xv = .int x:=by
   rw[Ur] at hx
   cases h:s[i]? with
   | none=>rw[h] at hx;cases hx
   | some y=>rw[h] at hx;exact⟨y,rfl,(Ub hx).symm⟩
  have hi:i<s.length:=(Uw.mp hxs).1
  have hin:=hR.at hxs
  have hpc:=Ztc (k:=0) hxs
  rw[Nat.zero_add] at hpc
  have hs2:=hs.trans (Zq (o:=HO.tup [V.int ((i:Nat):Int),V.int x]) hT)
  have er2:=Zq (o:=HO.tup [V.int ((i:Nat):Int),V.int x]) hT _ _ er
  refine⟨T,_,rfl,Uz Zb,rfl,_,_,rfl,_,_,rfl,rfl,?_⟩
  refine⟨_,rfl,rfl,_,rfl,?_⟩
  by_cases hi0:i=0
  ·rw[if_pos hi0] at hin
   have e0:decide (V.int ((i:Nat):Int)=V.int 0)=true:=Ut (congrArg V.int (by omega))
   rw[e0]
   refine iteT ⟨_,rfl,x,rfl,hin,_,rfl,_,rfl,_,rfl,rfl,_,rfl,?_⟩
   obtain⟨x',ex'⟩:∃ x',x'=whl x:=⟨_,rfl⟩
   have ex:(if i=0 then whl x else cnt (x - 1).toNat)=x':=by rw[if_pos hi0,ex']
   have lx:x'.length≤270:=by rw[ex'];exact Zjj hin.1 hin.2
   rw[← ex']
   have lp:(x'++[!decide (i+1=s.length)]).length≤271:=by rw[Uo,UQ];omega
   refine iteD (fun c2=>?_) (fun c2=>?_)
   ·
    have el:i+1=s.length:=by have:=V.int.inj c2;omega
    have eb:[!decide (i+1=s.length)]=[false]:=by rw[Ut el];rfl
    refine .inr ⟨_,_,rfl,rfl,(by rw[s0,Zr,Zr];exact Xo (by rw[UQ];omega)),?_⟩
    rw[s0,Zeh,← eb]
    refine⟨_,rfl,.inl ⟨rfl,_,Uy er2⟩,_,rfl,_,_,rfl,rfl,(by show (0:Int)<2;decide),rfl,_,rfl,?_⟩
    have happ:∀ z:List V,z=((pcs 0 s).take i).map (fun p=>V.str (rowS p))→z.length<sizeLine:=fun z hz=>by rw[hz,Uj,US];exact UA (show min i (pcs 0 s).length<100001 by omega) (small5' (by decide))
    have fin:∀ p:List Bool,p=piece i x (decide (i+1=s.length))→((pcs 0 s).take i).map (fun p=>V.str (rowS p))++[V.str (rowS p)]=((pcs 0 s).take (i+1)).map (fun p=>V.str (rowS p)):=fun p hp=>by rw[UX,hpc,UE,hp];rfl
    refine iteD (fun c3=>?_) (fun c3=>?_)
    ·have ho:odd i=true:=Ut (by have:=V.int.inj c3;omega)
     refine⟨_,rfl,_,rfl,by omega,?_⟩
     refine⟨_,_,_,rfl,rfl,er2,happ _ rfl,?_⟩
     rw[fin _ (by unfold piece;rw[ho,ex];exact Vg fun b _=>by cases b<;>rfl)]
     exact⟨Jh hs2 hr2,Zb,_,_,_,rfl⟩
    ·have ho:odd i=false:=UB (fun z=>c3 (congrArg V.int (by omega)))
     refine⟨_,rfl,?_⟩
     refine⟨_,_,_,rfl,rfl,er2,happ _ rfl,?_⟩
     rw[fin _ (by unfold piece;rw[ho,ex,Zeb])]
     exact⟨Jh hs2 hr2,Zb,_,_,_,rfl⟩
   ·have el:¬i+1=s.length:=fun z=>c2 (congrArg V.int (by omega))
    have eb:[!decide (i+1=s.length)]=[true]:=by rw[UB el];rfl
    refine .inr ⟨_,_,rfl,rfl,(by rw[s1,Zr,Zr];exact Xo (by rw[UQ];omega)),?_⟩
    rw[s1,Zeh,← eb]
    refine⟨_,rfl,.inl ⟨rfl,_,Uy er2⟩,_,rfl,_,_,rfl,rfl,(by show (0:Int)<2;decide),rfl,_,rfl,?_⟩
    have happ:∀ z:List V,z=((pcs 0 s).take i).map (fun p=>V.str (rowS p))→z.length<sizeLine:=fun z hz=>by rw[hz,Uj,US];exact UA (show min i (pcs 0 s).length<100001 by omega) (small5' (by decide))
    have fin:∀ p:List Bool,p=piece i x (decide (i+1=s.length))→((pcs 0 s).take i).map (fun p=>V.str (rowS p))++[V.str (rowS p)]=((pcs 0 s).take (i+1)).map (fun p=>V.str (rowS p)):=fun p hp=>by rw[UX,hpc,UE,hp];rfl
    refine iteD (fun c3=>?_) (fun c3=>?_)
    ·have ho:odd i=true:=Ut (by have:=V.int.inj c3;omega)
     refine⟨_,rfl,_,rfl,by omega,?_⟩
     refine⟨_,_,_,rfl,rfl,er2,happ _ rfl,?_⟩
     rw[fin _ (by unfold piece;rw[ho,ex];exact Vg fun b _=>by cases b<;>rfl)]
     exact⟨Jh hs2 hr2,Zb,_,_,_,rfl⟩
    ·have ho:odd i=false:=UB (fun z=>c3 (congrArg V.int (by omega)))
     refine⟨_,rfl,?_⟩
     refine⟨_,_,_,rfl,rfl,er2,happ _ rfl,?_⟩
     rw[fin _ (by unfold piece;rw[ho,ex,Zeb])]
     exact⟨Jh hs2 hr2,Zb,_,_,_,rfl⟩
  ·rw[if_neg hi0] at hin
   have e0:decide (V.int ((i:Nat):Int)=V.int 0)=false:=UB (fun z=>hi0 (by have:=V.int.inj z;omega))
   rw[e0]
   have hc1:=hin.1
   have hc2:=hin.2
   refine iteF ⟨_,rfl,_,_,rfl,rfl,(x - 1).toNat,(congrArg (fun y=>[V.int y]) (by omega)),(by omega),_,rfl,_,rfl,_,rfl,rfl,_,rfl,?_⟩
   obtain⟨x',ex'⟩:∃ x',x'=cnt (x - 1).toNat:=⟨_,rfl⟩
   have ex:(if i=0 then whl x else cnt (x - 1).toNat)=x':=by rw[if_neg hi0,ex']
   have lx:x'.length≤270:=by rw[ex'];have:=Zgy (n:=(x - 1).toNat) (by omega);omega
   rw[← ex']
   have lp:(x'++[!decide (i+1=s.length)]).length≤271:=by rw[Uo,UQ];omega
   refine iteD (fun c2=>?_) (fun c2=>?_)
   ·
    have el:i+1=s.length:=by have:=V.int.inj c2;omega
    have eb:[!decide (i+1=s.length)]=[false]:=by rw[Ut el];rfl
    refine .inr ⟨_,_,rfl,rfl,(by rw[s0,Zr,Zr];exact Xo (by rw[UQ];omega)),?_⟩
    rw[s0,Zeh,← eb]
    refine⟨_,rfl,.inl ⟨rfl,_,Uy er2⟩,_,rfl,_,_,rfl,rfl,(by show (0:Int)<2;decide),rfl,_,rfl,?_⟩
    have happ:∀ z:List V,z=((pcs 0 s).take i).map (fun p=>V.str (rowS p))→z.length<sizeLine:=fun z hz=>by rw[hz,Uj,US];exact UA (show min i (pcs 0 s).length<100001 by omega) (small5' (by decide))
    have fin:∀ p:List Bool,p=piece i x (decide (i+1=s.length))→((pcs 0 s).take i).map (fun p=>V.str (rowS p))++[V.str (rowS p)]=((pcs 0 s).take (i+1)).map (fun p=>V.str (rowS p)):=fun p hp=>by rw[UX,hpc,UE,hp];rfl
    refine iteD (fun c3=>?_) (fun c3=>?_)
    ·have ho:odd i=true:=Ut (by have:=V.int.inj c3;omega)
     refine⟨_,rfl,_,rfl,by omega,?_⟩
     refine⟨_,_,_,rfl,rfl,er2,happ _ rfl,?_⟩
     rw[fin _ (by unfold piece;rw[ho,ex];exact Vg fun b _=>by cases b<;>rfl)]
     exact⟨Jh hs2 hr2,Zb,_,_,_,rfl⟩
    ·have ho:odd i=false:=UB (fun z=>c3 (congrArg V.int (by omega)))
     refine⟨_,rfl,?_⟩
     refine⟨_,_,_,rfl,rfl,er2,happ _ rfl,?_⟩
     rw[fin _ (by unfold piece;rw[ho,ex,Zeb])]
     exact⟨Jh hs2 hr2,Zb,_,_,_,rfl⟩
   ·have el:¬i+1=s.length:=fun z=>c2 (congrArg V.int (by omega))
    have eb:[!decide (i+1=s.length)]=[true]:=by rw[UB el];rfl
    refine .inr ⟨_,_,rfl,rfl,(by rw[s1,Zr,Zr];exact Xo (by rw[UQ];omega)),?_⟩
    rw[s1,Zeh,← eb]
    refine⟨_,rfl,.inl ⟨rfl,_,Uy er2⟩,_,rfl,_,_,rfl,rfl,(by show (0:Int)<2;decide),rfl,_,rfl,?_⟩
    have happ:∀ z:List V,z=((pcs 0 s).take i).map (fun p=>V.str (rowS p))→z.length<sizeLine:=fun z hz=>by rw[hz,Uj,US];exact UA (show min i (pcs 0 s).length<100001 by omega) (small5' (by decide))
    have fin:∀ p:List Bool,p=piece i x (decide (i+1=s.length))→((pcs 0 s).take i).map (fun p=>V.str (rowS p))++[V.str (rowS p)]=((pcs 0 s).take (i+1)).map (fun p=>V.str (rowS p)):=fun p hp=>by rw[UX,hpc,UE,hp];rfl
    refine iteD (fun c3=>?_) (fun c3=>?_)
    ·have ho:odd i=true:=Ut (by have:=V.int.inj c3;omega)
     refine⟨_,rfl,_,rfl,by omega,?_⟩
     refine⟨_,_,_,rfl,rfl,er2,happ _ rfl,?_⟩
     rw[fin _ (by unfold piece;rw[ho,ex];exact Vg fun b _=>by cases b<;>rfl)]
     exact⟨Jh hs2 hr2,Zb,_,_,_,rfl⟩
    ·have ho:odd i=false:=UB (fun z=>c3 (congrArg V.int (by omega)))
     refine⟨_,rfl,?_⟩
     refine⟨_,_,_,rfl,rfl,er2,happ _ rfl,?_⟩
     rw[fin _ (by unfold piece;rw[ho,ex,Zeb])]
     exact⟨Jh hs2 hr2,Zb,_,_,_,rfl⟩
 ·rintro σ H2 ⟨hs,er,z1,z2,z3,rfl⟩
  have et:(pcs 0 s).take (s.map V.int).length=pcs 0 s:=by rw[mI,← Zfl 0 s,List.take_length]
  rw[et] at er
  obtain⟨a0,s0',rfl⟩:=List.exists_cons_of_ne_nil hne
  have hlen:∀ p∈pcs 0 (a0::s0'),p.length≤271:=fun p hp=>by
   obtain⟨i,hi,rfl⟩:=List.mem_iff_getElem.mp hp
   have hi':i<(a0::s0').length:=by rw[← Zfl 0 (a0::s0')];exact hi
   have hg:=Ztc (k:=0) (Ui hi')
   rw[Ui hi,Nat.zero_add] at hg
   rw[Ub hg]
   exact Zug (hR.at (Ui hi'))
  refine⟨rfl,_,rfl,_,r,(pcs 0 (a0::s0')).map rowS,rfl,rfl,Uy (by rw[er,UU];rfl),?_,H,.refl hs,?_⟩
  ·have:=Zyu hlen
   have e0:(Str.ofString "").length=0:=by decide +kernel
   rw[e0,Nat.mul_zero,Nat.add_zero]
   rw[Zfl] at this
   omega
  ·rw[Jy,Zzl];exact q
theorem Zod:1≤sizeLine:=by decide
def spMadeOf:Sp:=fun vs H Q _=>∃ t s:Str,vs=[.str t,.str s]∧t.length≤1000∧Q (.bl (madeOf t s)) H
theorem Zsb(nb:NB mg)(F:FunAt K mg "made_of" Zhi ["text","signs"] f fd):DefOk P w K mg base 1 "made_of" ["text","signs"] spMadeOf:=by
 refine F.ok Zrs (fun vs H Q E h=>?_) (fun cdv A outer s H vs Q E hr h=>?_)
 ·obtain⟨_,_,rfl,_⟩:=h;rfl
 obtain⟨t,sg,rfl,ht,q⟩:=h
 refine⟨_,(Zf (Zj (Zm (Zci rfl) rfl nb.all_ Zhy (Za (Yd ["sign"] [(1,"signs")] rfl (by decide +kernel) ⟨rfl,.inl rfl,trivial⟩ (piAll (pv 0)) (fun _ _ _ _ _=>(Zy (i:=0) (show (["sign","signs"]:List Str).Nodup by decide +kernel) rfl (by first | exact Or.inl rfl | exact Or.inr rfl))) (fun _ _ _ _ _=>Xs) (fun _ _ _ _ _=>(Xj Zum (pv 0) (pv 1) (by with_unfolding_all rfl)))) Ze)))),?_⟩
 try dsimp only[cxK0,cxK1,cxK2,cxK3]
 refine .inr ⟨_,rfl,t,rfl,fun D hD=>?_⟩
 refine Zgx (fun c => .bl (decide (c∈sg.cps.toList))) (fun σ=>∃ z,σ=[z,some (.str sg)]) (Xo (by show t.length≤_;omega)) ⟨_,rfl⟩ hD ?_ ?_
 ·rintro c hc σ1 H1 ⟨z,rfl⟩ hs R hR
  refine⟨_,rfl,_,rfl,_,_,rfl,rfl,?_⟩
  rw[StrLaws.found_one]
  exact hR _ ⟨_,rfl⟩
 ·refine⟨D,t.cps.toList.map fun c=>decide (c∈sg.cps.toList),rfl,?_,H,.refl (Zq hD),?_⟩
  ·rw[UU];exact Uy Zb
  ·rw[List.all_map];exact q
def spIsName:Sp:=fun vs H Q _=>∃ n:Str,vs=[.str n]∧n.length≤1000∧Q (.bl (isName n)) H
theorem Zsc(nb:NB mg)(g_LONGEST_NAME:GlobV mg "LONGEST_NAME" (.int 12))(g_SMALL_LETTERS:GlobV mg "SMALL_LETTERS" (.str L26))(F:FunAt K mg "is_name" Zhj ["name"] f fd)(D_made_of:DefOk P w K mg base 1 "made_of" ["text","signs"] spMadeOf):DefOk P w K mg base 2 "is_name" ["name"] spIsName:=by
 refine F.ok Zrt (fun vs H Q E h=>?_) (fun cdv A outer s H vs Q E hr h=>?_)
 ·obtain⟨_,rfl,_⟩:=h;rfl
 obtain⟨n,rfl,hn,q⟩:=h
 refine⟨_,(Zf (Zj (Yu (Xj oLt Zd (Zm Zt rfl nb.len_ Xg (Za (pv 0) Ze)) (Zk _)) (Yu (Xj oLe (Zm Zt rfl nb.len_ Xg (Za (pv 0) Ze)) (Yw g_LONGEST_NAME) (Zk _)) (Wl (Zi D_made_of hr (Za (pv 0) (Za (Yw g_SMALL_LETTERS) Ze)))))))),?_⟩
 try dsimp only[cxK0,cxK1,cxK2,cxK3]
 have ln:n.length≤sizeLine:=Xo (by omega)
 unfold isName at q
 refine⟨_,rfl,_,_,rfl,⟨ln,rfl⟩,.inl ⟨_,_,rfl,rfl,_,rfl,?_⟩⟩
 refine iteD (fun c1=>?_) (fun c1=>?_)
 ·refine⟨_,rfl,_,_,rfl,⟨ln,rfl⟩,_,_,rfl,rfl,_,rfl,?_⟩
  refine iteD (fun c2=>?_) (fun c2=>?_)
  ·refine⟨_,rfl,n,L26,rfl,hn,H,.refl (Vy _),?_⟩
   rw[Ut ⟨by omega,by omega⟩,Bool.true_and] at q
   exact q
  ·rw[UB (fun z=>c2 (by omega)),Bool.false_and] at q
   exact⟨H,.refl (Vy _),q⟩
 ·rw[UB (fun z=>c1 (by omega)),Bool.false_and] at q
  exact⟨H,.refl (Vy _),q⟩
structure Parts(H:Hp)(p:Addr)(ps:List (Addr×Str×Addr)):Prop where
 l:H p=some (.lst (ps.map fun x=>V.ref x.1))
 t:∀ x,x∈ps→H x.1=some (.tup [.str x.2.1,.ref x.2.2])
 n:ps.length≤30
 b:∀ x,x∈ps→x.2.1.length≤100
noncomputable def nms(ps:List (Addr×Str×Addr)):List Str:=ps.map fun x=>x.2.1
noncomputable def fms(ps:List (Addr×Str×Addr)):List Addr:=ps.map fun x=>x.2.2
theorem Parts.same{H H':Hp}{p:Addr}{ps:List (Addr×Str×Addr)}(h:Parts H p ps)(s:Same H H'):Parts H' p ps:=⟨s _ _ h.l,fun x hx=>s _ _ (h.t x hx),h.n,h.b⟩
def spNamesOf:Sp:=fun vs H Q _=>∃ p ps,vs=[.ref p]∧Parts H p ps∧goodNames (nms ps)=true∧∀ D,H D=none→Q (.ref D) (upd H D (.lst ((nms ps).map V.str)))
theorem Zqc(nb:NB mg)(g_MOST_PARTS:GlobV mg "MOST_PARTS" (.int 20))(F:FunAt K mg "names_of" Zfd ["parts"] f fd)(D_is_name:DefOk P w K mg base 2 "is_name" ["name"] spIsName):DefOk P w K mg base 3 "names_of" ["parts"] spNamesOf:=by
 refine F.ok Zic (fun vs H Q E h=>?_) (fun cdv A outer s H vs Q E hr h=>?_)
 ·obtain⟨_,_,rfl,_⟩:=h;rfl
 obtain⟨p,ps,rfl,hP,hg,q⟩:=h
 refine⟨_,(Zc (Wk (i:=1)  ["part"] [] Zic.nd rfl rfl rfl (by decide +kernel) trivial (piAll (pv 0)) (fun _ _ _ _ _=>(Zy (i:=0) (show (["part"]:List Str).Nodup by decide +kernel) rfl (by first | exact Or.inl rfl | exact Or.inr rfl))) (fun _ _ _ _ _=>Xs) (fun _ _ _ _ _=>(Zs iAll (pv 0) Zd (fun _ _=>rfl))))
  (Zc (Zz (PW.pt (Zae (Zl oEq (Zm Zt rfl nb.len_ Xg (Za (pv 1) Ze)) Zd (Zk _)) (Ju (Zl oGt (Zm Zt rfl nb.len_ Xg (Za (pv 1) Ze)) (Yw g_MOST_PARTS) (Zk _))))) (Zf Yv) Zo)
  (Zc (Zz (Zl oLt (Zmh rfl rfl nb.len_ rfl nb.set_ (pv 1)) (Zm Zt rfl nb.len_ Xg (Za (pv 1) Ze)) (Zk _)) (Zf Yv) Zo)
  (Zc (Zz (Yt (Xm (Zm (Zci rfl) rfl nb.all_ Zhy (Za (Yd ["name"] [] rfl (by decide +kernel) trivial (piAll (pv 1)) (fun _ _ _ _ _=>(Zy (i:=0) (show (["name"]:List Str).Nodup by decide +kernel) rfl (by first | exact Or.inl rfl | exact Or.inr rfl))) (fun _ _ _ _ _=>Xs) (fun _ _ _ _ _=>(Zi D_is_name hr (Za (pv 0) Ze)))) Ze)) (fun _=>rfl))) (Zf Yv) Zo)
  (Zf (Zj (pv 1))))))),?_⟩
 try dsimp only[cxK0,cxK1,cxK2,cxK3]
 refine .inl ⟨_,rfl,p,rfl,⟨_,Uy hP.l⟩,fun D hD=>?_⟩
 refine Wn (K:=K) (a:=p) (xs:=ps.map fun x=>V.ref x.1) (fun i=>V.str ((nms ps).getD i Str.empty)) (fun σ=>∃ z,σ=[z]) (by rw[Uj];exact Xo (by have:=hP.n;omega)) ⟨_,rfl⟩ hD (Uy hP.l) ?_ ?_
 ·rintro i x hx σ1 H1 ⟨z,rfl⟩ hs1 R hR
  rw[Ur] at hx
  obtain⟨y,hy,rfl⟩:=Uf.mp hx
  have hm:=Uv hy
  have e:(nms ps).getD i Str.empty=y.2.1:=by unfold nms;rw[Uk,Ur,hy];rfl
  rw[e] at hR
  exact⟨_,rfl,.inl (.inr ⟨_,_,_,_,rfl,rfl,Uz (hs1 _ _ (hP.t y hm)),Zx (j:=0) rfl,hR _ ⟨_,rfl⟩⟩)⟩
 have en:(List.range (ps.map fun x=>V.ref x.1).length).map (fun i=>V.str ((nms ps).getD i Str.empty))=(nms ps).map V.str:=by
  have h0:=Zie (nms ps)
  rw[show (ps.map fun x=>V.ref x.1).length=(nms ps).length by unfold nms;rw[Uj,Uj]]
  exact h0
 rw[en]
 have hlN:(nms ps).length≤30:=by unfold nms;rw[Uj];exact hP.n
 have hSq:SqL K (upd H D (.lst ((nms ps).map V.str))) D ((nms ps).map V.str):=Uy Zb
 have hds:=Xbx (nms ps)
 unfold goodNames at hg
 refine⟨_,rfl,_,_,rfl,.inl ⟨_,hSq,rfl⟩,rfl,_,rfl,?_⟩
 rw[Uj]
 simp only[UN,UW] at hg
 obtain⟨⟨h0,h20,hd⟩,hall⟩:=hg
 refine iteN (fun z=>h0 (by have:=V.int.inj z;omega)) ⟨_,rfl,_,_,rfl,.inl ⟨_,hSq,rfl⟩,_,_,rfl,rfl,_,rfl,iteN (by rw[Uj];omega) ?_⟩
 refine⟨_,rfl,_,_,Zpi hSq,(by unfold scanBound;omega),_,rfl,_,_,rfl,.inl ⟨_,hSq,rfl⟩,.inl ⟨_,_,rfl,rfl,_,rfl,iteN (by rw[Uj];show ¬(((dsN (nms ps):Nat):Int)<_);omega) ?_⟩⟩
 refine .inl ⟨_,rfl,D,rfl,⟨_,hSq⟩,fun D2 hD2=>?_⟩
 have hD3:upd H D (.lst ((nms ps).map V.str)) D=some (.lst ((nms ps).map V.str)):=Zb
 refine Zeo (K:=K) (a:=D) (xs:=(nms ps).map V.str) (fun x=>match x with | .str n => .bl (isName n) | _ => .non) (fun σ=>∃ z,σ=[z]) (by rw[Uj];exact Xo (by omega)) ⟨_,rfl⟩ hD2 hSq ?_ ?_
 ·rintro x hx σ1 H1 ⟨z,rfl⟩ hs1 R hR
  obtain⟨n,hn,rfl⟩:=List.mem_map.mp hx
  obtain⟨y,hy,rfl⟩:=List.mem_map.mp hn
  have:=hP.b y hy
  exact⟨_,rfl,_,rfl,by omega,hR _ ⟨_,rfl⟩⟩
 ·rw[UU]
  refine⟨D2,(nms ps).map isName,rfl,?_,_,rfl,?_⟩
  ·rw[UU];exact Uy Zb
  rw[List.all_map,show (id ∘ isName)=isName from rfl,hall]
  exact iteF ⟨_,rfl,_,.new (o:=HO.lst ((nms ps).map V.str)) hD ((Zq hD).trans (Zq hD2)) (by rw[Zn (fun z=>by rw[← z,hD3] at hD2;cases hD2)];exact Zb) trivial,q D hD⟩
structure SpanCls(K:Ua)(C:Addr):Prop where
 cl:Cls K C
 nL:NoAttr K C "low"
 nH:NoAttr K C "high"
structure LetCls(K:Ua)(C:Addr):Prop where
 cl:Cls K C
 nS:NoAttr K C "signs"
structure TwoCls(K:Ua)(C:Addr):Prop where
 cl:Cls K C
 nN:NoAttr K C "names"
 nF:NoAttr K C "forms"
theorem lowhigh:¬(("low":Str)="high"):=by decide +kernel
theorem namesforms:¬(("names":Str)="forms"):=by decide +kernel
theorem Zzd(v:V):putF "low" v []=([("low",v)]:List (Str×V)):=rfl
theorem Zwr(v w:V):putF "high" w ([("low",v)]:List (Str×V))=([("low",v),("high",w)]:List (Str×V)):=by simp only[putF,lowhigh,if_false]
theorem Zrx(v:V):putF "signs" v []=([("signs",v)]:List (Str×V)):=rfl
theorem Zmc(v:V):putF "names" v []=([("names",v)]:List (Str×V)):=rfl
theorem Zmd(v w:V):putF "forms" w ([("names",v)]:List (Str×V))=([("names",v),("forms",w)]:List (Str×V)):=by simp only[putF,namesforms,if_false]
theorem look1(k:Str)(v:V)(r:List (Str×V)):((k,v)::r).lookup k=some v:=by simp[List.lookup]
theorem look2(k k2:Str)(v w:V)(h:(k2 == k)=false):([(k,v),(k2,w)]:List (Str×V)).lookup k2=some w:=by simp[List.lookup,h]
theorem highlow:(("high":Str) == "low")=false:=by decide +kernel
theorem formsnames:(("forms":Str) == "names")=false:=by decide +kernel
noncomputable def spanF(a b:Int):List (Str×V):=[("low",.int a),("high",.int b)]
noncomputable def letF(s:Str):List (Str×V):=[("signs",.str s)]
noncomputable def twoF(l1 l2:Addr):List (Str×V):=[("names",.ref l1),("forms",.ref l2)]
def spSpanInit(C:Addr):Sp:=fun vs H Q _=>∃ (p dx:Addr) (a b:Int),vs=[.ref p,.int a,.int b]∧H p=some (.ins C dx [])∧a≤b∧Q .non (upd H p (.ins C dx (spanF a b)))
theorem Zof(T:SpanCls K C)(F:Fun K "__init__" "Span.__init__" Zdv f fd):FnOk P w K mg base CX0 1 f fd ["self","low","high"] (spSpanInit C):=by
 refine F.ok Znu (fun vs H Q E h=>?_) (fun cdv A outer s H vs Q E hr h=>?_)
 ·obtain⟨_,_,_,_,rfl,_⟩:=h;rfl
 obtain⟨p,dx,a,b,rfl,hp,hab,q⟩:=h
 refine⟨_,(Zc (Zz (Zl oGt (pv 1) (pv 2) (Zk _)) (Zf Yv) Zo)
  (Zc (Yy (pv 0) (pv 1) rfl)
  (Zf (Yy (pv 0) (pv 2) rfl)))),?_⟩
 try dsimp only[cxK0,cxK1,cxK2,cxK3]
 refine⟨_,rfl,_,rfl,_,_,rfl,rfl,_,rfl,iteN (by omega) ?_⟩
 refine⟨_,rfl,_,rfl,p,C,dx,_,rfl,hp,T.cl,T.nL,(by show 0<1000;decide),?_⟩
 rw[Zzd]
 refine⟨_,rfl,_,rfl,p,C,dx,_,rfl,Zb,T.cl,T.nH,(by show 1<1000;decide),?_⟩
 rw[Zwr,Xf]
 exact q
def spLetInit(C:Addr):Sp:=fun vs H Q _=>∃ (p dx:Addr) (s:Str),vs=[.ref p,.str s]∧H p=some (.ins C dx [])∧s.length≤1000∧goodText s=true∧Q .non (upd H p (.ins C dx (letF s)))
theorem Zqd(nb:NB mg)(g_MOST_SIGNS:GlobV mg "MOST_SIGNS" (.int 60))(g_LETTERS_AND_FIGURES:GlobV mg "LETTERS_AND_FIGURES" (.str L62))(T:LetCls K C)(F:Fun K "__init__" "Letters.__init__" Zaw f fd)(D_made_of:DefOk P w K mg base 1 "made_of" ["text","signs"] spMadeOf):FnOk P w K mg base CX0 2 f fd ["self","signs"] (spLetInit C):=by
 refine F.ok Zis (fun vs H Q E h=>?_) (fun cdv A outer s H vs Q E hr h=>?_)
 ·obtain⟨_,_,_,rfl,_⟩:=h;rfl
 obtain⟨p,dx,t,rfl,hp,ht,hg,q⟩:=h
 refine⟨_,(Zc (Zz (PW.pt (Zae (Zl oEq (pv 1) Zu (Zk _)) (Ju (Zl oGt (Zm Zt rfl nb.len_ Xg (Za (pv 1) Ze)) (Yw g_MOST_SIGNS) (Zk _))))) (Zf Yv) Zo)
  (Zc (Zz (Zl oLt (Zmh rfl rfl nb.len_ rfl nb.set_ (pv 1)) (Zm Zt rfl nb.len_ Xg (Za (pv 1) Ze)) (Zk _)) (Zf Yv) Zo)
  (Zc (Zz (Yt (Xm (Zi D_made_of hr (Za (pv 1) (Za (Yw g_LETTERS_AND_FIGURES) Ze))) (fun _=>rfl))) (Zf Yv) Zo)
  (Zf (Yy (pv 0) (pv 1) rfl))))),?_⟩
 try dsimp only[cxK0,cxK1,cxK2,cxK3]
 have ln:t.length≤sizeLine:=Xo (by omega)
 have hds:=Xbw t
 unfold goodText at hg
 simp only[UN,UW] at hg
 obtain⟨⟨h0,h60,hd⟩,hall⟩:=hg
 refine⟨_,rfl,rfl,_,rfl,iteN (fun z=>h0 ((Zyv t).mp (V.str.inj z))) ⟨_,rfl,_,_,rfl,⟨ln,rfl⟩,_,_,rfl,rfl,_,rfl,iteN (by omega) ?_⟩⟩
 refine⟨_,rfl,_,_,Zrm t,(by unfold scanBound;show t.length+1<_;omega),_,rfl,_,_,rfl,⟨ln,rfl⟩,.inl ⟨_,_,rfl,rfl,_,rfl,iteN (by show ¬(((dsT t:Nat):Int)<_);omega) ?_⟩⟩
 refine⟨_,rfl,t,L62,rfl,by omega,_,rfl,?_⟩
 rw[hall]
 refine iteF ⟨_,rfl,_,rfl,p,C,dx,_,rfl,hp,T.cl,T.nS,(by show 0<1000;decide),?_⟩
 rw[Zrx]
 exact q
theorem Parts.keep{H H':Hp}{p o C dx:Addr}{fs:List (Str×V)}{ps:List (Addr×Str×Addr)}(h:Parts H p ps)(ho:H o=some (.ins C dx fs))(s:∀ b u,b≠o→H b=some u→H' b=some u):Parts H' p ps :=
 ⟨s _ _ (fun z=>by have:=h.l;rw[z,ho] at this;cases this) h.l,fun x hx=>s _ _ (fun z=>by have:=h.t x hx;rw[z,ho] at this;cases this) (h.t x hx),h.n,h.b⟩
def spTwoInit(C:Addr):Sp:=fun vs H Q _=>∃ (o dx p:Addr) (ps:List (Addr×Str×Addr)),vs=[.ref o,.ref p]∧H o=some (.ins C dx [])∧Parts H p ps∧goodNames (nms ps)=true∧
 ∀ l1 l2,H l1=none→H l2=none→l1≠l2→Q .non (upd (upd (upd H l1 (.lst ((nms ps).map V.str))) l2 (.lst ((fms ps).map V.ref))) o (.ins C dx (twoF l1 l2)))
theorem Zqa(nb:NB mg)(T:TwoCls K C)(F:Fun K "__init__" "Record.__init__" Zbr f fd)(D_names_of:DefOk P w K mg base 3 "names_of" ["parts"] spNamesOf):FnOk P w K mg base CX0 4 f fd ["self","parts"] (spTwoInit C):=by
 refine F.ok Zjv (fun vs H Q E h=>?_) (fun cdv A outer s H vs Q E hr h=>?_)
 ·obtain⟨_,_,_,_,rfl,_⟩:=h;rfl
 obtain⟨o,dx,p,ps,rfl,ho,hP,hg,q⟩:=h
 refine⟨_,(Zc (Yy (pv 0) (Zi D_names_of hr (Za (pv 1) Ze)) rfl)
  (Zf (Yy (pv 0) (Yd ["part"] [] rfl (by decide +kernel) trivial (piAll (pv 1)) (fun _ _ _ _ _=>(Zy (i:=0) (show (["part"]:List Str).Nodup by decide +kernel) rfl (by first | exact Or.inl rfl | exact Or.inr rfl))) (fun _ _ _ _ _=>Xs) (fun _ _ _ _ _=>(Zs iAll (pv 0) Zd (fun _ _=>rfl)))) rfl))),?_⟩
 try dsimp only[cxK0,cxK1,cxK2,cxK3]
 refine⟨_,rfl,p,ps,rfl,hP,hg,fun l1 h1=>?_⟩
 have n1:l1≠o:=(Xa ho h1).symm
 refine⟨_,rfl,o,C,dx,_,rfl,(by rw[Zn (Uh n1)];exact ho),T.cl,T.nN,(by show 0<1000;decide),?_⟩
 rw[Zmc]
 have k1:∀ b u,b≠o→H b=some u→upd (upd H l1 (.lst ((nms ps).map V.str))) o (.ins C dx [("names",.ref l1)]) b=some u:=fun b u nb e=>by rw[Zn nb,Zn (Xa e h1)];exact e
 have hP1:=hP.keep ho k1
 refine .inl ⟨_,rfl,p,rfl,⟨_,Uy hP1.l⟩,fun l2 h2=>?_⟩
 have n2:l2≠o:=fun z=>by rw[z,Zb] at h2;cases h2
 have n12:l1≠l2:=fun z=>by rw[Zn n2,← z,Zb] at h2;cases h2
 have h20:H l2=none:=by rw[Zn n2,Zn (Uh n12)] at h2;exact h2
 refine Wn (K:=K) (a:=p) (xs:=ps.map fun x=>V.ref x.1) (fun i=>V.ref ((fms ps).getD i 0)) (fun σ=>∃ z,σ=[z]) (by rw[Uj];exact Xo (by have:=hP.n;omega)) ⟨_,rfl⟩ h2 (Uy hP1.l) ?_ ?_
 ·rintro i x hx σ1 H1 ⟨z,rfl⟩ hs1 R hR
  rw[Ur] at hx
  obtain⟨y,hy,rfl⟩:=Uf.mp hx
  have hm:=Uv hy
  have e:(fms ps).getD i 0=y.2.2:=by unfold fms;rw[Uk,Ur,hy];rfl
  rw[e] at hR
  exact⟨_,rfl,.inl (.inr ⟨_,_,_,_,rfl,rfl,Uz (hs1 _ _ (hP1.t y hm)),Zx (j:=1) rfl,hR _ ⟨_,rfl⟩⟩)⟩
 have en:(List.range (ps.map fun x=>V.ref x.1).length).map (fun i=>V.ref ((fms ps).getD i 0))=(fms ps).map V.ref:=by
  apply List.ext_getElem
  ·unfold fms;simp
  ·intro i g1 g2
   have g3:i<ps.length:=by simpa [fms] using g2
   have g4:i<(fms ps).length:=by simpa using g2
   rw[Vc,Vc,List.getElem_range,Uk,Ui g4];rfl
 rw[en]
 refine⟨_,rfl,o,C,dx,_,rfl,(by rw[Zn (Uh n2)];exact Zb),T.cl,T.nF,(by show 1<1000;decide),?_⟩
 rw[Zmd,Zbw (Uh n2),Xf]
 exact q l1 l2 h1 h20 n12
theorem Zqi(nb:NB mg)(T:TwoCls K C)(F:Fun K "__init__" "Choice.__init__" Zbs f fd)(D_names_of:DefOk P w K mg base 3 "names_of" ["parts"] spNamesOf):FnOk P w K mg base CX0 4 f fd ["self","cases"] (spTwoInit C):=by
 refine F.ok Zjy (fun vs H Q E h=>?_) (fun cdv A outer s H vs Q E hr h=>?_)
 ·obtain⟨_,_,_,_,rfl,_⟩:=h;rfl
 obtain⟨o,dx,p,ps,rfl,ho,hP,hg,q⟩:=h
 refine⟨_,(Zc (Yy (pv 0) (Zi D_names_of hr (Za (pv 1) Ze)) rfl)
  (Zf (Yy (pv 0) (Yd ["case"] [] rfl (by decide +kernel) trivial (piAll (pv 1)) (fun _ _ _ _ _=>(Zy (i:=0) (show (["case"]:List Str).Nodup by decide +kernel) rfl (by first | exact Or.inl rfl | exact Or.inr rfl))) (fun _ _ _ _ _=>Xs) (fun _ _ _ _ _=>(Zs iAll (pv 0) Zd (fun _ _=>rfl)))) rfl))),?_⟩
 try dsimp only[cxK0,cxK1,cxK2,cxK3]
 refine⟨_,rfl,p,ps,rfl,hP,hg,fun l1 h1=>?_⟩
 have n1:l1≠o:=(Xa ho h1).symm
 refine⟨_,rfl,o,C,dx,_,rfl,(by rw[Zn (Uh n1)];exact ho),T.cl,T.nN,(by show 0<1000;decide),?_⟩
 rw[Zmc]
 have k1:∀ b u,b≠o→H b=some u→upd (upd H l1 (.lst ((nms ps).map V.str))) o (.ins C dx [("names",.ref l1)]) b=some u:=fun b u nb e=>by rw[Zn nb,Zn (Xa e h1)];exact e
 have hP1:=hP.keep ho k1
 refine .inl ⟨_,rfl,p,rfl,⟨_,Uy hP1.l⟩,fun l2 h2=>?_⟩
 have n2:l2≠o:=fun z=>by rw[z,Zb] at h2;cases h2
 have n12:l1≠l2:=fun z=>by rw[Zn n2,← z,Zb] at h2;cases h2
 have h20:H l2=none:=by rw[Zn n2,Zn (Uh n12)] at h2;exact h2
 refine Wn (K:=K) (a:=p) (xs:=ps.map fun x=>V.ref x.1) (fun i=>V.ref ((fms ps).getD i 0)) (fun σ=>∃ z,σ=[z]) (by rw[Uj];exact Xo (by have:=hP.n;omega)) ⟨_,rfl⟩ h2 (Uy hP1.l) ?_ ?_
 ·rintro i x hx σ1 H1 ⟨z,rfl⟩ hs1 R hR
  rw[Ur] at hx
  obtain⟨y,hy,rfl⟩:=Uf.mp hx
  have hm:=Uv hy
  have e:(fms ps).getD i 0=y.2.2:=by unfold fms;rw[Uk,Ur,hy];rfl
  rw[e] at hR
  exact⟨_,rfl,.inl (.inr ⟨_,_,_,_,rfl,rfl,Uz (hs1 _ _ (hP1.t y hm)),Zx (j:=1) rfl,hR _ ⟨_,rfl⟩⟩)⟩
 have en:(List.range (ps.map fun x=>V.ref x.1).length).map (fun i=>V.ref ((fms ps).getD i 0))=(fms ps).map V.ref:=by
  apply List.ext_getElem
  ·unfold fms;simp
  ·intro i g1 g2
   have g3:i<ps.length:=by simpa [fms] using g2
   have g4:i<(fms ps).length:=by simpa using g2
   rw[Vc,Vc,List.getElem_range,Uk,Ui g4];rfl
 rw[en]
 refine⟨_,rfl,o,C,dx,_,rfl,(by rw[Zn (Uh n2)];exact Zb),T.cl,T.nF,(by show 1<1000;decide),?_⟩
 rw[Zmd,Zbw (Uh n2),Xf]
 exact q l1 l2 h1 h20 n12
structure OneCls(K:Ua)(C:Addr):Prop where
 cl:Cls K C
 nI:NoAttr K C "inner"
def spOneInit(C:Addr):Sp:=fun vs H Q _=>∃ p dx w,vs=[.ref p,.ref w]∧H p=some (.ins C dx [])∧Q .non (upd H p (.ins C dx [("inner",.ref w)]))
theorem Zlm(T:OneCls K C)(F:Fun K "__init__" "Maybe.__init__" Zcu f fd):FnOk P w K mg base CX0 1 f fd ["self","inner"] (spOneInit C):=by
 refine F.ok Zli (fun vs H Q E h=>?_) (fun cdv A outer s H vs Q E hr h=>?_)
 ·obtain⟨_,_,_,rfl,_⟩:=h;rfl
 obtain⟨p,dx,w,rfl,hp,q⟩:=h
 exact⟨_,(Zf (Yy (pv 0) (pv 1) rfl)),_,rfl,_,rfl,p,C,dx,_,rfl,hp,T.cl,T.nI,(by show 0<1000;decide),q⟩
theorem Zog(T:OneCls K C)(F:Fun K "__init__" "Many.__init__" Zdw f fd):FnOk P w K mg base CX0 1 f fd ["self","inner"] (spOneInit C):=by
 refine F.ok Znx (fun vs H Q E h=>?_) (fun cdv A outer s H vs Q E hr h=>?_)
 ·obtain⟨_,_,_,rfl,_⟩:=h;rfl
 obtain⟨p,dx,w,rfl,hp,q⟩:=h
 exact⟨_,(Zf (Yy (pv 0) (pv 1) rfl)),_,rfl,_,rfl,p,C,dx,_,rfl,hp,T.cl,T.nI,(by show 0<1000;decide),q⟩
theorem Zkj(T:OneCls K C)(F:Fun K "__init__" "Turned.__init__" Zbp f fd):FnOk P w K mg base CX0 1 f fd ["self","inner"] (spOneInit C):=by
 refine F.ok Zjq (fun vs H Q E h=>?_) (fun cdv A outer s H vs Q E hr h=>?_)
 ·obtain⟨_,_,_,rfl,_⟩:=h;rfl
 obtain⟨p,dx,w,rfl,hp,q⟩:=h
 exact⟨_,(Zf (Yy (pv 0) (pv 1) rfl)),_,rfl,_,rfl,p,C,dx,_,rfl,hp,T.cl,T.nI,(by show 0<1000;decide),q⟩
structure Ins(K:Ua)(C:Addr):Prop where
 cl:Cls K C
 ha:PySem.W.findIn K (.ref C) "__class__"=some (some (.builtin "object.__class__"))
 hn:PySem.W.specialIn K (.builtin "object.__class__") "__get__"=some (some (.builtin "getset_descriptor.__get__"))
 htk:PySem.W.takesIn K (.builtin "object.__class__")=some true
 hm:PySem.W.mroIn K C (.type "object")=some true
theorem Ins.ty{K:Ua}{C:Addr}(I:Ins K C){H:Hp}{o dx:Addr}{fs:List (Str×V)}(h:H o=some (.ins C dx fs)):TyOf K H (.ref o) (.ref C) := .ins h I.cl I.ha I.hn I.htk I.hm
noncomputable def isNum:D→Bool
 | .int _=>true
 | _=>false
noncomputable def bareFit(ff:D→Bool):Fin 4→D→Bool
 | 0,.non=>true
 | 1,.bl _=>true
 | 2,.int i=>decide (WholeIn i)
 | 3,d=>ff d
 | _,_=>false
noncomputable def maybeFit(g:D→Bool):D→Bool
 | .tup []=>true
 | .tup [x]=>g x
 | _=>false
noncomputable def manyFit(g:D→Bool):D→Bool
 | .lst ds=>decide (ds.length≤60)&&ds.all g
 | _=>false
noncomputable def oneFit(k:Fin 3)(g:D→Bool)(d:D):Bool:=if k=0 then maybeFit g d else if k=1 then manyFit g d else g d
noncomputable def spanFit(a b:Int):D→Bool
 | .int i=>decide (a≤i∧i≤b)
 | _=>false
noncomputable def letFit(s:Str):D→Bool
 | .str t=>decide (t.length≤200)&&madeOf t s
 | _=>false
noncomputable def tupFit(g:List D→Bool):D→Bool
 | .tup ds=>g ds
 | _=>false
noncomputable def choFit(g:Str→D→Bool):D→Bool
 | .tup [.str n,x]=>g n x
 | _=>false
mutual
noncomputable def fitB(ff:D→Bool):Fm→D→Bool
 | .bare k,d=>bareFit ff k d
 | .sp a b,d=>spanFit a b d
 | .le s,d=>letFit s d
 | .one k f,d=>oneFit k (fitB ff f) d
 | .two k ns fs,d=>if k=0 then tupFit (fitL ff fs) d else choFit (fitC ff fs ns) d
noncomputable def fitL(ff:D→Bool):List Fm→List D→Bool
 | [],ds=>ds.isEmpty
 | f::fs,ds=>match ds with | []=>false | d::ds=>fitB ff f d&&fitL ff fs ds
noncomputable def fitC(ff:D→Bool):List Fm→List Str→Str→D→Bool
 | [],_,_,_=>false
 | f::fs,ns,n,x=>if ns.head?=some n then fitB ff f x else fitC ff fs ns.tail n x
end
def spIsNum:Sp:=fun vs H Q _=>∃ (v:V) (d:D),vs=[v]∧DAt H d v∧Q (.bl (isNum d)) H
def spHasWholeD:Sp:=fun vs H Q _=>∃ n:Int,vs=[.int n]∧Q (.bl (decide (WholeIn n))) H
theorem Zgf(F:FunAt K mg "has_whole_row" Ww ["n"] f fd)(D_is_count:DefOk P w K mg base 1 "is_count" ["n"] spIsCount):DefOk P w K mg base 2 "has_whole_row" ["n"] spHasWholeD:=by
 refine F.ok Zbz (fun vs H Q E h=>?_) (fun cdv A outer s H vs Q E hr h=>?_)
 ·obtain⟨n,rfl,_⟩:=h;rfl
 obtain⟨n,rfl,q⟩:=h
 refine⟨_,(Zf (Zj (Zi D_is_count hr (Za (Wm (Zl oGe (pv 0) Zd (Zk _)) (pv 0) (Zh oSub (Zbk Jk Zd) (pv 0))) Ze)))),?_⟩
 try dsimp only[cxK0,cxK1,cxK2,cxK3]
 refine⟨_,rfl,_,_,rfl,rfl,_,rfl,?_⟩
 refine iteD (fun c=>?_) (fun c=>?_)
 ·refine⟨_,rfl,_,rfl,H,.refl (Vy _),?_⟩
  have e:decide (CountIn n)=decide (WholeIn n):=decide_eq_decide.mpr (by unfold CountIn WholeIn;omega)
  rw[e];exact q
 ·refine⟨_,rfl,_,rfl,_,_,rfl,rfl,_,rfl,H,.refl (Vy _),?_⟩
  have e:decide (CountIn (-1 - n))=decide (WholeIn n):=decide_eq_decide.mpr (by unfold CountIn WholeIn;omega)
  rw[e];exact q
theorem Zlr(nb:NB mg)(F:FunAt K mg "is_number" Zdr ["value"] f fd):DefOk P w K mg base 1 "is_number" ["value"] spIsNum:=by
 refine F.ok Znr (fun vs H Q E h=>?_) (fun cdv A outer s H vs Q E hr h=>?_)
 ·obtain⟨_,_,rfl,_⟩:=h;rfl
 obtain⟨v,d,rfl,hd,q⟩:=h
 refine⟨_,(Zf (Zj (Yu (Zm Xi rfl nb.isinstance_ Xd (Za (pv 0) (Za (Yn (v := .ty "int") rfl nb.int_ Zba rfl) Ze))) (Wl (Zoa (Zm Xi rfl nb.isinstance_ Xd (Za (pv 0) (Za (Yn (v := .ty "bool") rfl nb.bool_ Zjh rfl) Ze)))))))),?_⟩
 try dsimp only[cxK0,cxK1,cxK2,cxK3]
 refine⟨_,rfl,.inl ⟨_,_,_,_,rfl,hd.ty,kitD K d (by decide),_,rfl,?_⟩⟩
 cases d with
 | int i=>exact iteT ⟨_,rfl,.inl ⟨_,_,_,_,rfl,hd.ty,kitD K _ (by decide),_,rfl,H,.refl (Vy _),q⟩⟩
 | bl b=>exact iteT ⟨_,rfl,.inl ⟨_,_,_,_,rfl,hd.ty,kitD K _ (by decide),_,rfl,H,.refl (Vy _),q⟩⟩
 | _=>exact iteF ⟨H,.refl (Vy _),q⟩
def spFitT(has:Sl→Bool)(ff:D→Bool)(c:FC)(n:Nat)(i:Sl):Sp:=fun vs H Q _=>∃ (o:Addr) (f:Fm) (v:V) (d:D),vs=[.ref o,v]∧slot f=i∧FAt c [] H f o∧okH has f∧ht f≤n∧DAt H d v∧fitB ff f d=true∧Q (.bl true) H
theorem Zed(ff:D→Bool)(k:Fin 4)(d:D):fitB ff (.bare k) d=bareFit ff k d:=by rw[fitB]
theorem FAt.fits{c:FC}{X:List Addr}{H:Hp}(f:Fm){o:Addr}(h:FAt c X H f o):∃ dx fs,H o=some (.ins (clS c (slot f)) dx fs)∧fs.lookup (Str.ofString "fits")=none :=
 FAt.ins (m:=Str.ofString "fits") (by decide +kernel) (by decide +kernel) (by decide +kernel) (by decide +kernel) (by decide +kernel) (by decide +kernel) f h
theorem Zgr(ff:D→Bool):∀ (fs:List Fm) (ds:List D),ds.length≠fs.length→fitL ff fs ds=false
 | [],ds,h=>by
  cases ds with
  | nil=>exact absurd rfl h
  | cons d ds=>rw[fitL];rfl
 | f::fs,[],h=>by rw[fitL]
 | f::fs,d::ds,h=>by
  rw[fitL]
  show (fitB ff f d&&fitL ff fs ds)=false
  rw[Zgr ff fs ds (fun e=>h (by rw[Uq,Uq,e])),Bool.and_false]
theorem Zgt(ff:D→Bool):∀ (fs:List Fm) (ds:List D),ds.length=fs.length→fitL ff fs ds=(List.range fs.length).all fun i=>fitB ff (fs.getD i (.bare 0)) (ds.getD i .non)
 | [],ds,h=>by
  obtain rfl:ds=[]:=List.length_eq_zero_iff.mp h
  rw[fitL];rfl
 | f::fs,[],h=>by cases h
 | f::fs,d::ds,h=>by
  rw[fitL]
  show (fitB ff f d&&fitL ff fs ds)=_
  rw[Zgt ff fs ds (by simpa using h),Uq,List.range_succ_eq_map,List.all_cons,List.all_map]
  rfl
theorem Zsm(F:Fun K "fits" "Nothing.fits" Jp f fd):FnOk P w K mg base CX0 1 f fd ["self","value"] (spFitT has ff c n (.b 0)):=by
 refine F.okK Zip (fun vs H Q E h=>?_) (fun cdv A outer s H vs Q E hr h=>?_)
 ·obtain⟨_,_,_,_,rfl,_⟩:=h;rfl
 obtain⟨o,fm,v,d,rfl,hs,hF,hok,hht,hd,hf,q⟩:=h
 have:=Yq hs
 subst this
 rw[Zed] at hf
 cases d with
 | non =>
  obtain rfl:v = .non:=hd
  exact⟨_,(Zf (Zj (Xj Zoc (pv 1) Zfk (Zk _)))),_,rfl,rfl,H,.refl (Vy _),q⟩
 | _=>cases hf
theorem Zxl(F:Fun K "fits" "Truth.fits" Zaj f fd):FnOk P w K mg base CX0 1 f fd ["self","value"] (spFitT has ff c n (.b 1)):=by
 refine F.okK Zlg (fun vs H Q E h=>?_) (fun cdv A outer s H vs Q E hr h=>?_)
 ·obtain⟨_,_,_,_,rfl,_⟩:=h;rfl
 obtain⟨o,fm,v,d,rfl,hs,hF,hok,hht,hd,hf,q⟩:=h
 have:=Yq hs
 subst this
 rw[Zed] at hf
 cases d with
 | bl b =>
  obtain rfl:v = .bl b:=hd
  refine⟨_,(Zf (Zj (Xaw (Xj Zww (pv 1) Jw (Zk _)) (Wl (Xj Zww (pv 1) Jw (Zk _)))))),_,rfl,false,rfl,rfl,?_⟩
  cases b with
  | false=>exact⟨true,rfl,iteT ⟨H,.refl (Vy _),q⟩⟩
  | true=>exact⟨false,rfl,iteF ⟨_,rfl,true,rfl,rfl,H,.refl (Vy _),q⟩⟩
 | _=>cases hf
theorem Zxk(F:Fun K "fits" "Whole.fits" Zah f fd)(D_is_number:DefOk P w K mg base 1 "is_number" ["value"] spIsNum)(D_has_whole_row:DefOk P w K mg base 2 "has_whole_row" ["n"] spHasWholeD):FnOk P w K mg base CX0 3 f fd ["self","value"] (spFitT has ff c n (.b 2)):=by
 refine F.okK Zle (fun vs H Q E h=>?_) (fun cdv A outer s H vs Q E hr h=>?_)
 ·obtain⟨_,_,_,_,rfl,_⟩:=h;rfl
 obtain⟨o,fm,v,d,rfl,hs,hF,hok,hht,hd,hf,q⟩:=h
 have:=Yq hs
 subst this
 rw[Zed] at hf
 cases d with
 | int i =>
  obtain rfl:v = .int i:=hd
  have hf:decide (WholeIn i)=true:=hf
  refine⟨_,(Zf (Zj (Yu (Zi D_is_number hr (Za (pv 1) Ze)) (Wl (Zi D_has_whole_row hr (Za (pv 1) Ze)))))),_,rfl,_,.int i,rfl,rfl,true,rfl,iteT ⟨_,rfl,i,rfl,H,.refl (Vy _),?_⟩⟩
  rw[hf];exact q
 | _=>cases hf
theorem Xah(T:SpanCls K c.s)(F:Fun K "fits" "Span.fits" Zbf f fd)(D_is_number:DefOk P w K mg base 1 "is_number" ["value"] spIsNum):FnOk P w K mg base CX0 2 f fd ["self","value"] (spFitT has ff c n .s):=by
 refine F.okK Znv (fun vs H Q E h=>?_) (fun cdv A outer s H vs Q E hr h=>?_)
 ·obtain⟨_,_,_,_,rfl,_⟩:=h;rfl
 obtain⟨o,fm,v,d,rfl,hs,hF,hok,hht,hd,hf,q⟩:=h
 obtain⟨a,b,rfl⟩:=Znm hs
 obtain⟨_,dx,ho⟩:=hF
 rw[fitB] at hf
 cases d with
 | int i =>
  obtain rfl:v = .int i:=hd
  have hf:=UJ (show decide (a≤i∧i≤b)=true from hf)
  refine⟨_,(Zf (Zj (Yu (Zi D_is_number hr (Za (pv 1) Ze)) (Yu (Xj oLe (Xl (pv 0) rfl) (pv 1) (Zk _)) (Wl (Xj oLe (pv 1) (Xl (pv 0) rfl) (Zk _))))))),_,rfl,_,.int i,rfl,rfl,true,rfl,iteT ⟨_,rfl,o,c.s,dx,_,_,rfl,ho,T.cl,T.nL,look1 ..,_,rfl,_,_,rfl,rfl,_,rfl,iteY hf.1 ⟨_,rfl,_,rfl,o,c.s,dx,_,_,rfl,ho,T.cl,T.nH,look2 _ _ _ _ highlow,_,_,rfl,rfl,H,.refl (Vy _),?_⟩⟩⟩
  dsimp only
  rw[Ut hf.2];exact q
 | _=>cases hf
theorem Zsn(nb:NB mg)(g_LONGEST_TEXT:GlobV mg "LONGEST_TEXT" (.int 200))(T:LetCls K c.l)(F:Fun K "fits" "Letters.fits" Js f fd)(D_made_of:DefOk P w K mg base 1 "made_of" ["text","signs"] spMadeOf):FnOk P w K mg base CX0 2 f fd ["self","value"] (spFitT has ff c n .l):=by
 refine F.okK Zit (fun vs H Q E h=>?_) (fun cdv A outer s H vs Q E hr h=>?_)
 ·obtain⟨_,_,_,_,rfl,_⟩:=h;rfl
 obtain⟨o,fm,v,d,rfl,hs,hF,hok,hht,hd,hf,q⟩:=h
 obtain⟨sg,rfl⟩:=Znn hs
 obtain⟨_,dx,ho⟩:=hF
 rw[fitB] at hf
 refine⟨_,(Zf (Zj (Yu (Zm Xi rfl nb.isinstance_ Xd (Za (pv 1) (Za (Yn (v := .ty "str") rfl nb.str_ Zsu rfl) Ze))) (Yu (Xj oLe (Zm Zt rfl nb.len_ Xg (Za (pv 1) Ze)) (Yw g_LONGEST_TEXT) (Zk _)) (Wl (Zi D_made_of hr (Za (pv 1) (Za (Xl (pv 0) rfl) Ze)))))))),_,rfl,.inl ⟨_,_,_,_,rfl,hd.ty,kitD K d (by decide),_,rfl,?_⟩⟩
 cases d with
 | str t =>
  obtain⟨rfl,htl⟩:=hd
  have hf:(decide (t.length≤200)&&madeOf t sg)=true:=hf
  rw[UN,UW] at hf
  refine iteT ⟨_,rfl,_,_,rfl,⟨Xo htl,rfl⟩,_,_,rfl,rfl,_,rfl,iteY (by omega) ⟨_,rfl,_,rfl,o,c.l,dx,_,_,rfl,ho,T.cl,T.nS,look1 ..,t,sg,rfl,by omega,H,.refl (Vy _),?_⟩⟩
  rw[hf.2];exact q
 | _=>cases hf
theorem Zxm(nb:NB mg)(T:OneCls K (c.o 0))(F:Fun K "fits" "Maybe.fits" Zal f fd)(AM_fits:AnyM P w K mg base (2*n+4) "fits" ["self","value"] (clS c) (spFitT has ff c n)):FnOk P w K mg base CX0 (2*n+4+1) f fd ["self","value"] (spFitT has ff c (n+1) (.o 0)):=by
 refine F.okK Zlj (fun vs H Q E h=>?_) (fun cdv A outer s H vs Q E hr h=>?_)
 ·obtain⟨_,_,_,_,rfl,_⟩:=h;rfl
 obtain⟨o,fm,v,d,rfl,hs,hF,hok,hht,hd,hf,q⟩:=h
 obtain⟨g,rfl⟩:=Jl hs
 obtain⟨_,dx,i,ho,hI⟩:=hF
 have hht2:ht g≤n:=by rw[ht] at hht;omega
 rw[fitB] at hf
 have hf:maybeFit (fitB ff g) d=true:=hf
 obtain⟨dxi,fsi,ei,li⟩:=FAt.fits g hI
 refine⟨_,(Zc (Zz (PW.pt (Zae (Yt (Xm (Zm Xi rfl nb.isinstance_ Xd (Za (pv 1) (Za (Yn (v := .ty "tuple") rfl nb.tuple_ Qz rfl) Ze))) (fun _=>rfl))) (Ju (Zl oGt (Zm Zt rfl nb.len_ Xg (Za (pv 1) Ze)) Zd (Zk _))))) (Zf (Zj Jw)) Zo)
  (Zf (Zj (Xaw (Xj oEq (Zm Zt rfl nb.len_ Xg (Za (pv 1) Ze)) Zd (Zk _)) (Wl (Xn AM_fits hr (Xl (pv 0) rfl) (Za (Zs iAll (pv 1) Zd (fun _ _=>rfl)) Ze) (hk:=by omega))))))),_,rfl,.inl ⟨_,_,_,_,rfl,hd.ty,kitD K d (by decide),_,rfl,?_⟩⟩
 unfold maybeFit at hf
 split at hf
 ·obtain⟨a,vs,rfl,ea,rfl,hvl⟩:=hd
  exact iteF ⟨_,rfl,_,_,rfl,.inr ⟨_,Uz ea,rfl⟩,_,_,rfl,rfl,_,rfl,iteN (by decide) ⟨_,rfl,_,_,rfl,.inr ⟨_,Uz ea,rfl⟩,rfl,_,rfl,iteY rfl ⟨H,.refl (Vy _),q⟩⟩⟩
 ·rename_i x _
  obtain⟨a,vs,rfl,ea,⟨y,r,rfl,hx,rfl⟩,hvl⟩:=hd
  refine iteF ⟨_,rfl,_,_,rfl,.inr ⟨_,Uz ea,rfl⟩,_,_,rfl,rfl,_,rfl,iteN (by show ¬((1:Int)<1);decide) ⟨_,rfl,_,_,rfl,.inr ⟨_,Uz ea,rfl⟩,rfl,_,rfl,iteN (fun z=>nomatch z) ?_⟩⟩
  exact⟨_,rfl,o,c.o 0,dx,_,_,rfl,ho,T.cl,T.nI,look1 ..,i,slot g,dxi,fsi,rfl,ei,li,_,rfl,.inl (.inr ⟨_,_,_,_,rfl,rfl,Uz ea,Zx (j:=0) rfl,i,g,y,x,rfl,rfl,hI,hok.one,hht2,hx,hf,H,.refl (Vy _),q⟩)⟩
 ·cases hf
theorem Zuz(T:OneCls K (c.o 2))(F:Fun K "fits" "Turned.fits" Qg f fd)(AM_fits:AnyM P w K mg base (2*n+4) "fits" ["self","value"] (clS c) (spFitT has ff c n)):FnOk P w K mg base CX0 (2*n+4+1) f fd ["self","value"] (spFitT has ff c (n+1) (.o 2)):=by
 refine F.okK Zjr (fun vs H Q E h=>?_) (fun cdv A outer s H vs Q E hr h=>?_)
 ·obtain⟨_,_,_,_,rfl,_⟩:=h;rfl
 obtain⟨o,fm,v,d,rfl,hs,hF,hok,hht,hd,hf,q⟩:=h
 obtain⟨g,rfl⟩:=Jl hs
 obtain⟨_,dx,i,ho,hI⟩:=hF
 have hht2:ht g≤n:=by rw[ht] at hht;omega
 rw[fitB] at hf
 obtain⟨dxi,fsi,ei,li⟩:=FAt.fits g hI
 exact⟨_,(Zf (Zj (Xn AM_fits hr (Xl (pv 0) rfl) (Za (pv 1) Ze) (hk:=by omega)))),_,rfl,o,c.o 2,dx,_,_,rfl,ho,T.cl,T.nI,look1 ..,i,slot g,dxi,fsi,rfl,ei,li,_,rfl,i,g,v,d,rfl,rfl,hI,hok.one,hht2,hd,hf,H,.refl (Vy _),q⟩
theorem Xai(nb:NB mg)(g_MOST_VALUES:GlobV mg "MOST_VALUES" (.int 60))(T:OneCls K (c.o 1))(F:Fun K "fits" "Many.fits" Zbh f fd)(AM_fits:AnyM P w K mg base (2*n+4) "fits" ["self","value"] (clS c) (spFitT has ff c n)):FnOk P w K mg base CX0 (2*n+4+1) f fd ["self","value"] (spFitT has ff c (n+1) (.o 1)):=by
 refine F.okK Zny (fun vs H Q E h=>?_) (fun cdv A outer s H vs Q E hr h=>?_)
 ·obtain⟨_,_,_,_,rfl,_⟩:=h;rfl
 obtain⟨o,fm,v,d,rfl,hs,hF,hok,hht,hd,hf,q⟩:=h
 obtain⟨g,rfl⟩:=Jl hs
 obtain⟨_,dx,i,ho,hI⟩:=hF
 have hht2:ht g≤n:=by rw[ht] at hht;omega
 rw[fitB] at hf
 have hf:manyFit (fitB ff g) d=true:=hf
 obtain⟨dxi,fsi,ei,li⟩:=FAt.fits g hI
 refine⟨_,(Zc (Zz (PW.pt (Zae (Yt (Xm (Zm Xi rfl nb.isinstance_ Xd (Za (pv 1) (Za (Yn (v := .ty "list") rfl nb.list_ Zoz rfl) Ze))) (fun _=>rfl))) (Ju (Zl oGt (Zm Zt rfl nb.len_ Xg (Za (pv 1) Ze)) (Yw g_MOST_VALUES) (Zk _))))) (Zf (Zj Jw)) Zo)
  (Zf (Zj (Zm (Zci rfl) rfl nb.all_ Zhy (Za (Yd ["part"] [(0,"self")] rfl (by decide +kernel) ⟨rfl,.inl rfl,trivial⟩ (piAll (pv 1)) (fun _ _ _ _ _=>(Zy (i:=0) (show (["part","self"]:List Str).Nodup by decide +kernel) rfl (by first | exact Or.inl rfl | exact Or.inr rfl))) (fun _ _ _ _ _=>Xs) (fun _ _ _ _ _=>(Xn AM_fits hr (Xl (pv 1) rfl) (Za (pv 0) Ze) (hk:=by omega)))) Ze))))),_,rfl,.inl ⟨_,_,_,_,rfl,hd.ty,kitD K d (by decide),_,rfl,?_⟩⟩
 cases d with
 | lst ds =>
  obtain⟨a,vs,rfl,ea,hds,hvl⟩:=hd
  have hlen:=DsAt.len ds hds
  have hf:(decide (ds.length≤60)&&ds.all (fitB ff g))=true:=hf
  rw[UN,UW,Ve] at hf
  refine iteF ⟨_,rfl,_,_,rfl,.inl ⟨_,Uy ea,rfl⟩,_,_,rfl,rfl,_,rfl,iteN (by omega) (.inl ⟨_,rfl,a,rfl,⟨_,Uy ea⟩,fun D1 hD1=>?_⟩)⟩
  refine Zeo (K:=K) (a:=a) (xs:=vs) (fun _=>V.bl true) (fun σ=>∃ z,σ=[z,some (.ref o)]) (Xo (by omega)) ⟨_,rfl⟩ hD1 (Uy ea) ?_ ?_
  ·rintro x hx σ1 H1 ⟨z,rfl⟩ hs1 R hR
   obtain⟨k,hk,rfl⟩:=List.mem_iff_getElem.mp hx
   obtain⟨dk,hdk,hxk⟩:=DsAt.get ds hds (Ui hk)
   exact⟨_,rfl,o,c.o 1,dx,_,_,rfl,hs1 _ _ ho,T.cl,T.nI,look1 ..,i,slot g,dxi,fsi,rfl,hs1 _ _ ei,li,_,rfl,i,g,_,dk,rfl,rfl,FAt.keep (fun b u _ e=>hs1 b u e) g hI,hok.one,hht2,DAt.same hs1 dk hxk,hf.2 dk (Uv hdk),hR _ ⟨_,rfl⟩⟩
  ·refine⟨D1,List.replicate vs.length true,rfl,Uy (by rw[Zb,List.map_replicate,List.map_const']),H,.refl (Zq hD1),?_⟩
   rw[show (List.replicate vs.length true).all id=true by simp];exact q
 | _=>cases hf
theorem Zva(nb:NB mg)(T:TwoCls K (c.t 0))(F:Fun K "fits" "Record.fits" Ql f fd)(AM_fits:AnyM P w K mg base (2*n+4) "fits" ["self","value"] (clS c) (spFitT has ff c n)):FnOk P w K mg base CX0 (2*n+4+1) f fd ["self","value"] (spFitT has ff c (n+1) (.t 0)):=by
 refine F.okK Zjw (fun vs H Q E h=>?_) (fun cdv A outer s H vs Q E hr h=>?_)
 ·obtain⟨_,_,_,_,rfl,_⟩:=h;rfl
 obtain⟨o,fm,v,d,rfl,hs,hF,hok,hht,hd,hf,q⟩:=h
 obtain⟨ns,fs,rfl⟩:=Zbx hs
 obtain⟨_,dx,a1,a2,os,ho,_,_,h1,h2,hI⟩:=hF
 obtain⟨hgn,hnl,hok2⟩:=hok.two
 have hht2:hts fs≤n:=by rw[ht] at hht;omega
 have hol:=FsAt.len fs hI
 have hn20:=(Ya hgn).1
 rw[fitB] at hf
 have hf:tupFit (fitL ff fs) d=true:=hf
 refine⟨_,(Zc (Zz (PW.pt (Zae (Yt (Xm (Zm Xi rfl nb.isinstance_ Xd (Za (pv 1) (Za (Yn (v := .ty "tuple") rfl nb.tuple_ Qz rfl) Ze))) (fun _=>rfl))) (Ju (Zl oNe (Zm Zt rfl nb.len_ Xg (Za (pv 1) Ze)) (Zm Zt rfl nb.len_ Xg (Za (Xl (pv 0) rfl) Ze)) (Zk _))))) (Zf (Zj Jw)) Zo)
  (Zf (Zj (Zm (Zci rfl) rfl nb.all_ Zhy (Za (Yd ["form","part"] [] rfl (by decide +kernel) trivial (Ztb rfl nb.zip_ (Za (Xl (pv 0) rfl) (Za (pv 1) Ze))) (fun _ _ _ _ _=>(Zbt rfl (Xz (Zy (i:=0) (show (["form","part"]:List Str).Nodup by decide +kernel) rfl (by first | exact Or.inl rfl | exact Or.inr rfl)) (Xz (Zy (i:=1) (show (["form","part"]:List Str).Nodup by decide +kernel) rfl (by first | exact Or.inl rfl | exact Or.inr rfl)) Qp)))) (fun _ _ _ _ _=>Xs) (fun _ _ _ _ _=>(Xn AM_fits hr (pv 0) (Za (pv 1) Ze) (hk:=by omega)))) Ze))))),_,rfl,.inl ⟨_,_,_,_,rfl,hd.ty,kitD K d (by decide),_,rfl,?_⟩⟩
 cases d with
 | tup ds =>
  obtain⟨a,vs,rfl,ea,hds,hvl⟩:=hd
  have hvs:=DsAt.len ds hds
  have hf:fitL ff fs ds=true:=hf
  have c1:ds.length=fs.length:=by
   by_cases z:ds.length=fs.length
   ·exact z
   ·rw[Zgr ff fs ds z] at hf;cases hf
  rw[Zgt ff fs ds c1,Ve] at hf
  refine iteF ⟨_,rfl,_,_,rfl,.inr ⟨_,Uz ea,rfl⟩,_,rfl,o,c.t 0,dx,_,_,rfl,ho,T.cl,T.nF,look2 _ _ _ _ formsnames,_,_,rfl,.inl ⟨_,Uy h2,rfl⟩,rfl,_,rfl,iteNS (by rw[Uj,hvs,hol,c1]) ?_⟩
  refine⟨_,rfl,o,c.t 0,dx,_,_,rfl,ho,T.cl,T.nF,look2 _ _ _ _ formsnames,_,rfl,a2,a,_,_,rfl,Uy h2,Uz ea,fun D1 hD1=>?_⟩
  refine Zmy (fun k=>V.bl true) (fun σ=>∃ z1 z2,σ=[z1,z2]) (by rw[Uj];omega) ⟨_,_,rfl⟩ hD1 (Uy h2) (Uz ea) ?_ ?_
  ·rintro k x y hx hy σ1 H1 T1 ⟨z1,z2,rfl⟩ hs1 hT1 R hR
   rw[Ur] at hx
   obtain⟨om,hom,rfl⟩:=Uf.mp hx
   obtain⟨fm,hfm,hFm⟩:=FsAt.get fs hI hom
   obtain⟨dk,hdk,hyk⟩:=DsAt.get ds hds hy
   obtain⟨hok3,hht3⟩:=hok2.get hfm
   have hk:k<fs.length:=(Uw.mp hfm).1
   have hfk:=hf k (List.mem_range.mpr hk)
   rw[Uk,hfm,Uk,hdk] at hfk
   have sT:=hs1.trans (Zq (o:=HO.tup [V.ref om,y]) hT1)
   obtain⟨dxi,fsi,ei,li⟩:=FAt.fits fm (FAt.keep (fun b u _ e=>sT b u e) fm hFm)
   exact⟨T1,_,rfl,Uz Zb,rfl,_,_,rfl,_,_,rfl,rfl,_,rfl,om,slot fm,dxi,fsi,rfl,ei,li,_,rfl,om,fm,y,dk,rfl,rfl,FAt.keep (fun b u _ e=>sT b u e) fm hFm,hok3,by omega,DAt.same sT dk hyk,hfk,hR _ _ ⟨_,_,rfl⟩ (Vy _)⟩
  ·intro H' hs' hD'
   have e:(List.range (min (os.map V.ref).length vs.length)).map (fun k=>V.bl true)=(List.replicate fs.length true).map V.bl:=by
    rw[Uj,hvs,hol,c1,Nat.min_self,List.map_const',Vb,List.map_replicate]
   rw[e] at hD'
   refine⟨D1,_,rfl,Uy hD',H,.refl hs',?_⟩
   rw[show (List.replicate fs.length true).all id=true by simp];exact q
 | _=>cases hf
noncomputable def bareRow(fw:D→List Bool):Fin 4→D→List Bool
 | 1,.bl b=>[b]
 | 2,.int i=>whl i
 | 3,d=>fw d
 | _,_=>[]
noncomputable def maybeRow(g:D→List Bool):D→List Bool
 | .tup [x]=>true::g x
 | _=>[false]
noncomputable def manyRow(g:D→List Bool):D→List Bool
 | .lst ds=>(ds.map fun d=>true::g d).flatten++[false]
 | _=>[]
noncomputable def oneRow(k:Fin 3)(g:D→List Bool)(d:D):List Bool:=if k=0 then maybeRow g d else if k=1 then manyRow g d else (g d).map (!·)
noncomputable def spanRow(a b:Int):D→List Bool
 | .int i=>Xh (i - a).toNat (blen (b - a).toNat)
 | _=>[]
noncomputable def letRow(s:Str):D→List Bool
 | .str t=>(t.cps.toList.map fun c=>true::Xh (s.cps.toList.idxOf c) (blen (s.length - 1))).flatten++[false]
 | _=>[]
noncomputable def tupRow(g:List D→List Bool):D→List Bool
 | .tup ds=>g ds
 | _=>[]
noncomputable def choRow(g:Str→D→List Bool):D→List Bool
 | .tup [.str n,x]=>g n x
 | _=>[]
mutual
noncomputable def rowB(fw:D→List Bool):Fm→D→List Bool
 | .bare k,d=>bareRow fw k d
 | .sp a b,d=>spanRow a b d
 | .le s,d=>letRow s d
 | .one k f,d=>oneRow k (rowB fw f) d
 | .two k ns fs,d=>if k=0 then tupRow (rowL fw fs) d else choRow (rowC fw fs ns 0 (fs.length - 1)) d
noncomputable def rowL(fw:D→List Bool):List Fm→List D→List Bool
 | [],_=>[]
 | f::fs,ds=>match ds with | []=>[] | d::ds=>rowB fw f d++rowL fw fs ds
noncomputable def rowC(fw:D→List Bool):List Fm→List Str→Nat→Nat→Str→D→List Bool
 | [],_,_,_,_,_=>[]
 | f::fs,ns,k,m,n,x=>if ns.head?=some n then Xh k (blen m)++rowB fw f x else rowC fw fs ns.tail (k+1) m n x
end
def spWr(has:Sl→Bool)(ff:D→Bool)(fw:D→List Bool)(c:FC)(n:Nat)(i:Sl):Sp:=fun vs H Q _=>∃ (o:Addr) (f:Fm) (v:V) (d:D),vs=[.ref o,v]∧slot f=i∧FAt c [] H f o∧okH has f∧ht f≤n∧DAt H d v∧fitB ff f d=true∧(rowB fw f d).length≤15000000∧Q (.str (rowS (rowB fw f d))) H
theorem FAt.written{c:FC}{X:List Addr}{H:Hp}(f:Fm){o:Addr}(h:FAt c X H f o):∃ dx fs,H o=some (.ins (clS c (slot f)) dx fs)∧fs.lookup (Str.ofString "written")=none :=
 FAt.ins (m:=Str.ofString "written") (by decide +kernel) (by decide +kernel) (by decide +kernel) (by decide +kernel) (by decide +kernel) (by decide +kernel) f h
theorem Zej:Str.ofString "1"=rowS [true]:=by decide +kernel
theorem Zjb:Str.ofString "0"=rowS [false]:=by decide +kernel
theorem Zfm(F:Fun K "written" "Nothing.written" Wf f fd):FnOk P w K mg base CX0 1 f fd ["self","value"] (spWr has ff fw c n (.b 0)):=by
 refine F.okK Zez (fun vs H Q E h=>?_) (fun cdv A outer s H vs Q E hr h=>?_)
 ·obtain⟨_,_,_,_,rfl,_⟩:=h;rfl
 obtain⟨o,fm,v,d,rfl,hs,hF,hok,hht,hd,hf,hl,q⟩:=h
 have:=Yq hs
 subst this
 rw[rowB] at q
 refine⟨_,(Zf (Zj Zu)),H,.refl (Vy _),?_⟩
 cases d<;>exact q
theorem Zhq(F:Fun K "written" "Truth.written" Wy f fd):FnOk P w K mg base CX0 1 f fd ["self","value"] (spWr has ff fw c n (.b 1)):=by
 refine F.okK Zhe (fun vs H Q E h=>?_) (fun cdv A outer s H vs Q E hr h=>?_)
 ·obtain⟨_,_,_,_,rfl,_⟩:=h;rfl
 obtain⟨o,fm,v,d,rfl,hs,hF,hok,hht,hd,hf,hl,q⟩:=h
 have:=Yq hs
 subst this
 rw[rowB] at q
 rw[fitB] at hf
 cases d with
 | bl b =>
  obtain rfl:v = .bl b:=hd
  refine⟨_,(Zf (Zj (Wm (Xm (pv 1) (fun _=>rfl)) Zu Zu))),_,rfl,?_⟩
  refine⟨b,rfl,?_⟩
  cases b with
  | true=>exact iteT ⟨H,.refl (Vy _),q⟩
  | false=>exact iteF ⟨H,.refl (Vy _),q⟩
 | _=>cases hf
theorem Zgh(F:Fun K "written" "Whole.written" Wx f fd)(D_whole_row:DefOk P w K mg base 3 "whole_row" ["n"] Zcj):FnOk P w K mg base CX0 4 f fd ["self","value"] (spWr has ff fw c n (.b 2)):=by
 refine F.okK Zhd (fun vs H Q E h=>?_) (fun cdv A outer s H vs Q E hr h=>?_)
 ·obtain⟨_,_,_,_,rfl,_⟩:=h;rfl
 obtain⟨o,fm,v,d,rfl,hs,hF,hok,hht,hd,hf,hl,q⟩:=h
 have:=Yq hs
 subst this
 rw[rowB] at q
 rw[fitB] at hf
 cases d with
 | int i =>
  obtain rfl:v = .int i:=hd
  exact⟨_,(Zf (Zj (Zi D_whole_row hr (Za (pv 1) Ze)))),_,rfl,i,rfl,UJ hf,H,.refl (Vy _),q⟩
 | _=>cases hf
theorem Zhr(T:SpanCls K c.s)(F:Fun K "written" "Span.written" Jo f fd)(D_fixed_row:DefOk P w K mg base 2 "fixed_row" ["n","most"] spFixedRow):FnOk P w K mg base CX0 3 f fd ["self","value"] (spWr has ff fw c n .s):=by
 refine F.okK Zio (fun vs H Q E h=>?_) (fun cdv A outer s H vs Q E hr h=>?_)
 ·obtain⟨_,_,_,_,rfl,_⟩:=h;rfl
 obtain⟨o,fm,v,d,rfl,hs,hF,hok,hht,hd,hf,hl,q⟩:=h
 obtain⟨a,b,rfl⟩:=Znm hs
 obtain⟨_,dx,ho⟩:=hF
 rw[rowB] at q hl
 rw[fitB] at hf
 cases d with
 | int i =>
  obtain rfl:v = .int i:=hd
  have hf:a≤i∧i≤b:=UJ hf
  have hl:(Xh (i - a).toNat (blen (b - a).toNat)).length≤15000000:=hl
  rw[Xe] at hl
  have e1:((i - a).toNat:Int)=i - a:=Int.toNat_of_nonneg (by omega)
  have e2:((b - a).toNat:Int)=b - a:=Int.toNat_of_nonneg (by omega)
  refine⟨_,(Zf (Zj (Zi D_fixed_row hr (Za (Zh oSub (pv 1) (Xl (pv 0) rfl)) (Za (Zh oSub (Xl (pv 0) rfl) (Xl (pv 0) rfl)) Ze))))),?_⟩
  try dsimp only[cxK0,cxK1,cxK2,cxK3]
  refine⟨_,rfl,_,rfl,o,c.s,dx,_,_,rfl,ho,T.cl,T.nL,look1 ..,_,_,rfl,rfl,_,rfl,o,c.s,dx,_,_,rfl,ho,T.cl,T.nH,look2 _ _ _ _ highlow,_,rfl,o,c.s,dx,_,_,rfl,ho,T.cl,T.nL,look1 ..,_,_,rfl,rfl,(i - a).toNat,(b - a).toNat,by rw[e1,e2];rfl,by omega,by omega,H,.refl (Vy _),q⟩
 | _=>cases hf
theorem Zhs(nb:NB mg)(T:OneCls K (c.o 0))(F:Fun K "written" "Maybe.written" Wz f fd)(AM_written:AnyM P w K mg base (2*n+4) "written" ["self","value"] (clS c) (spWr has ff fw c n)):FnOk P w K mg base CX0 (2*n+4+1) f fd ["self","value"] (spWr has ff fw c (n+1) (.o 0)):=by
 refine F.okK Zhf (fun vs H Q E h=>?_) (fun cdv A outer s H vs Q E hr h=>?_)
 ·obtain⟨_,_,_,_,rfl,_⟩:=h;rfl
 obtain⟨o,fm,v,d,rfl,hs,hF,hok,hht,hd,hf,hl,q⟩:=h
 obtain⟨g,rfl⟩:=Jl hs
 obtain⟨_,dx,i,ho,hI⟩:=hF
 have hok2:=hok.one
 have hht2:ht g≤n:=by rw[ht] at hht;omega
 rw[fitB] at hf
 rw[rowB] at q hl
 have hf:maybeFit (fitB ff g) d=true:=hf
 have q:Q (.str (rowS (maybeRow (rowB fw g) d))) H:=q
 have hl:(maybeRow (rowB fw g) d).length≤15000000:=hl
 obtain⟨dxi,fsi,ei,li⟩:=FAt.written g hI
 cases d with
 | tup ds =>
  obtain⟨a,vs,rfl,ea,hds,hvl⟩:=hd
  have hlen:=DsAt.len ds hds
  refine⟨_,(Zf (Zj (Wm (Zl oEq (Zm Zt rfl nb.len_ Xg (Za (pv 1) Ze)) Zd (Zk _)) Zu (Zh oAdd Zu (Xn AM_written hr (Xl (pv 0) rfl) (Za (Zs iAll (pv 1) Zd (fun _ _=>rfl)) Ze) (hk:=by omega)))))),?_⟩
  try dsimp only[cxK0,cxK1,cxK2,cxK3]
  refine⟨_,rfl,_,_,rfl,.inr ⟨_,Uz ea,rfl⟩,rfl,_,rfl,?_⟩
  cases ds with
  | nil =>
   obtain rfl:vs=[]:=hds
   exact iteT ⟨H,.refl (Vy _),q⟩
  | cons x r =>
   cases r with
   | cons y r=>cases hf
   | nil =>
    obtain⟨y,r,rfl,hx,hr'⟩:=hds
    obtain rfl:r=[]:=hr'
    have hl:(true::rowB fw g x).length≤15000000:=hl
    rw[Uq] at hl
    refine iteF ⟨_,rfl,o,c.o 0,dx,_,_,rfl,ho,T.cl,T.nI,look1 ..,i,slot g,dxi,fsi,rfl,ei,li,?_⟩
    refine⟨_,rfl,.inl (.inr ⟨_,_,_,_,rfl,rfl,Uz ea,Zx (j:=0) rfl,i,g,y,x,rfl,rfl,hI,hok2,hht2,hx,hf,by omega,.inr ⟨_,_,rfl,rfl,small7 ?_,H,.refl (Vy _),?_⟩⟩)⟩
    ·rw[Zej,Zr,Zr];simp only[Uq,List.length_nil];omega
    ·rw[Zej,Xx];exact q
 | _=>cases hf
theorem Zgi(T:OneCls K (c.o 2))(F:Fun K "written" "Turned.written" Wp f fd)(D_turned_row:DefOk P w K mg base 1 "turned_row" ["row"] Qs)(AM_written:AnyM P w K mg base (2*n+4) "written" ["self","value"] (clS c) (spWr has ff fw c n)):FnOk P w K mg base CX0 (2*n+4+1) f fd ["self","value"] (spWr has ff fw c (n+1) (.o 2)):=by
 refine F.okK Zfy (fun vs H Q E h=>?_) (fun cdv A outer s H vs Q E hr h=>?_)
 ·obtain⟨_,_,_,_,rfl,_⟩:=h;rfl
 obtain⟨o,fm,v,d,rfl,hs,hF,hok,hht,hd,hf,hl,q⟩:=h
 obtain⟨g,rfl⟩:=Jl hs
 obtain⟨_,dx,i,ho,hI⟩:=hF
 have hok2:=hok.one
 have hht2:ht g≤n:=by rw[ht] at hht;omega
 rw[fitB] at hf
 rw[rowB] at q hl
 have hf:fitB ff g d=true:=hf
 have q:Q (.str (rowS ((rowB fw g d).map (!·)))) H:=q
 have hl:((rowB fw g d).map (!·)).length≤15000000:=hl
 rw[Uj] at hl
 obtain⟨dxi,fsi,ei,li⟩:=FAt.written g hI
 refine⟨_,(Zf (Zj (Zi D_turned_row hr (Za (Xn AM_written hr (Xl (pv 0) rfl) (Za (pv 1) Ze) (hk:=by omega)) Ze) (hk:=by omega)))),?_⟩
 try dsimp only[cxK0,cxK1,cxK2,cxK3]
 refine⟨_,rfl,o,c.o 2,dx,_,_,rfl,ho,T.cl,T.nI,look1 ..,i,slot g,dxi,fsi,rfl,ei,li,?_⟩
 exact⟨_,rfl,i,g,v,d,rfl,rfl,hI,hok2,hht2,hd,hf,hl,_,rfl,by omega,H,.refl (Vy _),q⟩
theorem Zkg{ls:List (List Bool)}{l:List Bool}(h:l∈ls):l.length≤ls.flatten.length:=by
 induction ls with
 | nil=>cases h
 | cons a r ih =>
  rw[Vf,Uo]
  rcases Um.mp h with rfl | h
  ·omega
  ·have:=ih h;omega
theorem Zka(ls:List (List Bool)):((ls.map rowS).map (·.length)).sum+(ls.map rowS).length*(Str.ofString "").length=ls.flatten.length:=by
 have e:(Str.ofString "").length=0:=by decide +kernel
 rw[e,Nat.mul_zero,Nat.add_zero,UU,List.length_flatten]
 congr 1
 exact Vg fun l _=>Zr l
theorem Zhk(fw:D→List Bool):∀ (fs:List Fm) (ds:List D),ds.length=fs.length→rowL fw fs ds=((List.range fs.length).map fun i=>rowB fw (fs.getD i (.bare 0)) (ds.getD i .non)).flatten
 | [],ds,h=>by rw[rowL];rfl
 | f::fs,[],h=>by cases h
 | f::fs,d::ds,h=>by
  rw[rowL]
  show rowB fw f d++rowL fw fs ds=_
  rw[Zhk fw fs ds (by simpa using h),Uq,List.range_succ_eq_map,UP,Vf,UU]
  rfl
theorem Ziy(nb:NB mg)(T:OneCls K (c.o 1))(F:Fun K "written" "Many.written" Jr f fd)(AM_written:AnyM P w K mg base (2*n+4) "written" ["self","value"] (clS c) (spWr has ff fw c n)):FnOk P w K mg base CX0 (2*n+4+1) f fd ["self","value"] (spWr has ff fw c (n+1) (.o 1)):=by
 refine F.okK Zir (fun vs H Q E h=>?_) (fun cdv A outer s H vs Q E hr h=>?_)
 ·obtain⟨_,_,_,_,rfl,_⟩:=h;rfl
 obtain⟨o,fm,v,d,rfl,hs,hF,hok,hht,hd,hf,hl,q⟩:=h
 obtain⟨g,rfl⟩:=Jl hs
 obtain⟨_,dx,i,ho,hI⟩:=hF
 have hok2:=hok.one
 have hht2:ht g≤n:=by rw[ht] at hht;omega
 rw[fitB] at hf
 rw[rowB] at q hl
 have hf:manyFit (fitB ff g) d=true:=hf
 obtain⟨dxi,fsi,ei,li⟩:=FAt.written g hI
 cases d with
 | lst ds =>
  obtain⟨a,vs,rfl,ea,hds,hvl⟩:=hd
  have hlen:=DsAt.len ds hds
  have hf:(decide (ds.length≤60)&&ds.all (fitB ff g))=true:=hf
  obtain⟨h60,hall⟩:=Ug.mp hf
  have hall:=Ve.mp hall
  have q:Q (.str (rowS ((ds.map fun d=>true::rowB fw g d).flatten++[false]))) H:=q
  have hl:((ds.map fun d=>true::rowB fw g d).flatten++[false]).length≤15000000:=hl
  rw[Uo] at hl
  refine⟨_,(Zf (Zj (Zh oAdd (Wb PySem.F.plainAttrs_str PySem.F.slot_str_join PySem.F.type_str_join Zem Zu (Za (Yd ["part"] [(0,"self")] rfl (by decide +kernel) ⟨rfl,.inl rfl,trivial⟩ (piAll (pv 1)) (fun _ _ _ _ _=>(Zy (i:=0) (show (["part","self"]:List Str).Nodup by decide +kernel) rfl (by first | exact Or.inl rfl | exact Or.inr rfl))) (fun _ _ _ _ _=>Xs) (fun _ _ _ _ _=>(Zh oAdd Zu (Xn AM_written hr (Xl (pv 1) rfl) (Za (pv 0) Ze) (hk:=by omega))))) Ze)) Zu))),?_⟩
  try dsimp only[cxK0,cxK1,cxK2,cxK3]
  refine⟨rfl,.inl ⟨_,rfl,a,rfl,⟨_,Uy ea⟩,fun D1 hD1=>?_⟩⟩
  refine Wn (K:=K) (a:=a) (xs:=vs) (fun k=>V.str (rowS (true::rowB fw g (ds.getD k .non)))) (fun σ=>∃ z,σ=[z,some (.ref o)]) (Xo (by omega)) ⟨_,rfl⟩ hD1 (Uy ea) ?_ ?_
  ·rintro k x hx σ1 H1 ⟨z,rfl⟩ hs1 R hR
   obtain⟨dk,hdk,hxk⟩:=DsAt.get ds hds hx
   have e:ds.getD k .non=dk:=by rw[Uk,hdk];rfl
   rw[e] at hR
   have hm:dk∈ds:=Uv hdk
   have hp:=Zkg (List.mem_map_of_mem (f:=fun d=>true::rowB fw g d) hm)
   rw[Uq] at hp
   refine⟨_,rfl,o,c.o 1,dx,_,_,rfl,hs1 _ _ ho,T.cl,T.nI,look1 ..,i,slot g,dxi,fsi,rfl,hs1 _ _ ei,li,?_⟩
   refine⟨_,rfl,i,g,x,dk,rfl,rfl,FAt.keep (fun b u _ e=>hs1 b u e) g hI,hok2,hht2,DAt.same hs1 dk hxk,hall _ hm,by omega,.inr ⟨_,_,rfl,rfl,small7 ?_,?_⟩⟩
   ·rw[Zej,Zr,Zr];simp only[Uq,List.length_nil];omega
   ·rw[Zej,Xx];exact hR _ ⟨_,rfl⟩
  ·have e:(List.range vs.length).map (fun k=>V.str (rowS (true::rowB fw g (ds.getD k .non))))=((ds.map fun d=>true::rowB fw g d).map rowS).map V.str:=by
    rw[hlen]
    apply List.ext_getElem
    ·simp
    ·intro k h1 h2
     have h3:k<ds.length:=by simpa using h2
     rw[Vc,Vc,Vc,Vc,List.getElem_range,Uk,Ui h3];rfl
   rw[e]
   refine⟨_,D1,_,rfl,rfl,Uy Zb,by rw[Zka];omega,.inr ⟨_,_,rfl,rfl,small7 ?_,H,.refl (Zq hD1),?_⟩⟩
   ·rw[Jy,Zjb,Zr,Zr];omega
   ·rw[Jy,Zjb,Xx];exact q
 | _=>cases hf
theorem Zgj(nb:NB mg)(T:TwoCls K (c.t 0))(F:Fun K "written" "Record.written" Wq f fd)(AM_written:AnyM P w K mg base (2*n+4) "written" ["self","value"] (clS c) (spWr has ff fw c n)):FnOk P w K mg base CX0 (2*n+4+1) f fd ["self","value"] (spWr has ff fw c (n+1) (.t 0)):=by
 refine F.okK Zfz (fun vs H Q E h=>?_) (fun cdv A outer s H vs Q E hr h=>?_)
 ·obtain⟨_,_,_,_,rfl,_⟩:=h;rfl
 obtain⟨o,fm,v,d,rfl,hs,hF,hok,hht,hd,hf,hl,q⟩:=h
 obtain⟨ns,fs,rfl⟩:=Zbx hs
 obtain⟨_,dx,a1,a2,os,ho,_,_,h1,h2,hI⟩:=hF
 obtain⟨hgn,hnl,hok2⟩:=hok.two
 have hht2:hts fs≤n:=by rw[ht] at hht;omega
 have hol:=FsAt.len fs hI
 have hn20:=(Ya hgn).1
 rw[fitB] at hf
 rw[rowB] at q hl
 have hf:tupFit (fitL ff fs) d=true:=hf
 cases d with
 | tup ds =>
  obtain⟨a,vs,rfl,ea,hds,hvl⟩:=hd
  have hvs:=DsAt.len ds hds
  have hf:fitL ff fs ds=true:=hf
  have c1:ds.length=fs.length:=Classical.byContradiction fun hn=>by rw[Zgr ff fs ds hn] at hf;cases hf
  rw[Zgt ff fs ds c1] at hf
  have hall:=Ve.mp hf
  have q:Q (.str (rowS (rowL fw fs ds))) H:=q
  have hl:(rowL fw fs ds).length≤15000000:=hl
  rw[Zhk fw fs ds c1] at q hl
  refine⟨_,(Zf (Zj (Wb PySem.F.plainAttrs_str PySem.F.slot_str_join PySem.F.type_str_join Zem Zu (Za (Yd ["form","part"] [] rfl (by decide +kernel) trivial (Ztb rfl nb.zip_ (Za (Xl (pv 0) rfl) (Za (pv 1) Ze))) (fun _ _ _ _ _=>(Zbt rfl (Xz (Zy (i:=0) (show (["form","part"]:List Str).Nodup by decide +kernel) rfl (by first | exact Or.inl rfl | exact Or.inr rfl)) (Xz (Zy (i:=1) (show (["form","part"]:List Str).Nodup by decide +kernel) rfl (by first | exact Or.inl rfl | exact Or.inr rfl)) Qp)))) (fun _ _ _ _ _=>Xs) (fun _ _ _ _ _=>(Xn AM_written hr (pv 0) (Za (pv 1) Ze) (hk:=by omega)))) Ze)))),?_⟩
  try dsimp only[cxK0,cxK1,cxK2,cxK3]
  refine⟨rfl,_,rfl,o,c.t 0,dx,_,_,rfl,ho,T.cl,T.nF,look2 _ _ _ _ formsnames,_,rfl,a2,a,_,_,rfl,Uy h2,Uz ea,fun D1 hD1=>?_⟩
  refine Zmy (fun k=>V.str (rowS (rowB fw (fs.getD k (.bare 0)) (ds.getD k .non)))) (fun σ=>∃ z1 z2,σ=[z1,z2]) (by rw[Uj];omega) ⟨_,_,rfl⟩ hD1 (Uy h2) (Uz ea) ?_ ?_
  ·rintro k x y hx hy σ1 H1 T1 ⟨z1,z2,rfl⟩ hs1 hT1 R hR
   rw[Ur] at hx
   obtain⟨om,hom,rfl⟩:=Uf.mp hx
   obtain⟨fm,hfm,hFm⟩:=FsAt.get fs hI hom
   obtain⟨dk,hdk,hyk⟩:=DsAt.get ds hds hy
   obtain⟨hok3,hht3⟩:=hok2.get hfm
   have e1:fs.getD k (.bare 0)=fm:=by rw[Uk,hfm];rfl
   have e2:ds.getD k .non=dk:=by rw[Uk,hdk];rfl
   have hk:k∈List.range fs.length:=List.mem_range.mpr (Uw.mp hfm).1
   have hfk:=hall k hk
   have hp:=Zkg (List.mem_map_of_mem (f:=fun i=>rowB fw (fs.getD i (.bare 0)) (ds.getD i .non)) hk)
   rw[e1,e2] at hR hfk hp
   have sT:=hs1.trans (Zq (o:=HO.tup [V.ref om,y]) hT1)
   obtain⟨dxi,fsi,ei,li⟩:=FAt.written fm (FAt.keep (fun b u _ e=>sT b u e) fm hFm)
   refine⟨T1,_,rfl,Uz Zb,rfl,_,_,rfl,_,_,rfl,rfl,?_⟩
   refine⟨_,rfl,om,slot fm,dxi,fsi,rfl,ei,li,?_⟩
   exact⟨_,rfl,om,fm,y,dk,rfl,rfl,FAt.keep (fun b u _ e=>sT b u e) fm hFm,hok3,by omega,DAt.same sT dk hyk,hfk,by omega,hR _ _ ⟨_,_,rfl⟩ (Vy _)⟩
  ·intro H' hs' hD'
   have e:(List.range (min (os.map V.ref).length vs.length)).map (fun k=>V.str (rowS (rowB fw (fs.getD k (.bare 0)) (ds.getD k .non))))=(((List.range fs.length).map fun k=>rowB fw (fs.getD k (.bare 0)) (ds.getD k .non)).map rowS).map V.str:=by
    rw[Uj,hvs,hol,c1,Nat.min_self,UU,UU];rfl
   rw[e] at hD'
   refine⟨_,D1,_,rfl,rfl,Uy hD',by rw[Zka];omega,H,.refl hs',?_⟩
   rw[Jy];exact q
 | _=>cases hf
noncomputable def sees(l:List Bool)(t:Bool)(j:Nat):List Bool:=(l.map (xor t)).drop j
theorem Zck{l r s:List Bool}{t:Bool}{j:Nat}(h:(r++s) <+: sees l t j):s <+: sees l t (j+r.length):=by
 obtain⟨z,h⟩:=h
 refine⟨z,?_⟩
 unfold sees at h ⊢
 rw[← List.drop_drop,← h,UH,List.drop_left]
theorem Jm{l r s:List Bool}{t:Bool}{j:Nat}(h:(r++s) <+: sees l t j):r <+: sees l t j:=(List.prefix_append r s).trans h
theorem Zaq{l r:List Bool}{b t:Bool}{j:Nat}(h:(b::r) <+: sees l t j):∃ b',l[j]?=some b'∧xor t b'=b:=by
 obtain⟨z,h⟩:=h
 have h0:(sees l t j)[0]?=some b:=by rw[← h];rfl
 unfold sees at h0
 rw[List.getElem?_drop,Nat.add_zero,Ur] at h0
 obtain⟨b',e1,e2⟩:=Uf.mp h0
 exact⟨b',e1,e2⟩
theorem Qt{l r:List Bool}{t:Bool}{j:Nat}(h:r <+: sees l t j)(hj:j≤l.length):j+r.length≤l.length:=by
 have:=h.length_le
 unfold sees at this
 rw[Va,Uj] at this
 omega
theorem Zua{l r:List Bool}{t:Bool}{j:Nat}(h:(r.map (!·)) <+: sees l t j):r <+: sees l (!t) j:=by
 obtain⟨z,h⟩:=h
 refine⟨z.map (!·),?_⟩
 unfold sees at h ⊢
 have:=congrArg (List.map (!·)) h
 rw[UE,UU,List.map_drop,UU] at this
 have e:(fun x:Bool=>!x) ∘ (fun x=>!x)=id:=by funext x;cases x<;>rfl
 have e2:(fun x:Bool=>!x) ∘ (xor t)=xor (!t):=by funext x;cases x<;>cases t<;>rfl
 rw[e,List.map_id,e2] at this
 exact this
theorem Zhc{l r:List Bool}{t:Bool}{j:Nat}(h:r <+: sees l t j):((l.drop j).take r.length).map (xor t)=r:=by
 obtain⟨z,h⟩:=h
 unfold sees at h
 rw[List.map_take,List.map_drop,← h,List.take_left]
theorem FAt.draw{c:FC}{X:List Addr}{H:Hp}(f:Fm){o:Addr}(h:FAt c X H f o):∃ dx fs,H o=some (.ins (clS c (slot f)) dx fs)∧fs.lookup (Str.ofString "draw")=none :=
 FAt.ins (m:=Str.ofString "draw") (by decide +kernel) (by decide +kernel) (by decide +kernel) (by decide +kernel) (by decide +kernel) (by decide +kernel) f h
theorem Mv.alloc{p:Addr}{H H':Hp}{o:HO}{X:AS}(m:Mv p H H')(e:H' p=some o)(h:∀ x,x∈X→∃ o,H x=some o):∀ x,x∈X→∃ o,H' x=some o:=fun x hx=>by
 by_cases z:x=p
 ·exact⟨o,by rw[z];exact e⟩
 ·obtain⟨u,hu⟩:=h x hx
  exact⟨u,m.k x u z hu⟩
theorem FAt.mv{c:FC}{p:Addr}{H H':Hp}(m:Mv p H H')(f:Fm){o:Addr}(h:FAt c [p] H f o):FAt c [p] H' f o:=FAt.keep (fun b u n e=>m.k b u (fun z=>n (UD.mpr z)) e) f h
def spDr(has:Sl→Bool)(ff:D→Bool)(fw:D→List Bool)(c:FC)(C:Addr)(n:Nat)(i:Sl):Sp:=fun vs H Q _=>∃ (o p dx:Addr) (f:Fm) (d:D) (l:List Bool) (j:Nat) (t e:Bool) (X:AS),vs=[.ref o,.ref p]∧slot f=i∧FAt c [p] H f o∧okH has f∧ht f≤n∧H p=some (srcO C dx l j t e)∧l.length≤16000000∧j≤l.length∧p∈X∧(∀ x,x∈X→∃ o,H x=some o)∧fitB ff f d=true∧rowB fw f d <+: sees l t j∧
 ∀ v H',Mv p H H'→DX X H' d v→H' p=some (srcO C dx l (j+(rowB fw f d).length) t e)→Q v H'
theorem Mv.step{p C dx:Addr}{H:Hp}{l:List Bool}{j j':Nat}{t e t' e':Bool}(h:H p=some (srcO C dx l j t e)):Mv p H (upd H p (srcO C dx l j' t' e')):=Mv.move h
theorem Zsq(F:Fun K "draw" "Nothing.draw" Jq f fd):FnOk P w K mg base CX0 1 f fd ["self","source"] (spDr has ff fw c C n (.b 0)):=by
 refine F.okK Ziq (fun vs H Q E h=>?_) (fun cdv A outer s H vs Q E hr h=>?_)
 ·obtain⟨_,_,_,_,_,_,_,_,_,_,rfl,_⟩:=h;rfl
 obtain⟨o,p,dx,fm,d,l,j,t,e,X,rfl,hs,hF,hok,hht,hS,hl,hj,hpX,hX,hf,hr',q⟩:=h
 have:=Yq hs
 subst this
 rw[rowB] at q
 rw[fitB] at hf
 cases d with
 | non=>exact⟨_,(Zf (Zj Zfk)),H,.refl (Vy _),q _ _ (Mv.refl _ _) rfl hS⟩
 | _=>cases hf
theorem Zxv(c_C:Cls K C)(F:Fun K "draw" "Truth.draw" Zak f fd)(M_draw:MethOk P w K mg base 1 C "draw" ["self"] (spDraw C)):FnOk P w K mg base CX0 3 f fd ["self","source"] (spDr has ff fw c C n (.b 1)):=by
 refine F.okK Zlh (fun vs H Q E h=>?_) (fun cdv A outer s H vs Q E hr h=>?_)
 ·obtain⟨_,_,_,_,_,_,_,_,_,_,rfl,_⟩:=h;rfl
 obtain⟨o,p,dx,fm,d,l,j,t,e,X,rfl,hs,hF,hok,hht,hS,hl,hj,hpX,hX,hf,hr',q⟩:=h
 have:=Yq hs
 subst this
 rw[rowB] at q hr'
 rw[fitB] at hf
 cases d with
 | bl b =>
  have hr':[b] <+: sees l t j:=hr'
  obtain⟨b',hb1,hb2⟩:=Zaq hr'
  refine⟨_,(Zf (Zj (Xj oEq (Xt M_draw c_C hr (pv 1)) Zd (Zk _)))),?_⟩
  try dsimp only[cxK0,cxK1,cxK2,cxK3]
  refine⟨_,rfl,p,dx,_,rfl,hS,Ye _ _ _ _ (by decide +kernel) (by decide +kernel) (by decide +kernel),?_⟩
  refine⟨p,dx,l,j,t,e,b',rfl,⟨_,hS⟩,hl,hb1,?_⟩
  have M:=Mv.step (j':=j+1) (t':=t) (e':=e) hS
  rw[hb2]
  refine⟨rfl,_,M.sub Zb,?_⟩
  have e3:decide (V.int ((b.toNat:Nat):Int)=V.int 1)=b:=by cases b<;>rfl
  rw[e3]
  exact q _ _ M rfl Zb
 | _=>cases hf
theorem Xao(T:SpanCls K c.s)(F:Fun K "draw" "Span.draw" Zbg f fd)(D_draw_fixed:DefOk P w K mg base 2 "draw_fixed" ["source","most"] (spDrawFixed C)):FnOk P w K mg base CX0 4 f fd ["self","source"] (spDr has ff fw c C n .s):=by
 refine F.okK Znw (fun vs H Q E h=>?_) (fun cdv A outer s H vs Q E hr h=>?_)
 ·obtain⟨_,_,_,_,_,_,_,_,_,_,rfl,_⟩:=h;rfl
 obtain⟨o,p,dx,fm,d,l,j,t,e,X,rfl,hs,hF,hok,hht,hS,hl,hj,hpX,hX,hf,hr',q⟩:=h
 obtain⟨a,b,rfl⟩:=Znm hs
 obtain⟨_,dxo,ho⟩:=hF
 rw[rowB] at q hr'
 rw[fitB] at hf
 cases d with
 | int v =>
  have hf:a≤v∧v≤b:=UJ hf
  have hr':Xh (v - a).toNat (blen (b - a).toNat) <+: sees l t j:=hr'
  have q:∀ (w:V) (H':Hp),Mv p H H'→DX X H' (.int v) w→H' p=some (srcO C dx l (j+(Xh (v - a).toNat (blen (b - a).toNat)).length) t e)→Q w H':=q
  rw[Xe] at q
  have e1:((v - a).toNat:Int)=v - a:=Int.toNat_of_nonneg (by omega)
  have e2:((b - a).toNat:Int)=b - a:=Int.toNat_of_nonneg (by omega)
  have hln:=Qt hr' hj
  have htk:=Zhc hr'
  rw[Xe] at hln htk
  have M:=Mv.step (j':=j+blen (b - a).toNat) (t':=t) (e':=e) hS
  refine⟨_,(Zf (Zj (Zh oAdd (Xl (pv 0) rfl) (Zi D_draw_fixed hr (Za (pv 1) (Za (Zh oSub (Xl (pv 0) rfl) (Xl (pv 0) rfl)) Ze)))))),?_⟩
  try dsimp only[cxK0,cxK1,cxK2,cxK3]
  refine⟨_,rfl,o,c.s,dxo,_,_,rfl,ho,T.cl,T.nL,look1 ..,_,rfl,_,rfl,o,c.s,dxo,_,_,rfl,ho,T.cl,T.nH,look2 _ _ _ _ highlow,_,rfl,o,c.s,dxo,_,_,rfl,ho,T.cl,T.nL,look1 ..,_,_,rfl,rfl,p,dx,l,j,(v - a).toNat,(b - a).toNat,t,e,by rw[e2];rfl,hS,hl,by omega,hln,htk,.inl ⟨_,_,rfl,rfl,_,M.sub Zb,?_⟩⟩
  exact q _ _ M (by show V.int _=V.int _;congr 1;omega) Zb
 | _=>cases hf
theorem Zvk(c_C:Cls K C)(T:OneCls K (c.o 2))(F:Fun K "draw" "Turned.draw" Qh f fd)(M_turn:MethOk P w K mg base 1 C "turn" ["self"] (spTurn C))(AM_draw:AnyM P w K mg base (2*n+4) "draw" ["self","source"] (clS c) (spDr has ff fw c C n)):FnOk P w K mg base CX0 (2*n+4+1) f fd ["self","source"] (spDr has ff fw c C (n+1) (.o 2)):=by
 refine F.okK Zdk (fun vs H Q E h=>?_) (fun cdv A outer s H vs Q E hr h=>?_)
 ·obtain⟨_,_,_,_,_,_,_,_,_,_,rfl,_⟩:=h;rfl
 obtain⟨o,p,dx,fm,d,l,j,t,e,X,rfl,hs,hF,hok,hht,hS,hl,hj,hpX,hX,hf,hr',q⟩:=h
 obtain⟨g,rfl⟩:=Jl hs
 obtain⟨nop,dxo,i,ho,hI⟩:=hF
 have hok2:=hok.one
 have hht2:ht g≤n:=by rw[ht] at hht;omega
 rw[fitB] at hf
 rw[rowB] at q hr'
 have hf:fitB ff g d=true:=hf
 have hr':(rowB fw g d).map (!·) <+: sees l t j:=hr'
 have q:∀ (w:V) (H':Hp),Mv p H H'→DX X H' d w→H' p=some (srcO C dx l (j+((rowB fw g d).map (!·)).length) t e)→Q w H':=q
 rw[Uj] at q
 have op:o≠p:=fun z=>nop (UD.mpr z)
 have M1:=Mv.step (j':=j) (t':=!t) (e':=e) hS
 have hI1:=FAt.mv M1 g hI
 obtain⟨dxi,fsi,ei,li⟩:=FAt.draw g hI1
 refine⟨_,(Zc (Yj (Xt M_turn c_C hr (pv 1) (hk:=by omega)))
  (Zc (Zp (i:=2) Zdk.nd rfl (by exact Or.inl rfl) (Xn AM_draw hr (Xl (pv 0) rfl) (Za (pv 1) Ze) (hk:=by omega)))
  (Zc (Yj (Xt M_turn c_C hr (pv 1) (hk:=by omega)))
  (Zf (Zj (pv 2)))))),?_⟩
 try dsimp only[cxK0,cxK1,cxK2,cxK3]
 refine⟨_,rfl,p,dx,_,rfl,hS,Ye _ _ _ _ (by decide +kernel) (by decide +kernel) (by decide +kernel),p,dx,l,j,t,e,0,rfl,hS,?_⟩
 refine⟨_,rfl,o,c.o 2,dxo,_,_,rfl,M1.k _ _ op ho,T.cl,T.nI,look1 ..,i,slot g,dxi,fsi,rfl,ei,li,?_⟩
 refine⟨_,rfl,i,p,dx,g,d,l,j,!t,e,X,rfl,rfl,hI1,hok2,hht2,Zb,hl,hj,hpX,Mv.alloc M1 Zb hX,hf,Zua hr',fun v H2 M2 hd2 hS2=>?_⟩
 have M3:=Mv.step (j':=j+(rowB fw g d).length) (t':=t) (e':=e) hS2
 refine⟨_,rfl,p,dx,_,rfl,hS2,Ye _ _ _ _ (by decide +kernel) (by decide +kernel) (by decide +kernel),p,dx,l,_,!t,e,0,rfl,hS2,?_⟩
 rw[Bool.not_not]
 have M:=(M1.trans M2).trans M3
 exact⟨_,rfl,_,M.sub Zb,q _ _ M (DX.keep (fun b u n e=>M3.k b u (fun z=>n (by rw[z];exact hpX)) e) d hd2) Zb⟩
theorem Mv.setL{p lv:Addr}{H H1:Hp}{vs ws:List V}(h0:H lv=none)(m:Mv p H H1)(h1:H1 lv=some (.lst vs)):Mv p H (upd H1 lv (.lst ws)) :=
 ⟨fun b u n e=>by rw[Zn (fun z=>by rw[z,h0] at e;cases e)];exact m.k b u n e,fun cl=>Qb h1 (m.c cl)⟩
theorem Zdd{α:Type}(ds:List α)(k:Nat)(f:α→List Bool):(ds.map f).flatten=((ds.take k).map f).flatten++((ds.drop k).map f).flatten:=by
 rw[← List.flatten_append,← UE,List.take_append_drop]
theorem Xap(nb:NB mg)(g_MOST_VALUES:GlobV mg "MOST_VALUES" (.int 60))(c_C:Cls K C)(T:OneCls K (c.o 1))(F:Fun K "draw" "Many.draw" Zbi f fd)(M_draw:MethOk P w K mg base 1 C "draw" ["self"] (spDraw C))(M_refuse:MethOk P w K mg base 1 C "refuse" ["self"] spNo)(AM_draw:AnyM P w K mg base (2*n+4) "draw" ["self","source"] (clS c) (spDr has ff fw c C n)):FnOk P w K mg base CX0 (2*n+4+1) f fd ["self","source"] (spDr has ff fw c C (n+1) (.o 1)):=by
 refine F.okK Zga (fun vs H Q E h=>?_) (fun cdv A outer s H vs Q E hr h=>?_)
 ·obtain⟨_,_,_,_,_,_,_,_,_,_,rfl,_⟩:=h;rfl
 obtain⟨o,p,dx,fm,d,l,j,t,e,X,rfl,hs,hF,hok,hht,hS,hl,hj,hpX,hX,hf,hr',q⟩:=h
 obtain⟨g,rfl⟩:=Jl hs
 obtain⟨nop,dxo,i,ho,hI⟩:=hF
 have hok2:=hok.one
 have hht2:ht g≤n:=by rw[ht] at hht;omega
 rw[fitB] at hf
 rw[rowB] at q hr'
 have hf:manyFit (fitB ff g) d=true:=hf
 cases d with
 | lst ds =>
  have hf:(decide (ds.length≤60)&&ds.all (fitB ff g))=true:=hf
  obtain⟨h60,hall⟩:=Ug.mp hf
  have h60:=UJ h60
  have hall:=Ve.mp hall
  have hr':((ds.map fun d=>true::rowB fw g d).flatten++[false]) <+: sees l t j:=hr'
  have q:∀ (w:V) (H':Hp),Mv p H H'→DX X H' (.lst ds) w→H' p=some (srcO C dx l (j+((ds.map fun d=>true::rowB fw g d).flatten++[false]).length) t e)→Q w H':=q
  have op:o≠p:=fun z=>nop (UD.mpr z)
  refine⟨_,(Zc (Zp (i:=2) Zga.nd rfl (by exact Or.inl rfl) (Yp Ze))
  (Zc (Qu PassesOwn.never (Zl oEq (Xt M_draw c_C hr (pv 1) (hk:=by omega)) Zd (Zk _))
   (Zc (Zz (Zl oEq (Zm Zt rfl nb.len_ Xg (Za (pv 2) Ze)) (Yw g_MOST_VALUES) (Zk _)) (Zf (Yj (Xt M_refuse c_C hr (pv 1) (hk:=by omega)))) Zo)
   (Zf (Yj (Wb PySem.F.plainAttrs_list PySem.F.slot_list_append PySem.F.type_list_append Ji (pv 2) (Za (Xn AM_draw hr (Xl (pv 0) rfl) (Za (pv 1) Ze) (hk:=by omega)) Ze))))))
  (Zf (Zj (pv 2))))),?_⟩
  try dsimp only[cxK0,cxK1,cxK2,cxK3]
  refine⟨UF _,fun lv hlv=>?_⟩
  have lp:p≠lv:=fun z=>by rw[← z,hS] at hlv;cases hlv
  have lX:lv∉X:=fun z=>by obtain⟨u,hu⟩:=hX lv z;rw[hlv] at hu;cases hu
  have M0:Mv p H (upd H lv (.lst [])):=⟨fun b u _ e=>Zq hlv b u e,fun cl=>Qa cl hlv trivial⟩
  refine⟨fun m σ H2=>∃ (k:Nat) (vs:List V),k≤ds.length∧m=ds.length - k∧σ=[some (.ref o),some (.ref p),some (.ref lv)]∧Mv p H H2∧H2 lv=some (.lst vs)∧DsX (AS.cn lv X) H2 (ds.take k) vs∧H2 p=some (srcO C dx l (j+(((ds.take k).map fun d=>true::rowB fw g d).flatten).length) t e),⟨ds.length,0,[],UF _,rfl,rfl,M0,Zb,rfl,Zq hlv _ _ hS⟩,?_⟩
  rintro m σ H2 ⟨k,vs,hk,rfl,rfl,M2,hl2,hd2,hS2⟩
  have hsee:=hr'
  rw[Zdd ds k,UH] at hsee
  have hsee:=Zck hsee
  have hj2:=Qt (Jm (by have:=hr';rw[Zdd ds k,UH] at this;exact this)) hj
  generalize hjj:j+(((ds.take k).map fun d=>true::rowB fw g d).flatten).length=jj at hS2 hsee hj2
  refine⟨_,rfl,p,dx,_,rfl,hS2,Ye _ _ _ _ (by decide +kernel) (by decide +kernel) (by decide +kernel),?_⟩
  have M3:=Mv.step (j':=jj+1) (t':=t) (e':=e) hS2
  have hvl:=DsAt.len _ (DsX.at _ hd2)
  rcases UZ k ds.length with z | z
  ·have ed:ds.drop k=ds[k]::ds.drop (k+1):=UY z
   rw[ed,UP,Vf,List.cons_append,List.cons_append] at hsee
   obtain⟨b',hb1,hb2⟩:=Zaq hsee
   refine⟨p,dx,l,jj,t,e,b',rfl,⟨_,hS2⟩,hl,hb1,?_⟩
   rw[hb2]
   refine⟨rfl,_,rfl,iteT ⟨_,fun _ _ h=>h,?_⟩⟩
   have hl3:=M3.k _ _ (Uh lp) hl2
   have hd3:DsX (AS.cn lv X) _ (ds.take k) vs:=DsX.keep (fun b u nb e=>M3.k b u (fun z=>nb (AS.tl (by rw[z];exact hpX))) e) _ hd2
   have M23:=M2.trans M3
   have hS3:upd H2 p (srcO C dx l (jj+1) t e) p=_:=Zb
   generalize upd H2 p (srcO C dx l (jj+1) t e)=H3 at M3 hl3 hd3 M23 hS3 ⊢
   have htk:(ds.take k).length=k:=by rw[US];omega
   refine⟨_,rfl,_,_,rfl,.inl ⟨_,Uy hl3,rfl⟩,rfl,_,rfl,iteN (by intro z;have:=V.int.inj z;omega) ?_⟩
   have hI3:=FAt.mv M23 g hI
   obtain⟨dxi,fsi,ei,li⟩:=FAt.draw g hI3
   have hseed:(rowB fw g ds[k]++(((ds.drop (k+1)).map fun d=>true::rowB fw g d).flatten++[false])) <+: sees l t (jj+1):=by
    rw[← UH]
    exact Zck (r:=[true]) hsee
   have hjl:=Qt (Jm (r:=[true]) hsee) hj2
   rw[UQ] at hjl
   refine⟨_,rfl,.inl ⟨rfl,_,Uy hl3⟩,?_⟩
   refine⟨_,rfl,o,c.o 1,dxo,_,_,rfl,M23.k _ _ op ho,T.cl,T.nI,look1 ..,i,slot g,dxi,fsi,rfl,ei,li,?_⟩
   refine⟨_,rfl,i,p,dx,g,ds[k],l,jj+1,t,e,AS.cn lv X,rfl,rfl,hI3,hok2,hht2,hS3,hl,hjl,AS.tl hpX,?_,hall _ (List.getElem_mem z),Jm hseed,fun v H4 M4 hd4 hS4=>?_⟩
   ·intro x hx
    rcases hx with rfl | hx
    ·exact⟨_,hl3⟩
    ·exact Mv.alloc M23 hS3 hX x hx
   have hl4:=M4.k _ _ (Uh lp) hl3
   have M24:=M23.trans M4
   refine⟨lv,_,_,rfl,rfl,hl4,UA (show vs.length<100000 by omega) (by decide),?_⟩
   refine⟨ds.length - (k+1),by omega,k+1,vs++[v],by omega,rfl,rfl,Mv.setL hlv M24 hl4,Zb,?_,?_⟩
   ·rw[← List.take_append_getElem z]
    refine DsX.keep (fun b u nb e=>by rw[Zn (fun z=>nb (by rw[z];exact AS.hd))];exact e) _ (DsX.snoc hd4 _ ?_)
    exact DsX.keep (fun b u nb e=>M4.k b u (fun z=>nb (AS.tl (by rw[z];exact hpX))) e) _ hd3
   ·rw[Zn lp,hS4]
    have e9:jj+1+(rowB fw g ds[k]).length=j+(((ds.take (k+1)).map fun d=>true::rowB fw g d).flatten).length:=by
     rw[← List.take_append_getElem z,UE,List.flatten_append,Uo]
     simp only[UP,List.map_nil,Vf,List.flatten_nil,List.append_nil,Uq]
     omega
    rw[e9]
  ·have hke:k=ds.length:=by omega
   subst hke
   rw[List.drop_length,List.map_nil,List.flatten_nil,List.nil_append] at hsee
   rw[List.take_length] at hjj hd2 hvl
   obtain⟨b',hb1,hb2⟩:=Zaq hsee
   refine⟨p,dx,l,jj,t,e,b',rfl,⟨_,hS2⟩,hl,hb1,?_⟩
   rw[hb2]
   refine⟨rfl,_,rfl,iteF ?_⟩
   have M:=M2.trans M3
   refine⟨_,rfl,_,M.sub Zb,q _ _ M ⟨lv,vs,rfl,lX,?_,?_,by omega⟩ ?_⟩
   ·rw[Zn (Uh lp)];exact hl2
   ·exact DsX.keep (fun b u nb e=>M3.k b u (fun z=>nb (by rw[z];exact hpX)) e) _ (DsX.weak (fun x hx=>AS.tl hx) _ hd2)
   ·rw[Zb,Uo,UQ,← hjj]
    congr 2
 | _=>cases hf
theorem Jz{K:Ua}{a:Addr}{xs:List V}{g:TG}{te:TE}{Q:VK}{H:Hp}{D:Addr}{σ0:St}(Inv:Nat→List V→Hp→Prop)(S:St→Prop)(hz:xs.length≤100000)(h0:S σ0)
  (hl:∀ i ys H2,Inv i ys H2→SqL K H2 a xs) (h1:Inv 0 [] (upd H D (.lst [])))
  (ht:∀ i x,xs[i]?=some x→∀ ys σ1 H1,S σ1→Inv i ys H1→H1 D=some (.lst ys)→ys.length=i→∀ R:St→V→Hp→Prop,(∀ σ2 y H3,S σ2→H3 D=some (.lst ys)→Inv (i+1) (ys++[y]) (upd H3 D (.lst (ys++[y])))→R σ2 y H3)→g x σ1 H1 fun σ2 H2=>te σ2 H2 fun y H3=>R σ2 y H3)
  (hq:∀ (ys:List V) (H':Hp),ys.length=xs.length→H' D=some (.lst ys)→Inv xs.length ys H'→Q (.ref D) H') :
  CompGo (Itl K a) g tYes te Q σ0 H D:=by
 refine⟨fun i m σ1 H2=>i≤xs.length∧m=xs.length - i∧S σ1∧∃ ys:List V,ys.length=i∧H2 D=some (.lst ys)∧Inv i ys H2,⟨xs.length,UF _,rfl,h0,[],rfl,Zb,h1⟩,?_⟩
 rintro i m σ1 H2 ⟨hi,rfl,h2,ys,hy,hDv,hP⟩
 have hl2:=hl i ys H2 hP
 rcases UZ i xs.length with z | z
 ·refine .inr ⟨⟨xs,xs[i],hl2,Ui z⟩,?_⟩
  rintro x H3 ⟨rfl,hx⟩
  have hx:=hx xs hl2
  refine ht i x hx ys σ1 _ h2 hP hDv hy (fun σ2 y H6=>∃ zs m',H6 D=some (.lst zs)∧zs.length<sizeLine∧m'<xs.length - i∧(i+1≤xs.length∧m'=xs.length - (i+1)∧S σ2∧∃ ws:List V,ws.length=i+1∧upd H6 D (.lst (zs++[y])) D=some (.lst ws)∧Inv (i+1) ws (upd H6 D (.lst (zs++[y]))))) fun σ2 y H6 q3 hD6 hI6=>?_
  exact⟨ys,xs.length - (i+1),hD6,UA (show ys.length<100000 by omega) (by decide),by omega,by omega,rfl,q3,ys++[y],by rw[Uo,hy];rfl,Zb,hI6⟩
 ·have e:i=xs.length:=by omega
  subst e
  exact .inl ⟨⟨xs,hl2,Up _⟩,hq ys H2 hy hDv hP⟩
theorem Zvl(nb:NB mg)(T:TwoCls K (c.t 0))(F:Fun K "draw" "Record.draw" Qm f fd)(AM_draw:AnyM P w K mg base (2*n+4) "draw" ["self","source"] (clS c) (spDr has ff fw c C n)):FnOk P w K mg base CX0 (2*n+4+1) f fd ["self","source"] (spDr has ff fw c C (n+1) (.t 0)):=by
 refine F.okK Zjx (fun vs H Q E h=>?_) (fun cdv A outer s H vs Q E hr h=>?_)
 ·obtain⟨_,_,_,_,_,_,_,_,_,_,rfl,_⟩:=h;rfl
 obtain⟨o,p,dx,fm,d,l,j,t,e,X,rfl,hs,hF,hok,hht,hS,hl,hj,hpX,hX,hf,hr',q⟩:=h
 obtain⟨ns,fs,rfl⟩:=Zbx hs
 obtain⟨nop,dxo,a1,a2,os,ho,n1,n2,h1,h2,hFs⟩:=hF
 obtain⟨hgn,hnl,hok2⟩:=hok.two
 have hht2:hts fs≤n:=by rw[ht] at hht;omega
 have hol:=FsAt.len fs hFs
 have hn20:=(Ya hgn).1
 rw[fitB] at hf
 rw[rowB] at q hr'
 cases d with
 | tup ds =>
  have hf:fitL ff fs ds=true:=hf
  have hdl:ds.length=fs.length:=by
   rcases Nat.decEq ds.length fs.length with z | z
   ·rw[Zgr ff fs ds z] at hf;cases hf
   ·exact z
  rw[Zgt ff fs ds hdl] at hf
  have hall:=Ve.mp hf
  have hr':rowL fw fs ds <+: sees l t j:=hr'
  have q:∀ (w:V) (H':Hp),Mv p H H'→DX X H' (.tup ds) w→H' p=some (srcO C dx l (j+(rowL fw fs ds).length) t e)→Q w H':=q
  rw[Zhk fw fs ds hdl] at hr' q
  have op:o≠p:=fun z=>nop (UD.mpr z)
  have a2p:a2≠p:=fun z=>n2 (UD.mpr z)
  have eD:∀ {i:Nat} {x:D},ds[i]?=some x→ds.getD i .non=x:=fun h=>by rw[Uk,h];rfl
  have eF:∀ {i:Nat} {x:Fm},fs[i]?=some x→fs.getD i (.bare 0)=x:=fun h=>by rw[Uk,h];rfl
  obtain⟨pl,hpl⟩:∃ pl:Nat→Nat,pl=fun i=>j+(((List.range i).map fun i=>rowB fw (fs.getD i (.bare 0)) (ds.getD i .non)).flatten).length:=⟨_,rfl⟩
  have pls:∀ i,pl (i+1)=pl i+(rowB fw (fs.getD i (.bare 0)) (ds.getD i .non)).length:=fun i=>by
   rw[hpl]
   show j+_=j+_+_
   rw[List.range_succ,UE,List.flatten_append,Uo]
   simp only[UP,List.map_nil,Vf,List.flatten_nil,List.append_nil]
   omega
  have see:∀ i,i<fs.length→rowB fw (fs.getD i (.bare 0)) (ds.getD i .non) <+: sees l t (pl i)∧pl i≤l.length:=fun i hi=>by
   have h:=hr'
   rw[Zdd (List.range fs.length) i] at h
   have et:(List.range fs.length).take i=List.range i:=by rw[List.take_range,Nat.min_eq_left (by omega)]
   have ed:(List.range fs.length).drop i=i::(List.range fs.length).drop (i+1):=by
    rw[UY (by rw[Vb];exact hi),List.getElem_range]
   rw[et,ed,UP,Vf] at h
   have h2:=Qt (Jm h) hj
   have h3:=Jm (Zck h)
   rw[hpl]
   exact⟨h3,h2⟩
  refine⟨_,(Zf (Zj (Wc Zex rfl nb.tuple_ Qz (Za (Yd ["form"] [(1,"source")] rfl (by decide +kernel) ⟨rfl,.inl rfl,trivial⟩ (piAll (Xl (pv 0) rfl)) (fun _ _ _ _ _=>(Zy (i:=0) (show (["form","source"]:List Str).Nodup by decide +kernel) rfl (by first | exact Or.inl rfl | exact Or.inr rfl))) (fun _ _ _ _ _=>Xs) (fun _ _ _ _ _=>(Xn AM_draw hr (pv 0) (Za (pv 1) Ze) (hk:=by omega)))) Ze)))),?_⟩
  try dsimp only[cxK0,cxK1,cxK2,cxK3]
  refine .inl ⟨_,rfl,o,c.t 0,dxo,_,_,rfl,ho,T.cl,T.nF,look2 _ _ _ _ formsnames,a2,rfl,⟨_,Uy h2⟩,fun D1 hD1=>?_⟩
  have pD:p≠D1:=fun z=>by rw[← z,hS] at hD1;cases hD1
  have DX1:D1∉X:=fun z=>by obtain⟨u,hu⟩:=hX D1 z;rw[hD1] at hu;cases hu
  refine Jz (K:=K) (a:=a2) (xs:=os.map V.ref) (fun i ys H2=>Mv p H H2∧DsX (AS.cn D1 X) H2 (ds.take i) ys∧H2 p=some (srcO C dx l (pl i) t e)) (fun σ=>∃ z,σ=[z,some (.ref p)]) (by rw[Uj];omega) ⟨_,rfl⟩ ?_ ?_ ?_ ?_
  ·rintro i ys H2 ⟨m,_⟩
   exact Uy (m.k _ _ a2p h2)
  ·exact⟨⟨fun b u _ e=>Zq hD1 b u e,fun cl=>Qa cl hD1 trivial⟩,rfl,by rw[Zn pD,hS,hpl];rfl⟩
  ·rintro i x hx ys σ1 H1 ⟨z,rfl⟩ ⟨m1,hd1,hS1⟩ hDy hyl R hR
   rw[Ur] at hx
   obtain⟨oi,hoi,rfl⟩:=Uf.mp hx
   obtain⟨gi,hgi,hGi⟩:=FsAt.get fs hFs hoi
   obtain⟨hok3,hht3⟩:=hok2.get hgi
   have hi:i<fs.length:=(Uw.mp hgi).1
   have hdi:ds[i]?=some ds[i]:=Ui (by omega)
   obtain⟨hse,hpll⟩:=see i hi
   have hfi:=hall i (List.mem_range.mpr hi)
   have hps:=pls i
   rw[eF hgi,eD hdi] at hse hfi hps
   have hG1:=FAt.mv m1 gi hGi
   obtain⟨dxi,fsi,ei,li⟩:=FAt.draw gi hG1
   refine⟨_,rfl,oi,slot gi,dxi,fsi,rfl,ei,li,?_⟩
   refine⟨_,rfl,oi,p,dx,gi,ds[i],l,pl i,t,e,AS.cn D1 X,rfl,rfl,hG1,hok3,by omega,hS1,hl,hpll,AS.tl hpX,?_,hfi,hse,fun v H4 M4 hd4 hS4=>?_⟩
   ·intro x hx
    rcases hx with rfl | hx
    ·exact⟨_,hDy⟩
    ·exact Mv.alloc m1 hS1 hX x hx
   have hD4:=M4.k _ _ (Uh pD) hDy
   refine hR _ _ _ ⟨_,rfl⟩ hD4 ⟨Mv.setL hD1 (m1.trans M4) hD4,?_,?_⟩
   ·rw[← List.take_append_getElem (by omega)]
    refine DsX.keep (fun b u nb e=>by rw[Zn (fun z=>nb (by rw[z];exact AS.hd))];exact e) _ (DsX.snoc hd4 _ ?_)
    exact DsX.keep (fun b u nb e=>M4.k b u (fun z=>nb (AS.tl (by rw[z];exact hpX))) e) _ hd1
   ·rw[Zn pD,hS4,hps]
  ·rintro ys H2 hyl hDy ⟨m2,hd2,hS2⟩
   rw[Uj] at hyl hd2 hS2
   rw[UV (by omega)] at hd2
   refine⟨D1,ys,rfl,.inl ⟨Uy hDy,fun T1 hT1=>?_⟩⟩
   have T1X:T1∉X:=fun z=>by obtain⟨u,hu⟩:=Mv.alloc m2 hS2 hX T1 z;rw[hT1] at hu;cases hu
   have pT:p≠T1:=fun z=>by rw[← z,hS2] at hT1;cases hT1
   have mT:Mv p H (upd H2 T1 (.tup ys)):=m2.ext (Ext.tup hT1)
   refine⟨_,mT.sub (by rw[Zn pT];exact hS2),q _ _ mT ⟨T1,ys,rfl,T1X,Zb,DsX.same (Zq hT1) (DsX.weak (fun x hx=>AS.tl hx) _ hd2),by omega⟩ ?_⟩
   rw[Zn pT,hS2,hol,hpl]
 | _=>cases hf
theorem Zsr(nb:NB mg)(g_LONGEST_TEXT:GlobV mg "LONGEST_TEXT" (.int 200))(c_C:Cls K C)(T:LetCls K c.l)(F:Fun K "draw" "Letters.draw" Jt f fd)(M_draw:MethOk P w K mg base 1 C "draw" ["self"] (spDraw C))(M_refuse:MethOk P w K mg base 1 C "refuse" ["self"] spNo)(D_draw_fixed:DefOk P w K mg base 2 "draw_fixed" ["source","most"] (spDrawFixed C)):FnOk P w K mg base CX0 4 f fd ["self","source"] (spDr has ff fw c C n .l):=by
 refine F.okK Zaa (fun vs H Q E h=>?_) (fun cdv A outer s H vs Q E hr h=>?_)
 ·obtain⟨_,_,_,_,_,_,_,_,_,_,rfl,_⟩:=h;rfl
 obtain⟨o,p,dx,fm,d,l,j,t,e,X,rfl,hs,hF,hok,hht,hS,hl,hj,hpX,hX,hf,hr',q⟩:=h
 obtain⟨sg,rfl⟩:=Znn hs
 obtain⟨nop,dxo,ho⟩:=hF
 rw[fitB] at hf
 rw[rowB] at q hr'
 cases d with
 | str w =>
  have hf:(decide (w.length≤200)&&madeOf w sg)=true:=hf
  obtain⟨h200,hm⟩:=Ug.mp hf
  have h200:=UJ h200
  have hsg:goodText sg=true∧sg.length≤60:=by have:=hok.1;rw[okF] at this;exact this
  obtain⟨cs,hcs⟩:∃ cs,cs=w.cps.toList:=⟨_,rfl⟩
  have hcl:cs.length=w.length:=by rw[hcs];exact UM
  have hr':((w.cps.toList.map fun c=>true::Xh (sg.cps.toList.idxOf c) (blen (sg.length - 1))).flatten++[false]) <+: sees l t j:=hr'
  have q:∀ (v:V) (H':Hp),Mv p H H'→DX X H' (.str w) v→H' p=some (srcO C dx l (j+((w.cps.toList.map fun c=>true::Xh (sg.cps.toList.idxOf c) (blen (sg.length - 1))).flatten++[false]).length) t e)→Q v H':=q
  rw[← hcs] at hr' q
  have hmem:∀ ch,ch∈cs→ch∈sg.cps.toList:=fun ch h=>UJ (Ve.mp hm ch (by rw[← hcs];exact h))
  have op:o≠p:=fun z=>nop (UD.mpr z)
  refine⟨_,(Zc (Zp (i:=2) Zaa.nd rfl (by exact Or.inl rfl) Zu)
  (Zc (Qu PassesOwn.never (Zl oEq (Xt M_draw c_C hr (pv 1)) Zd (Zk _))
   (Zc (Zz (Zl oEq (Zm Zt rfl nb.len_ Xg (Za (pv 2) Ze)) (Yw g_LONGEST_TEXT) (Zk _)) (Zf (Yj (Xt M_refuse c_C hr (pv 1)))) Zo)
   (Zf (Zp (i:=2) Zaa.nd rfl (by exact Or.inl rfl) (Zh oAdd (pv 2) (Zs iAll (Xl (pv 0) rfl) (Zi D_draw_fixed hr (Za (pv 1) (Za (Zh oSub (Zm Zt rfl nb.len_ Xg (Za (Xl (pv 0) rfl) Ze)) Zd) Ze))) (fun _ _=>rfl)))))))
  (Zf (Zj (pv 2))))),?_⟩
  try dsimp only[cxK0,cxK1,cxK2,cxK3]
  refine⟨fun m σ H2=>∃ k:Nat,k≤cs.length∧m=cs.length - k∧σ=[some (.ref o),some (.ref p),some (.str ⟨(cs.take k).toArray⟩)]∧Mv p H H2∧H2 p=some (srcO C dx l (j+(((cs.take k).map fun c=>true::Xh (sg.cps.toList.idxOf c) (blen (sg.length - 1))).flatten).length) t e),⟨cs.length,0,UF _,rfl,by rw[List.take_zero];rfl,Mv.refl _ _,hS⟩,?_⟩
  rintro m σ H2 ⟨k,hk,rfl,rfl,M2,hS2⟩
  have hsee:=hr'
  rw[Zdd cs k,UH] at hsee
  have hj2:=Qt (Jm hsee) hj
  have hsee:=Zck hsee
  generalize hjj:j+(((cs.take k).map fun c=>true::Xh (sg.cps.toList.idxOf c) (blen (sg.length - 1))).flatten).length=jj at hS2 hsee hj2
  refine⟨_,rfl,p,dx,_,rfl,hS2,Ye _ _ _ _ (by decide +kernel) (by decide +kernel) (by decide +kernel),?_⟩
  have M3:=Mv.step (j':=jj+1) (t':=t) (e':=e) hS2
  rcases UZ k cs.length with z | z
  ·have ed:cs.drop k=cs[k]::cs.drop (k+1):=UY z
   rw[ed,UP,Vf,List.cons_append,List.cons_append] at hsee
   obtain⟨b',hb1,hb2⟩:=Zaq hsee
   refine⟨p,dx,l,jj,t,e,b',rfl,⟨_,hS2⟩,hl,hb1,?_⟩
   rw[hb2]
   refine⟨rfl,_,rfl,iteT ⟨_,fun _ _ h=>h,?_⟩⟩
   have M23:=M2.trans M3
   have hS3:upd H2 p (srcO C dx l (jj+1) t e) p=_:=Zb
   generalize upd H2 p (srcO C dx l (jj+1) t e)=H3 at M3 M23 hS3 ⊢
   have htk:(⟨(cs.take k).toArray⟩:Str).length=k:=by show (cs.take k).toArray.size=k;rw[Uu,US];omega
   have hseed:(Xh (sg.cps.toList.idxOf cs[k]) (blen (sg.length - 1))++(((cs.drop (k+1)).map fun c=>true::Xh (sg.cps.toList.idxOf c) (blen (sg.length - 1))).flatten++[false])) <+: sees l t (jj+1):=by
    rw[← UH]
    exact Zck (r:=[true]) hsee
   have hjl:=Qt (Jm (r:=[true]) hsee) hj2
   rw[UQ] at hjl
   have hbit:=Jm hseed
   have hln:=Qt hbit hjl
   have hts:=Zhc hbit
   rw[Xe] at hln hts
   have hlt:sg.cps.toList.idxOf cs[k]<sg.length:=by
    have:=List.idxOf_lt_length_iff.mpr (hmem _ (List.getElem_mem z))
    rwa [UM] at this
   have M4:=Mv.step (j':=jj+1+blen (sg.length - 1)) (t':=t) (e':=e) hS3
   have e2:(sg.length:Int) - 1=((sg.length - 1:Nat):Int):=by omega
   have ho3:=M23.k _ _ op ho
   have hat:atI sg.cps.toList ((sg.cps.toList.idxOf cs[k]:Nat):Int)=some cs[k]:=by
    refine Zx ?_
    rw[Ui (by rw[UM];exact hlt),List.getElem_idxOf]
   refine⟨_,rfl,_,_,rfl,⟨Xo (by omega),rfl⟩,rfl,_,rfl,iteN (by intro z;have:=V.int.inj z;omega) ?_⟩
   refine⟨_,rfl,_,rfl,o,c.l,dxo,_,_,rfl,ho3,T.cl,T.nS,look1 ..,?_⟩
   refine⟨_,rfl,_,rfl,o,c.l,dxo,_,_,rfl,ho3,T.cl,T.nS,look1 ..,_,_,rfl,⟨Xo (by omega),rfl⟩,_,_,rfl,rfl,p,dx,l,jj+1,sg.cps.toList.idxOf cs[k],sg.length - 1,t,e,by rw[← e2];rfl,hS3,hl,by omega,hln,hts,?_⟩
   refine .inr ⟨_,_,cs[k],rfl,rfl,Xo (by omega),hat,.inr ⟨_,_,rfl,rfl,Xo (by rw[htk];exact UC (Nat.add_le_add (show k≤300 by omega) (Up 1)) (by decide)),?_⟩⟩
   refine⟨cs.length - (k+1),by omega,k+1,by omega,rfl,?_,M23.trans M4,?_⟩
   ·have es:(⟨(cs.take k).toArray⟩:Str)++(⟨#[cs[k]]⟩:Str)=⟨(cs.take (k+1)).toArray⟩:=by
     rw[← List.take_append_getElem z]
     apply Zja
     rw[Zer]
    rw[es];rfl
   ·rw[Zb]
    have e9:jj+1+blen (sg.length - 1)=j+(((cs.take (k+1)).map fun c=>true::Xh (sg.cps.toList.idxOf c) (blen (sg.length - 1))).flatten).length:=by
     rw[← List.take_append_getElem z,UE,List.flatten_append,Uo]
     simp only[UP,List.map_nil,Vf,List.flatten_nil,List.append_nil,Uq,Xe]
     omega
    rw[e9]
  ·have hke:k=cs.length:=by omega
   subst hke
   rw[List.drop_length,List.map_nil,List.flatten_nil,List.nil_append] at hsee
   rw[List.take_length] at hjj
   obtain⟨b',hb1,hb2⟩:=Zaq hsee
   refine⟨p,dx,l,jj,t,e,b',rfl,⟨_,hS2⟩,hl,hb1,?_⟩
   rw[hb2]
   refine⟨rfl,_,rfl,iteF ?_⟩
   have M:=M2.trans M3
   refine⟨_,rfl,_,M.sub Zb,q _ _ M ⟨?_,by omega⟩ ?_⟩
   ·rw[List.take_length,hcs]
   ·rw[Zb,Uo,UQ,← hjj]
    congr 2
 | _=>cases hf
noncomputable def idxs(s t:Str):List Nat:=t.cps.toList.map fun c=>s.cps.toList.idxOf c
def spPlaces(C:Addr):Sp:=fun vs H Q _=>∃ (o dx:Addr) (s t:Str),vs=[.ref o,.str t]∧H o=some (.ins C dx [("signs",.str s)])∧madeOf t s=true∧t.length≤200∧∀ r,H r=none→Q (.ref r) (upd H r (.lst ((idxs s t).map fun k=>V.int ((k:Nat):Int))))
theorem Zgk(T:LetCls K C)(F:Fun K "places" "Letters.places" Wr f fd):FnOk P w K mg base CX0 1 f fd ["self","text"] (spPlaces C):=by
 refine F.okK Zgb (fun vs H Q E h=>?_) (fun cdv A outer s H vs Q E hr h=>?_)
 ·obtain⟨_,_,_,_,rfl,_⟩:=h;rfl
 obtain⟨o,dx,sg,t,rfl,ho,hm,hl,q⟩:=h
 refine⟨_,(Zf (Zj (Yd ["sign"] [(0,"self")] rfl (by decide +kernel) ⟨rfl,.inl rfl,trivial⟩ (piAll (pv 1)) (fun _ _ _ _ _=>(Zy (i:=0) (show (["sign","self"]:List Str).Nodup by decide +kernel) rfl (by first | exact Or.inl rfl | exact Or.inr rfl))) (fun _ _ _ _ _=>Xs) (fun _ _ _ _ _=>(Wb PySem.F.plainAttrs_str PySem.F.slot_str_index PySem.F.type_str_index Zfo (Xl (pv 1) rfl) (Za (pv 0) Ze)))))),?_⟩
 try dsimp only[cxK0,cxK1,cxK2,cxK3]
 refine .inr ⟨_,rfl,_,rfl,fun D hD=>?_⟩
 refine Zgx (fun c=>V.int ((sg.cps.toList.idxOf c:Nat):Int)) (fun σ=>∃ z,σ=[z,some (.ref o)]) (Xo (by show t.length≤_;omega)) ⟨_,rfl⟩ hD ?_ ?_
 ·rintro ch hc σ1 H1 ⟨z,rfl⟩ hs1 R hR
  refine⟨_,rfl,o,C,dx,_,_,rfl,hs1 _ _ ho,T.cl,T.nS,look1 ..,?_⟩
  exact⟨rfl,_,rfl,sg,ch,rfl,rfl,UJ (Ve.mp hm ch hc),hR _ ⟨_,rfl⟩⟩
 ·refine⟨_,.new hD (Zq hD) Zb trivial,?_⟩
  have q:=q D hD
  unfold idxs at q
  rw[UU] at q
  exact q
theorem Zfn(nb:NB mg)(T:LetCls K c.l)(F:Fun K "written" "Letters.written" Wg f fd)(c_C:Cls K c.l)(M_places:MethOk P w K mg base 1 c.l "places" ["self","text"] (spPlaces c.l))(D_fixed_row:DefOk P w K mg base 2 "fixed_row" ["n","most"] spFixedRow):FnOk P w K mg base CX0 3 f fd ["self","value"] (spWr has ff fw c n .l):=by
 refine F.okK Zas (fun vs H Q E h=>?_) (fun cdv A outer s H vs Q E hr h=>?_)
 ·obtain⟨_,_,_,_,rfl,_⟩:=h;rfl
 obtain⟨o,fm,v,d,rfl,hs,hF,hok,hht,hd,hf,hl,q⟩:=h
 obtain⟨sg,rfl⟩:=Znn hs
 obtain⟨_,dx,ho⟩:=hF
 rw[fitB] at hf
 rw[rowB] at q hl
 cases d with
 | str t =>
  obtain⟨rfl,_⟩:=hd
  have hf:(decide (t.length≤200)&&madeOf t sg)=true:=hf
  obtain⟨h200,hm⟩:=Ug.mp hf
  have h200:=UJ h200
  have hsg:goodText sg=true∧sg.length≤60:=by have:=hok.1;rw[okF] at this;exact this
  refine⟨_,(Zc (Zp (i:=2) Zas.nd rfl (by first | exact Or.inl rfl | exact Or.inr rfl) (Zh oSub (Zm Zt rfl nb.len_ Xg (Za (Xl (pv 0) rfl) Ze)) Zd))
  (Zf (Zj (Zh oAdd (Wb PySem.F.plainAttrs_str PySem.F.slot_str_join PySem.F.type_str_join Zem Zu (Za (Yd ["place"] [(2,"most")] rfl (by decide +kernel) ⟨rfl,.inl rfl,trivial⟩ (piAll (Zke M_places c_C hr (pv 0) (Za (pv 1) Ze))) (fun _ _ _ _ _=>(Zy (i:=0) (show (["place","most"]:List Str).Nodup by decide +kernel) rfl (by first | exact Or.inl rfl | exact Or.inr rfl))) (fun _ _ _ _ _=>Xs) (fun _ _ _ _ _=>(Zh oAdd Zu (Zi D_fixed_row hr (Za (pv 0) (Za (pv 1) Ze)))))) Ze)) Zu)))),?_⟩
  try dsimp only[cxK0,cxK1,cxK2,cxK3]
  have q:Q (.str (rowS ((t.cps.toList.map fun c=>true::Xh (sg.cps.toList.idxOf c) (blen (sg.length - 1))).flatten++[false]))) H:=q
  have hl:((t.cps.toList.map fun c=>true::Xh (sg.cps.toList.idxOf c) (blen (sg.length - 1))).flatten++[false]).length≤15000000:=hl
  rw[Uo] at hl
  refine⟨_,rfl,o,c.l,dx,_,_,rfl,ho,T.cl,T.nS,look1 ..,_,_,rfl,⟨Xo (by omega),rfl⟩,_,_,rfl,rfl,?_⟩
  have nlk:List.lookup (Str.ofString "places") [(Str.ofString "signs",V.str sg)]=none:=by
   unfold List.lookup
   rw[show (Str.ofString "places" == Str.ofString "signs")=false by decide +kernel]
   rfl
  refine⟨rfl,.inl ⟨_,rfl,o,dx,_,rfl,ho,nlk,_,rfl,o,dx,sg,t,rfl,ho,hm,h200,fun r hr2=>?_⟩⟩
  have il:(idxs sg t).length=t.length:=by unfold idxs;rw[Uj];exact UM
  refine⟨r,rfl,⟨_,Uy Zb⟩,fun D1 hD1=>?_⟩
  refine Wn (K:=K) (a:=r) (xs:=(idxs sg t).map fun k=>V.int ((k:Nat):Int)) (fun k=>V.str (rowS (true::Xh ((idxs sg t).getD k 0) (blen (sg.length - 1))))) (fun σ=>∃ z,σ=[z,some (V.int ((sg.length:Int) - 1))]) (Xo (by rw[Uj];omega)) ⟨_,rfl⟩ hD1 (Uy Zb) ?_ ?_
  ·rintro k x hx σ1 H1 ⟨z,rfl⟩ hs1 R hR
   rw[Ur] at hx
   obtain⟨ix,hix,rfl⟩:=Uf.mp hx
   have e:(idxs sg t).getD k 0=ix:=by rw[Uk,hix];rfl
   rw[e] at hR
   have hix':=hix
   unfold idxs at hix'
   rw[Ur] at hix'
   obtain⟨ch,hch,rfl⟩:=Uf.mp hix'
   have hcm:ch∈t.cps.toList:=Uv hch
   have hcs:ch∈sg.cps.toList:=UJ (Ve.mp hm ch hcm)
   have hlt:sg.cps.toList.idxOf ch<sg.length:=by
    have:=List.idxOf_lt_length_iff.mpr hcs
    rwa [UM] at this
   have hp:=Zkg (List.mem_map_of_mem (f:=fun c=>true::Xh (sg.cps.toList.idxOf c) (blen (sg.length - 1))) hcm)
   rw[Uq,Xe] at hp
   have e2:(sg.length:Int) - 1=((sg.length - 1:Nat):Int):=by omega
   refine⟨_,rfl,_,rfl,sg.cps.toList.idxOf ch,sg.length - 1,by rw[← e2];rfl,by omega,by omega,.inr ⟨_,_,rfl,rfl,small7 ?_,?_⟩⟩
   ·rw[Zej,Zr,Zr,Xe];simp only[Uq,List.length_nil];omega
   ·rw[Zej,Xx];exact hR _ ⟨_,rfl⟩
  ·have e:(List.range ((idxs sg t).map fun k=>V.int ((k:Nat):Int)).length).map (fun k=>V.str (rowS (true::Xh ((idxs sg t).getD k 0) (blen (sg.length - 1)))))=((t.cps.toList.map fun c=>true::Xh (sg.cps.toList.idxOf c) (blen (sg.length - 1))).map rowS).map V.str:=by
    rw[Uj]
    apply List.ext_getElem
    ·unfold idxs;simp
    ·intro k h1 h2
     have h3:k<t.cps.toList.length:=by simpa using h2
     have e3:(idxs sg t)[k]?=some (sg.cps.toList.idxOf t.cps.toList[k]):=by unfold idxs;rw[Ur,Ui h3];rfl
     rw[Vc,Vc,Vc,Vc,List.getElem_range,Uk,e3];rfl
   rw[e]
   have sm:=(Zq (o:=HO.lst ((idxs sg t).map fun k=>V.int ((k:Nat):Int))) hr2).trans (Zq (o:=HO.lst (((t.cps.toList.map fun c=>true::Xh (sg.cps.toList.idxOf c) (blen (sg.length - 1))).map rowS).map V.str)) hD1)
   refine⟨_,D1,_,rfl,rfl,Uy Zb,by rw[Zka];omega,.inr ⟨_,_,rfl,rfl,small7 ?_,H,.refl sm,?_⟩⟩
   ·rw[Jy,Zjb,Zr,Zr];omega
   ·rw[Jy,Zjb,Xx];exact q
 | _=>cases hf
noncomputable def Zv:D→Bool
 | .tup [.int p,.int q]=>decide (0<q∧Int.gcd p q=1∧p.natAbs≤10 ^ 38∧q≤10 ^ 38)
 | _=>false
theorem Qv{ff:D→Bool}:∀ (fs:List Fm) (ns:List Str) (n:Str) (x:D),ns.length=fs.length→fitC ff fs ns n x=true→n∈ns
 | [],ns,n,x,_,h=>by rw[fitC] at h;cases h
 | f::fs,[],n,x,hl,h=>by cases hl
 | f::fs,m::ns,n,x,hl,h=>by
  rw[fitC] at h
  by_cases z:m=n
  ·subst z;exact Ux ..
  ·have h:(if some m=some n then _ else fitC ff fs ns n x)=true:=h
   rw[if_neg (fun e=>z (Ub e))] at h
   exact Ul _ (Qv fs ns n x (by simpa using hl) h)
theorem Qw{ff:D→Bool}{x:D}:∀ (fs:List Fm) (ns:List Str) (n:Str),n∈ns→ns.length=fs.length→fitC ff fs ns n x=fitB ff (fs.getD (ns.idxOf n) (.bare 0)) x
 | [],[],n,h,_=>by cases h
 | f::fs,[],n,h,_=>by cases h
 | [],m::ns,n,_,h=>by cases h
 | f::fs,m::ns,n,h,hl=>by
  rw[fitC]
  show (if some m=some n then _ else fitC ff fs ns n x)=_
  by_cases z:m=n
  ·subst z
   rw[if_pos rfl,List.idxOf_cons_self];rfl
  ·rw[if_neg (fun e=>z (Ub e)),Qw fs ns n ((Um.mp h).resolve_left (Uh z)) (by simpa using hl),List.idxOf_cons,beq_false_of_ne z];rfl
theorem FsAt.ge{c:FC}{X:List Addr}{H:Hp}:∀ (fs:List Fm) {os:List Addr} {i:Nat} {f:Fm},FsAt c X H fs os→fs[i]?=some f→∃ o,os[i]?=some o∧FAt c X H f o
 | [],os,i,f,h,e=>by cases e
 | g::fs,os,0,f,h,e=>by
  obtain⟨o',r,rfl,q,q2⟩:=h
  cases e
  exact⟨_,rfl,q⟩
 | g::fs,os,i+1,f,h,e=>by
  obtain⟨o',r,rfl,q,q2⟩:=h
  obtain⟨v,h1,h2⟩:=FsAt.ge (os:=r) fs q2 (show fs[i]?=some f from e)
  exact⟨v,h1,h2⟩
theorem metT_mem(val:Nat→Str):∀ n i,i<n→val i∈metT val n
 | 0,i,h=>by omega
 | n+1,i,h=>by
  unfold metT
  by_cases z:i=n
  ·subst z
   split
   ·assumption
   ·exact Ue _ (UD.mpr rfl)
  ·have:=metT_mem val n i (by omega)
   split
   ·exact this
   ·exact List.mem_append_left _ this
theorem Zhu(val:Nat→Str):∀ n,(metT val n).length=n→∀ i j,i<j→j<n→val i≠val j
 | 0,_,i,j,_,h=>by omega
 | n+1,h,i,j,hij,hj=>by
  unfold metT at h
  have hle:=Zgn val n
  by_cases z:val n∈metT val n
  ·rw[if_pos z] at h;omega
  ·rw[if_neg z,Uo,UQ] at h
   by_cases zj:j=n
   ·subst zj
    exact fun e=>z (by rw[← e];exact metT_mem val j i hij)
   ·exact Zhu val n (by omega) i j hij (by omega)
theorem Jd:2≤sizeLine:=by decide
theorem Wv{ns:List Str}{i:Nat}{n:Str}(h:goodNames ns=true)(e:ns[i]?=some n):ns.idxOf n=i:=by
 unfold goodNames at h
 simp only[UN,UW] at h
 have hd:=h.1.2.2
 have hi:i<ns.length:=by
  rcases UZ i ns.length with z | z
  ·exact z
  ·rw[Vh z] at e;cases e
 have hn:ns[i]=n:=by rw[Ui hi] at e;exact Ub e
 have hm:n∈ns:=by rw[← hn];exact List.getElem_mem hi
 have hk:=UT hm
 have hke:ns[ns.idxOf n]=n:=List.getElem_idxOf hk
 have g:∀ k (hk:k<ns.length),ns.getD k Str.empty=ns[k]:=fun k hk=>by rw[Uk,Ui hk];rfl
 rcases Nat.lt_trichotomy (ns.idxOf n) i with z | z | z
 ·exact absurd (by rw[g _ hk,g _ hi,hke,hn]) (Zhu _ _ hd _ _ z hi)
 ·exact z
 ·exact absurd (by rw[g _ hk,g _ hi,hke,hn]) (Zhu _ _ hd _ _ z hk)
theorem ixLT{K:Ua}{H:Hp}{p:Addr}{l:List V}{j:Nat}{x:V}{Q:VK}(h:H p=some (.lst l)∨H p=some (.tup l))(e:l[j]?=some x)(q:Q x H):(rIxL K (.ref p) (.int ((j:Nat):Int)) H Q∨rIxT K (.ref p) (.int ((j:Nat):Int)) H Q)∨rIxS (.ref p) (.int ((j:Nat):Int)) H Q :=
 h.elim (fun eL => .inl (.inl ⟨_,_,_,_,rfl,rfl,Uy eL,Zx e,q⟩)) (fun eT => .inl (.inr ⟨_,_,_,_,rfl,rfl,Uz eT,Zx e,q⟩))
theorem Zcb{fw:D→List Bool}{x:D}{M:Nat}:∀ (fs:List Fm) (ns:List Str) (k:Nat) (n:Str),n∈ns→ns.length=fs.length→rowC fw fs ns k M n x=Xh (k+ns.idxOf n) (blen M)++rowB fw (fs.getD (ns.idxOf n) (.bare 0)) x
 | [],[],k,n,h,_=>by cases h
 | f::fs,[],k,n,h,_=>by cases h
 | [],m::ns,k,n,_,h=>by cases h
 | f::fs,m::ns,k,n,h,hl=>by
  rw[rowC]
  show (if some m=some n then _ else rowC fw fs ns (k+1) M n x)=_
  by_cases z:m=n
  ·subst z
   rw[if_pos rfl,List.idxOf_cons_self];rfl
  ·rw[if_neg (fun e=>z (Ub e)),Zcb fs ns (k+1) n ((Um.mp h).resolve_left (Uh z)) (by simpa using hl),List.idxOf_cons,beq_false_of_ne z,show k+1+ns.idxOf n=k+(ns.idxOf n+1) by omega];rfl
theorem Zgl(nb:NB mg)(T:TwoCls K (c.t 1))(F:Fun K "written" "Choice.written" Ws f fd)(D_fixed_row:DefOk P w K mg base 2 "fixed_row" ["n","most"] spFixedRow)(AM_written:AnyM P w K mg base (2*n+4) "written" ["self","value"] (clS c) (spWr has ff fw c n)):FnOk P w K mg base CX0 (2*n+4+1) f fd ["self","value"] (spWr has ff fw c (n+1) (.t 1)):=by
 refine F.okK Zbc (fun vs H Q E h=>?_) (fun cdv A outer s H vs Q E hr h=>?_)
 ·obtain⟨_,_,_,_,rfl,_⟩:=h;rfl
 obtain⟨o,fm,v,d,rfl,hs,hF,hok,hht,hd,hfit,hlen,q⟩:=h
 obtain⟨ns,fs,rfl⟩:=Zbx hs
 obtain⟨_,dx,p1,p2,os,ho,_,_,g1,g2,hI⟩:=hF
 obtain⟨hgn,hnl,hok2⟩:=hok.two
 have hht2:hts fs≤n:=by rw[ht] at hht;omega
 rw[fitB,if_neg (by decide)] at hfit
 unfold choFit at hfit
 split at hfit
 ·rename_i m x
  have hm:=Qv fs ns _ _ hnl hfit
  rw[Qw fs ns _ hm hnl] at hfit
  obtain⟨t,_,rfl,e,⟨_,_,rfl,⟨rfl,_⟩,vx,_,rfl,hx,rfl⟩,_⟩:=hd
  have er:rowB fw (.two 1 ns fs) (.tup [.str m,x])=Xh (ns.idxOf m) (blen (fs.length - 1))++rowB fw (fs.getD (ns.idxOf m) (.bare 0)) x:=by
   rw[rowB,if_neg (by decide)]
   show rowC fw fs ns 0 _ m x=_
   rw[Zcb fs ns 0 m hm hnl,Nat.zero_add]
  rw[er] at hlen q
  have hk:=UT hm
  have hki:ns[ns.idxOf m]?=some m:=by rw[Ui hk,List.getElem_idxOf hk]
  have hkf:ns.idxOf m<fs.length:=by omega
  have hf:=Ui hkf
  rw[Uk,hf] at hfit hlen q
  obtain⟨og',ho',hI'⟩:=FsAt.ge fs hI hf
  obtain⟨hok3,hht3⟩:=hok2.get hf
  obtain⟨dxi,fsi,ei,li⟩:=FAt.written _ hI'
  have a0:∀ (x:V) (r:List V),atI (x::r) 0=some x:=fun x r=>Zx (j:=0) rfl
  have a1:∀ (x y:V) (r:List V),atI (x::y::r) 1=some y:=fun x y r=>Zx (j:=1) rfl
  have hn20:=(Ya hgn).1
  refine⟨_,(Zc (Zp (i:=2) Zbc.nd rfl (by exact Or.inl rfl) (Wb PySem.F.plainAttrs_list PySem.F.slot_list_index PySem.F.type_list_index Zce (Xl (pv 0) rfl) (Za (Zs iAll (pv 1) Zd (fun _ _=>rfl)) Ze)))
  (Zf (Zj (Zh oAdd (Zi D_fixed_row hr (Za (pv 2) (Za (Zh oSub (Zm Zt rfl nb.len_ Xg (Za (Xl (pv 0) rfl) Ze)) Zd) Ze)) (hk:=by omega)) (Xn AM_written hr (Zs iAll (Xl (pv 0) rfl) (pv 2) (fun _ _=>rfl)) (Za (Zs iAll (pv 1) Zd (fun _ _=>rfl)) Ze) (hk:=by omega)))))),?_⟩
  try dsimp only[cxK0,cxK1,cxK2,cxK3]
  refine⟨_,rfl,o,c.t 1,dx,_,_,rfl,ho,T.cl,T.nN,look1 ..,.inl ⟨rfl,_,Uy g1⟩,_,rfl,.inl (.inr ⟨_,_,_,_,rfl,rfl,Uz e,a0 _ _,p1,ns,m,ns.idxOf m,rfl,rfl,g1,hki,(fun j hj hw=>by have:=Wv hgn hw;omega),by omega,?_⟩)⟩
  have hl1:(((ns.map V.str).length:Nat):Int) - 1=((fs.length - 1:Nat):Int):=by rw[Uj];omega
  have hb:blen (fs.length - 1)≤16000000:=by
   have:=UC (Uo ▸ Nat.le_add_right _ _) hlen
   rw[Xe] at this
   omega
  refine⟨_,rfl,_,rfl,o,c.t 1,dx,_,_,rfl,ho,T.cl,T.nN,look1 ..,_,_,rfl,.inl ⟨_,Uy g1,rfl⟩,_,_,rfl,rfl,ns.idxOf m,fs.length - 1,by rw[← hl1];rfl,by omega,hb,?_⟩
  refine⟨_,rfl,o,c.t 1,dx,_,_,rfl,ho,T.cl,T.nF,look2 _ _ _ _ formsnames,_,rfl,ixLT (.inl g2) (show (os.map V.ref)[ns.idxOf m]?=some (V.ref og') by rw[Ur,ho'];rfl) ⟨og',slot _,dxi,fsi,rfl,ei,li,_,rfl,.inl (.inr ⟨_,_,_,_,rfl,rfl,Uz e,a1 _ _ _,og',_,vx,x,rfl,rfl,hI',hok3,by omega,hx,hfit,?_,?_⟩)⟩⟩
  ·rw[Uo] at hlen
   exact UC (Nat.le_add_left _ _) hlen
  ·refine .inr ⟨_,_,rfl,rfl,?_,H,.refl (Vy _),?_⟩
   ·rw[Zr,Zr,← Uo]
    exact small7 (UC hlen (by decide))
   ·rw[← Xx] at q
    exact q
 ·cases hfit
theorem Xbz:∀ (n:Nat) {p q:Int},q.toNat≤n→0≤q→(0<q∨0≤p)→cd p q∣p∧cd p q∣q∧0≤cd p q:=by
 intro n
 induction n with
 | zero =>
  intro p q h0 h1 h2
  obtain rfl:q=0:=by omega
  rw[Zgz]
  exact⟨Int.dvd_refl _,Int.dvd_zero _,h2.elim (fun z=>by omega) id⟩
 | succ n ih =>
  intro p q h0 h1 h2
  by_cases hq:q=0
  ·subst hq
   rw[Zgz]
   exact⟨Int.dvd_refl _,Int.dvd_zero _,h2.elim (fun z=>by omega) id⟩
  ·have hq:0<q:=by omega
   rw[Zov hq]
   have r0:=UO p (Int.ne_of_gt hq)
   have r1:=UK p hq
   obtain⟨d1,d2,d3⟩:=ih (p:=q) (q:=p%q) (by omega) r0 (.inr h1)
   refine⟨?_,d1,d3⟩
   have e:=Int.mul_ediv_add_emod p q
   have:cd q (p%q)∣q*(p/q)+p%q:=Int.dvd_add (Int.dvd_mul_of_dvd_left d1) d2
   rwa [e] at this
theorem Zyb{p q:Int}(hq:0<q)(h:Int.gcd p q=1):cd p q=1:=by
 obtain⟨d1,d2,d3⟩:=Xbz q.toNat (Up _) (Int.le_of_lt hq) (.inl hq) (p:=p)
 have:=Int.dvd_coe_gcd d1 d2
 rw[h] at this
 exact Int.eq_one_of_dvd_one d3 this
theorem Zxs:∀ (n:Nat) {p q:Int},q.toNat≤n→0≤q→q<p→cd p q=1→Tail (euc p q)∧frac (euc p q)=(p,q):=by
 have base:∀ {p:Int},cd p 0=1→Tail (euc p 0)∧frac (euc p 0)=(p,0):=fun {p} h=>by
  rw[Zgz] at h
  subst h
  rw[Qx]
  exact⟨⟨(fun x hx=>nomatch hx),(fun z=>absurd rfl z)⟩,rfl⟩
 intro n
 induction n with
 | zero =>
  intro p q h0 h1 _ hc
  obtain rfl:q=0:=by omega
  exact base hc
 | succ n ih =>
  intro p q h0 h1 hpq hc
  by_cases hq:q=0
  ·subst hq;exact base hc
  have hq:0<q:=by omega
  rw[Zov hq] at hc
  have r0:=UO p (Int.ne_of_gt hq)
  have r1:=UK p hq
  have e:=Int.mul_ediv_add_emod p q
  have t3:1≤p/q:=Int.le_ediv_of_mul_le hq (by omega)
  obtain⟨t,f⟩:=ih (p:=q) (q:=p%q) (by omega) r0 r1 hc
  rw[Jc hq]
  refine⟨⟨fun x hx=>?_,fun z=>?_⟩,?_⟩
  ·rcases Um.mp hx with y | y
   ·rw[y];exact t3
   ·exact t.1 x y
  ·by_cases hr:euc q (p%q)=[]
   ·have hr0:p%q=0:=by
     by_cases y:p%q=0
     ·exact y
     ·rw[Jc (by omega)] at hr;cases hr
    rw[hr0,Zgz] at hc
    subst hc
    have:(p/1::euc 1 (p%1)).getLast z=p/1:=by simp only[hr,List.getLast_singleton]
    rw[this,Int.ediv_one];omega
   ·rw[List.getLast_cons hr];exact t.2 hr
  ·rw[frac,f]
   show (p/q*q+p%q,q)=(p,q)
   rw[Int.mul_comm,e]
theorem Zqz{p q:Int}(hq:0<q)(hc:cd p q=1):Good (euc p q)∧frac (euc p q)=(p,q):=by
 rw[Zov hq] at hc
 have r0:=UO p (Int.ne_of_gt hq)
 have r1:=UK p hq
 obtain⟨t,f⟩:=Zxs _ (Up _) r0 r1 hc
 rw[Jc hq]
 refine⟨t,?_⟩
 rw[frac,f]
 show (p/q*q+p%q,q)=(p,q)
 rw[Int.mul_comm,Int.mul_ediv_add_emod]
theorem Ztf:∀ (k:Nat) {p q:Int},0≤q→q<2 ^ k→(euc p q).length≤2*k+1:=by
 intro k
 induction k with
 | zero =>
  intro p q h0 h1
  have:q=0:=by omega
  subst this
  rw[Qx];exact UF _
 | succ k ih =>
  intro p q h0 h1
  by_cases hq:q=0
  ·subst hq;rw[Qx];exact UF _
  ·have hq:0<q:=by omega
   rw[Jc hq,Uq]
   have r0:=UO p (Int.ne_of_gt hq)
   have r1:=UK p hq
   generalize p%q=r at r0 r1
   by_cases hr:r=0
   ·subst hr;rw[Qx];simp
   ·have hr:0<r:=by omega
    rw[Jc hr,Uq]
    have t0:=UO q (Int.ne_of_gt hr)
    have t1:=UK q hr
    have t2:=Int.mul_ediv_add_emod q r
    have t3:1≤q/r:=Int.le_ediv_of_mul_le hr (by omega)
    have t4:r*1≤r*(q/r):=Int.mul_le_mul_of_nonneg_left t3 (by omega)
    have e:(2:Int) ^ (k+1)=2 ^ k*2:=Int.pow_succ ..
    have:=ih (p:=r) (q:=q%r) t0 (by omega)
    omega
theorem Zqy{B:Int}:∀ (n:Nat) {p q:Int},q.toNat≤n→0≤q→-B≤p→p≤B→q≤B→∀ x∈euc p q,-B≤x∧x≤B:=by
 intro n
 induction n with
 | zero =>
  intro p q h0 h1 _ _ _ x hx
  have:q=0:=by omega
  subst this
  rw[Qx] at hx;cases hx
 | succ n ih =>
  intro p q h0 h1 h2 h3 h4 x hx
  by_cases hq:q=0
  ·subst hq;rw[Qx] at hx;cases hx
  ·have hq:0<q:=by omega
   rw[Jc hq] at hx
   rcases Um.mp hx with z | z
   ·subst z
    constructor
    ·refine Int.le_ediv_of_mul_le hq ?_
     have : -B*q≤-B*1:=Int.mul_le_mul_of_nonpos_left (by omega) (by omega)
     omega
    ·refine Int.ediv_le_of_le_mul hq ?_
     have:B*1≤B*q:=Int.mul_le_mul_of_nonneg_left (by omega) (by omega)
     omega
   ·have r0:=UO p (Int.ne_of_gt hq)
    have r1:=UK p hq
    exact ih (by omega) r0 (by omega) h4 (by omega) x z
def Bd2(x y:Int):Prop:=x.natAbs<2 ^ 390∧y.natAbs<2 ^ 390
theorem Bd2.ok{p q:Int}(h:Bd2 p q)(hq:0<q):(euc p q).length≤10000∧∀ x∈euc p q,x.natAbs<2 ^ 1000:=by
 obtain⟨h1,h2⟩:=h
 have e:((2 ^ 390:Nat):Int)=(2:Int) ^ 390:=by rw[Int.natCast_pow];rfl
 have hq2:q<2 ^ 390:=by omega
 refine⟨UC (Ztf 390 (Int.le_of_lt hq) hq2) (by decide),fun x hx=>?_⟩
 have:=Zqy (B:=2 ^ 390) q.toNat (Up _) (Int.le_of_lt hq) (by omega) (by omega) (by omega) x hx
 exact Nat.lt_of_le_of_lt (m:=2 ^ 390) (by omega) (Nat.pow_lt_pow_right (by decide) (by decide))
theorem Zdc{d:D}(h:Zv d=true):∃ p q:Int,d = .tup [.int p,.int q]∧0<q∧cd p q=1∧Bd2 p q∧(euc p q).length≤300∧RowIn (euc p q):=by
 unfold Zv at h
 split at h
 ·rename_i p q
  obtain⟨h1,h2,h3,h4⟩:=UJ h
  have b1:(10:Nat) ^ 38<2 ^ 127:=by decide
  have b2:(10:Int) ^ 38<2 ^ 127:=by decide
  have b3:(2:Int) ^ 127<2 ^ 254:=by decide
  refine⟨p,q,rfl,h1,Zyb h1 h2,⟨?_,?_⟩,?_,?_⟩
  ·exact Nat.lt_of_le_of_lt h3 (by decide)
  ·exact Nat.lt_of_le_of_lt (m:=10 ^ 38) (by omega) (by decide)
  ·exact UC (Ztf 127 (Int.le_of_lt h1) (by omega)) (by decide)
  ·have hs:=Zqy (B:=10 ^ 38) q.toNat (Up _) (Int.le_of_lt h1) (p:=p) (by omega) (by omega) h4
   obtain⟨t,_⟩:=Zqz h1 (Zyb h1 h2)
   refine⟨fun x hx=>?_,fun x hx=>?_⟩
   ·have:=hs x (List.mem_of_mem_take hx)
    unfold WholeIn;omega
   ·have:=hs x (List.mem_of_mem_drop hx)
    rw[Jc h1] at t hx
    have:=t.1 x hx
    unfold CountIn;omega
 ·cases h
theorem Zqw(nb:NB mg)(F:Fun K "fits" "Fraction.fits" Ja f fd)(D_is_number:DefOk P w K mg base 1 "is_number" ["value"] spIsNum)(D_has_fraction_row:DefOk P w K mg base 3 "has_fraction_row" ["fraction"] spHasRow):FnOk P w K mg base CX0 4 f fd ["self","value"] (spFitT has Zv c n (.b 3)):=by
 refine F.okK Zhg (fun vs H Q E h=>?_) (fun cdv A outer s H vs Q E hr h=>?_)
 ·obtain⟨_,_,_,_,rfl,_⟩:=h;rfl
 obtain⟨o,fm,v,d,rfl,hs,hF,hok,hht,hd,hf,q⟩:=h
 have:=Yq hs
 subst this
 rw[Zed] at hf
 have hf:Zv d=true:=by cases d<;>exact hf
 obtain⟨p,q',rfl,h1,h2,h3,h4,h5⟩:=Zdc hf
 refine⟨_,(Zc (Zz (PW.pt (Zae (Yt (Xm (Zm Xi rfl nb.isinstance_ Xd (Za (pv 1) (Za (Yn (v := .ty "tuple") rfl nb.tuple_ Qz rfl) Ze))) (fun _=>rfl))) (Ju (Zl oNe (Zm Zt rfl nb.len_ Xg (Za (pv 1) Ze)) Zd (Zk _))))) (Zf (Zj Jw)) Zo)
  (Zf (Zj (Yu (Zi D_is_number hr (Za (Zs iAll (pv 1) Zd (fun _ _=>rfl)) Ze)) (Yu (Zi D_is_number hr (Za (Zs iAll (pv 1) Zd (fun _ _=>rfl)) Ze)) (Wl (Zi D_has_fraction_row hr (Za (pv 1) Ze)))))))),_,rfl,.inl ⟨_,_,_,_,rfl,hd.ty,kitD K _ (by decide),_,rfl,?_⟩⟩
 obtain⟨a,vs,rfl,ea,⟨_,_,rfl,rfl,_,_,rfl,rfl,rfl⟩,hvl⟩:=hd
 have a0:∀ (x:V) (r:List V),atI (x::r) 0=some x:=fun x r=>Zx (j:=0) rfl
 have a1:∀ (x y:V) (r:List V),atI (x::y::r) 1=some y:=fun x y r=>Zx (j:=1) rfl
 refine iteF ⟨_,rfl,_,_,rfl,.inr ⟨_,Uz ea,rfl⟩,rfl,_,rfl,iteNS rfl ?_⟩
 refine⟨_,rfl,.inl (.inr ⟨_,_,_,_,rfl,rfl,Uz ea,a0 _ _,_,.int p,rfl,rfl,true,rfl,iteT ?_⟩)⟩
 refine⟨_,rfl,.inl (.inr ⟨_,_,_,_,rfl,rfl,Uz ea,a1 _ _ _,_,.int q',rfl,rfl,true,rfl,iteT ?_⟩)⟩
 refine⟨_,rfl,a,p,q',rfl,ea,fun hq=>⟨UC (h3.ok hq).1 (by decide),(h3.ok hq).2⟩,H,.refl (Vy _),?_⟩
 rw[Ut ⟨h1,h2,h5⟩];exact q
noncomputable def Xk:D→List Bool
 | .tup [.int p,.int q]=>frow (euc p q)
 | _=>[]
theorem Zec{d:D}(h:Zv d=true):∃ s,Good s∧s.length≤1000∧RowIn s∧d = .tup [.int (frac s).1,.int (frac s).2]∧Xk d=frow s:=by
 obtain⟨p,q,rfl,h1,h2,h3,h4,h5⟩:=Zdc h
 obtain⟨g,e⟩:=Zqz h1 h2
 exact⟨euc p q,g,UC h4 (by decide),h5,by rw[e],rfl⟩
theorem Zeu(F:Fun K "written" "Fraction.written" Yx f fd)(D_steps_of:DefOk P w K mg base 1 "steps_of" ["fraction"] spStepsOf)(D_row_of_steps:DefOk P w K mg base 4 "row_of_steps" ["steps"] spRowOf):FnOk P w K mg base CX0 5 f fd ["self","value"] (spWr has Zv Xk c n (.b 3)):=by
 refine F.okK Zes (fun vs H Q E h=>?_) (fun cdv A outer s H vs Q E hr h=>?_)
 ·obtain⟨_,_,_,_,rfl,_⟩:=h;rfl
 obtain⟨o,fm,v,d,rfl,hs,hF,hok,hht,hd,hf,hl,q⟩:=h
 have:=Yq hs
 subst this
 rw[Zed] at hf
 have hf:Zv d=true:=by cases d<;>exact hf
 obtain⟨p,q',rfl,h1,h2,h3,h4,h5⟩:=Zdc hf
 rw[rowB] at q
 obtain⟨a,vs,rfl,ea,⟨_,_,rfl,rfl,_,_,rfl,rfl,rfl⟩,hvl⟩:=hd
 refine⟨_,(Zf (Zj (Zi D_row_of_steps hr (Za (Zi D_steps_of hr (Za (pv 1) Ze)) Ze)))),?_⟩
 try dsimp only[cxK0,cxK1,cxK2,cxK3]
 refine⟨_,rfl,a,p,q',rfl,ea,Int.le_of_lt h1,UC (h3.ok h1).1 (by decide),(h3.ok h1).2,fun r hr2=>?_⟩
 exact⟨r,_,rfl,Zb,by rw[Jc h1];exact Vd _ _,by omega,h5,H,.refl (Zq hr2),q⟩
theorem Zvb(nb:NB mg)(T:TwoCls K (c.t 1))(F:Fun K "fits" "Choice.fits" Qn f fd)(AM_fits:AnyM P w K mg base (2*n+4) "fits" ["self","value"] (clS c) (spFitT has ff c n)):FnOk P w K mg base CX0 (2*n+4+1) f fd ["self","value"] (spFitT has ff c (n+1) (.t 1)):=by
 refine F.okK Zjz (fun vs H Q E h=>?_) (fun cdv A outer s H vs Q E hr h=>?_)
 ·obtain⟨_,_,_,_,rfl,_⟩:=h;rfl
 obtain⟨o,fm,v,d,rfl,hs,hF,hok,hht,hd,hf,q⟩:=h
 obtain⟨ns,fs,rfl⟩:=Zbx hs
 obtain⟨_,dx,p1,p2,os,ho,_,_,g1,g2,hI⟩:=hF
 obtain⟨hgn,hnl,hok2⟩:=hok.two
 have hht2:hts fs≤n:=by rw[ht] at hht;omega
 have hn20:=(Ya hgn).1
 rw[fitB,if_neg (by decide)] at hf
 refine⟨_,(Zc (Zz (PW.pt (Zae (Yt (Xm (Zm Xi rfl nb.isinstance_ Xd (Za (pv 1) (Za (Yn (v := .ty "tuple") rfl nb.tuple_ Qz rfl) Ze))) (fun _=>rfl))) (Zae (Zl oNe (Zm Zt rfl nb.len_ Xg (Za (pv 1) Ze)) Zd (Zk _)) (Ju (Zl (Zuk (room64 hr)) (Zs iAll (pv 1) Zd (fun _ _=>rfl)) (Xl (pv 0) rfl) (by with_unfolding_all rfl)))))) (Zf (Zj Jw)) Zo)
  (Zf (Zj (Xn AM_fits hr (Zs iAll (Xl (pv 0) rfl) (Wb PySem.F.plainAttrs_list PySem.F.slot_list_index PySem.F.type_list_index Zce (Xl (pv 0) rfl) (Za (Zs iAll (pv 1) Zd (fun _ _=>rfl)) Ze)) (fun _ _=>rfl)) (Za (Zs iAll (pv 1) Zd (fun _ _=>rfl)) Ze) (hk:=by omega))))),_,rfl,.inl ⟨_,_,_,_,rfl,hd.ty,kitD K d (by decide),_,rfl,?_⟩⟩
 unfold choFit at hf
 split at hf
 ·rename_i m x
  obtain⟨a,vs,rfl,ea,⟨v0,_,rfl,h0,vx,_,rfl,hx,rfl⟩,hvl⟩:=hd
  have hm:=Qv fs ns m x hnl hf
  have a0:∀ (x:V) (r:List V),atI (x::r) 0=some x:=fun x r=>Zx (j:=0) rfl
  have a1:∀ (x y:V) (r:List V),atI (x::y::r) 1=some y:=fun x y r=>Zx (j:=1) rfl
  refine iteF ⟨_,rfl,_,_,rfl,.inr ⟨_,Uz ea,rfl⟩,rfl,_,rfl,iteNS rfl ?_⟩
  refine⟨_,rfl,.inl (.inr ⟨_,_,_,_,rfl,rfl,Uz ea,a0 _ _,_,rfl,o,c.t 1,dx,_,_,rfl,ho,T.cl,T.nN,look1 ..,p1,ns,.str m,rfl,Uy g1,h0,_,rfl,?_⟩)⟩
  obtain⟨rfl,_⟩:=h0
  have ei:inD ns (.str m)=true:=List.any_eq_true.mpr ⟨m,hm,by simp⟩
  rw[ei]
  have hk:=UT hm
  have hki:ns[ns.idxOf m]?=some m:=by rw[Ui hk,List.getElem_idxOf hk]
  have hkf:ns.idxOf m<fs.length:=by omega
  have hg:=Ui hkf
  rw[Qw fs ns m hm hnl,Uk,hg] at hf
  obtain⟨og',ho',hI'⟩:=FsAt.ge fs hI hg
  obtain⟨hok3,hht3⟩:=hok2.get hg
  obtain⟨dxi,fsi,ei',li⟩:=FAt.fits _ hI'
  refine iteF ⟨_,rfl,o,c.t 1,dx,_,_,rfl,ho,T.cl,T.nF,look2 _ _ _ _ formsnames,_,rfl,o,c.t 1,dx,_,_,rfl,ho,T.cl,T.nN,look1 ..,.inl ⟨rfl,_,Uy g1⟩,_,rfl,.inl (.inr ⟨_,_,_,_,rfl,rfl,Uz ea,a0 _ _,p1,ns,m,ns.idxOf m,rfl,rfl,g1,hki,(fun j hj hw=>by have:=Wv hgn hw;omega),by omega,?_⟩)⟩
  exact ixLT (.inl g2) (show (os.map V.ref)[ns.idxOf m]?=some (V.ref og') by rw[Ur,ho'];rfl) ⟨og',slot _,dxi,fsi,rfl,ei',li,_,rfl,.inl (.inr ⟨_,_,_,_,rfl,rfl,Uz ea,a1 _ _ _,og',_,vx,x,rfl,rfl,hI',hok3,by omega,hx,hf,H,.refl (Vy _),q⟩)⟩
 ·cases hf
theorem Zxw(c_C:Cls K C)(T:OneCls K (c.o 0))(F:Fun K "draw" "Maybe.draw" Zam f fd)(M_draw:MethOk P w K mg base 1 C "draw" ["self"] (spDraw C))(AM_draw:AnyM P w K mg base (2*n+4) "draw" ["self","source"] (clS c) (spDr has ff fw c C n)):FnOk P w K mg base CX0 (2*n+4+1) f fd ["self","source"] (spDr has ff fw c C (n+1) (.o 0)):=by
 refine F.okK Zlk (fun vs H Q E h=>?_) (fun cdv A outer s H vs Q E hr h=>?_)
 ·obtain⟨_,_,_,_,_,_,_,_,_,_,rfl,_⟩:=h;rfl
 obtain⟨o,p,dx,fm,d,l,j,t,e,X,rfl,hs,hF,hok,hht,hS,hl,hj,hpX,hX,hf,hr',q⟩:=h
 obtain⟨g,rfl⟩:=Jl hs
 obtain⟨nop,dxo,i,ho,hI⟩:=hF
 have hok2:=hok.one
 have hht2:ht g≤n:=by rw[ht] at hht;omega
 have op:o≠p:=fun z=>nop (UD.mpr z)
 rw[fitB] at hf
 rw[rowB] at q hr'
 replace hf:maybeFit (fitB ff g) d=true:=hf
 have M1:=Mv.step (j':=j+1) (t':=t) (e':=e) hS
 have hI1:=FAt.mv M1 g hI
 have fresh:∀ {H2:Hp} {o2:HO} {tt:Addr},Mv p H H2→H2 p=some o2→H2 tt=none→tt∉X:=fun M e2 e3 z=>by
  obtain⟨o3,e4⟩:=Mv.alloc M e2 hX _ z
  rw[e3] at e4;cases e4
 unfold maybeFit at hf
 split at hf
 ·have hr':[false] <+: sees l t j:=hr'
  obtain⟨b',hb1,hb2⟩:=Zaq hr'
  refine⟨_,(Zc (Zz (Zl oEq (Xt M_draw c_C hr (pv 1) (hk:=by omega)) Zd (Zk _)) (Zf (Zj (Yz Ze))) Zo)
  (Zf (Zj (Yz (Za (Xn AM_draw hr (Xl (pv 0) rfl) (Za (pv 1) Ze) (hk:=by omega)) Ze))))),?_⟩
  try dsimp only[cxK0,cxK1,cxK2,cxK3]
  refine⟨_,rfl,p,dx,_,rfl,hS,Ye _ _ _ _ (by decide +kernel) (by decide +kernel) (by decide +kernel),p,dx,l,j,t,e,b',rfl,⟨_,hS⟩,hl,hb1,?_⟩
  rw[hb2]
  refine⟨rfl,_,rfl,iteY rfl ⟨UF _,fun tt htt=>?_⟩⟩
  have E:=Ext.tup (xs:=[]) htt
  have M:=M1.ext E
  exact⟨_,M.sub (E.s _ _ Zb),q _ _ M ⟨tt,[],rfl,fresh M1 Zb htt,Zb,rfl,by simp⟩ (E.s _ _ Zb)⟩
 ·rename_i x
  have hr':(true::rowB fw g x) <+: sees l t j:=hr'
  obtain⟨b',hb1,hb2⟩:=Zaq hr'
  have hr2:=Zck (r:=[true]) hr'
  obtain⟨dxi,fsi,ei,li⟩:=FAt.draw g hI1
  have hj1:j+1≤l.length:=by have:=(Uw.mp hb1).1;omega
  refine⟨_,(Zc (Zz (Zl oEq (Xt M_draw c_C hr (pv 1) (hk:=by omega)) Zd (Zk _)) (Zf (Zj (Yz Ze))) Zo)
  (Zf (Zj (Yz (Za (Xn AM_draw hr (Xl (pv 0) rfl) (Za (pv 1) Ze) (hk:=by omega)) Ze))))),?_⟩
  try dsimp only[cxK0,cxK1,cxK2,cxK3]
  refine⟨_,rfl,p,dx,_,rfl,hS,Ye _ _ _ _ (by decide +kernel) (by decide +kernel) (by decide +kernel),p,dx,l,j,t,e,b',rfl,⟨_,hS⟩,hl,hb1,?_⟩
  rw[hb2]
  refine⟨rfl,_,rfl,iteN (by decide) ⟨_,rfl,o,c.o 0,dxo,_,_,rfl,M1.k _ _ op ho,T.cl,T.nI,look1 ..,i,slot g,dxi,fsi,rfl,ei,li,_,rfl,i,p,dx,g,x,l,j+1,t,e,X,rfl,rfl,hI1,hok2,hht2,Zb,hl,hj1,hpX,Mv.alloc M1 Zb hX,hf,hr2,fun v H2 M2 hd2 hS2=>⟨Zod,fun tt htt=>?_⟩⟩⟩
  have E:=Ext.tup (xs:=[v]) htt
  have M:=(M1.trans M2).ext E
  refine⟨_,M.sub (E.s _ _ hS2),q _ _ M ⟨tt,[v],rfl,fresh (M1.trans M2) hS2 htt,Zb,⟨v,[],rfl,hd2.same E.s,rfl⟩,by simp⟩ ?_⟩
  rw[E.s _ _ hS2]
  show some (srcO C dx l (j+1+(rowB fw g x).length) t e)=some (srcO C dx l (j+((rowB fw g x).length+1)) t e)
  rw[show j+1+(rowB fw g x).length=j+((rowB fw g x).length+1) by omega]
 ·cases hf
theorem Zvm(nb:NB mg)(T:TwoCls K (c.t 1))(F:Fun K "draw" "Choice.draw" Qo f fd)(D_draw_fixed:DefOk P w K mg base 2 "draw_fixed" ["source","most"] (spDrawFixed C))(AM_draw:AnyM P w K mg base (2*n+4) "draw" ["self","source"] (clS c) (spDr has ff fw c C n)):FnOk P w K mg base CX0 (2*n+4+1) f fd ["self","source"] (spDr has ff fw c C (n+1) (.t 1)):=by
 refine F.okK Zdl (fun vs H Q E h=>?_) (fun cdv A outer s H vs Q E hr h=>?_)
 ·obtain⟨_,_,_,_,_,_,_,_,_,_,rfl,_⟩:=h;rfl
 obtain⟨o,p,dx,fm,d,l,j,t,e,X,rfl,hs,hF,hok,hht,hS,hl,hj,hpX,hX,hf,hr',q⟩:=h
 obtain⟨ns,fs,rfl⟩:=Zbx hs
 obtain⟨nop,dxo,p1,p2,os,ho,np1,np2,g1,g2,hI⟩:=hF
 obtain⟨hgn,hnl,hok2⟩:=hok.two
 have hht2:hts fs≤n:=by rw[ht] at hht;omega
 have ne:∀ {b:Addr},b∉[p]→b≠p:=fun h z=>h (UD.mpr z)
 rw[fitB,if_neg (by decide)] at hf
 unfold choFit at hf
 split at hf
 ·rename_i m x
  have hm:=Qv fs ns _ _ hnl hf
  rw[Qw fs ns _ hm hnl] at hf
  have hk:=UT hm
  have hki:ns[ns.idxOf m]?=some m:=by rw[Ui hk,List.getElem_idxOf hk]
  have hkf:ns.idxOf m<fs.length:=by omega
  have hfs:=Ui hkf
  have er:rowB fw (.two 1 ns fs) (.tup [.str m,x])=Xh (ns.idxOf m) (blen (fs.length - 1))++rowB fw fs[ns.idxOf m] x:=by
   rw[rowB,if_neg (by decide)]
   show rowC fw fs ns 0 _ m x=_
   rw[Zcb fs ns 0 m hm hnl,Nat.zero_add,Uk,hfs];rfl
  rw[Uk,hfs] at hf
  rw[er] at hr' q
  have hr1:=Jm hr'
  have hr2:=Zck hr'
  have hln:=Qt hr1 hj
  have htk:=Zhc hr1
  rw[Xe] at hln htk hr2
  rw[Uo,Xe] at q
  have M1:=Mv.step (j':=j+blen (fs.length - 1)) (t':=t) (e':=e) hS
  obtain⟨og',ho',hI'⟩:=FsAt.ge fs hI hfs
  have hI1:=FAt.mv M1 _ hI'
  obtain⟨hok3,hht3⟩:=hok2.get hfs
  obtain⟨dxi,fsi,ei,li⟩:=FAt.draw _ hI1
  have hnm:m.length≤100000:=UC ((Ya hgn).2 m hm) (by decide)
  have hl1:(((ns.map V.str).length:Nat):Int) - 1=((fs.length - 1:Nat):Int):=by rw[Uj];omega
  refine⟨_,(Zc (Zp (i:=2) Zdl.nd rfl (by exact Or.inl rfl) (Zi D_draw_fixed hr (Za (pv 1) (Za (Zh oSub (Zm Zt rfl nb.len_ Xg (Za (Xl (pv 0) rfl) Ze)) Zd) Ze)) (hk:=by omega)))
  (Zf (Zj (Yz (Za (Zs iAll (Xl (pv 0) rfl) (pv 2) (fun _ _=>rfl)) (Za (Xn AM_draw hr (Zs iAll (Xl (pv 0) rfl) (pv 2) (fun _ _=>rfl)) (Za (pv 1) Ze) (hk:=by omega)) Ze)))))),?_⟩
  try dsimp only[cxK0,cxK1,cxK2,cxK3]
  refine⟨_,rfl,_,rfl,o,c.t 1,dxo,_,_,rfl,ho,T.cl,T.nN,look1 ..,_,_,rfl,.inl ⟨_,Uy g1,rfl⟩,_,_,rfl,rfl,p,dx,l,j,ns.idxOf m,fs.length - 1,t,e,by rw[← hl1];rfl,hS,hl,by omega,hln,htk,?_⟩
  refine⟨_,rfl,o,c.t 1,dxo,_,_,rfl,M1.k _ _ (ne nop) ho,T.cl,T.nN,look1 ..,_,rfl,ixLT (.inl (M1.k _ _ (ne np1) g1)) (show (ns.map V.str)[ns.idxOf m]?=some (V.str m) by rw[Ur,hki];rfl) ⟨_,rfl,o,c.t 1,dxo,_,_,rfl,M1.k _ _ (ne nop) ho,T.cl,T.nF,look2 _ _ _ _ formsnames,_,rfl,ixLT (.inl (M1.k _ _ (ne np2) g2)) (show (os.map V.ref)[ns.idxOf m]?=some (V.ref og') by rw[Ur,ho'];rfl) ⟨og',slot _,dxi,fsi,rfl,ei,li,_,rfl,og',p,dx,_,x,l,j+blen (fs.length - 1),t,e,X,rfl,rfl,hI1,hok3,by omega,Zb,hl,hln,hpX,Mv.alloc M1 Zb hX,hf,hr2,fun v H2 M2 hd2 hS2=>⟨Jd,fun tt htt=>?_⟩⟩⟩⟩
  have M:=M1.trans M2
  have E:=Ext.tup (xs:=[V.str m,v]) htt
  have hft:tt∉X:=fun z=>by
   obtain⟨o3,e4⟩:=Mv.alloc M hS2 hX _ z
   rw[htt] at e4;cases e4
  refine⟨_,(M.ext E).sub (E.s _ _ hS2),q _ _ (M.ext E) ⟨tt,_,rfl,hft,Zb,⟨_,_,rfl,⟨rfl,hnm⟩,v,[],rfl,hd2.same E.s,rfl⟩,by simp⟩ ?_⟩
  rw[E.s _ _ hS2,Nat.add_assoc]
 ·cases hf
def spDrawFrac(C:Addr):Sp:=fun vs H Q _=>∃ (p dx:Addr) (l:List Bool) (i:Nat) (s:List Int) (t en:Bool),vs=[.ref p]∧H p=some (srcO C dx l i t en)∧l.length≤16000000∧i≤l.length∧Good s∧s.length≤1000∧RowIn s∧frow s <+: (l.map (xor t)).drop i∧
 ∀ r,H r=none→Q (.ref r) (upd (upd H p (srcO C dx l (i+(frow s).length) t en)) r (.tup [.int (frac s).1,.int (frac s).2]))
theorem Zpt{s:List Int}(h:RowIn s):∀ x∈s,x.natAbs<2 ^ 1000:=by
 intro x hx
 obtain⟨i,hi,rfl⟩:=List.mem_iff_getElem.mp hx
 have z:=h.at (Ui hi)
 refine UA (m:=2 ^ 256) ?_ (Nat.pow_le_pow_right (by decide) (by decide))
 split at z
 ·unfold WholeIn at z;omega
 ·unfold CountIn at z;omega
theorem Zii{a b L:List Bool}{i:Nat}(h:a++b <+: L.drop i):b <+: L.drop (i+a.length):=by
 obtain⟨u,e⟩:=h
 refine⟨u,?_⟩
 rw[← List.drop_drop,← e,UH,List.drop_left]
theorem Zws{a L:List Bool}{i:Nat}(h:a <+: L.drop i)(hi:i≤L.length):i+a.length≤L.length:=by
 have:=h.length_le
 rw[Va] at this
 omega
theorem Zlx{s:List Int}{j:Nat}{x:Int}(h:s[j]?=some x):s.take (j+1)=s.take j++[x]:=by rw[UX,h];rfl
structure St2(H H2:Hp)(p r:Addr)(o u:HO):Prop where
 hp:H2 p=some o
 hr:H2 r=some u
 hs:∀ b v,b≠p→H b=some v→H2 b=some v
theorem St2.setp{H H2:Hp}{p r:Addr}{o u o':HO}(h:St2 H H2 p r o u)(n:r≠p):St2 H (upd H2 p o') p r o' u:=⟨Zb,by rw[Zn n];exact h.hr,fun b v hb e=>by rw[Zn hb];exact h.hs b v hb e⟩
theorem St2.setr{H H2:Hp}{p r:Addr}{o u u':HO}(h:St2 H H2 p r o u)(n:r≠p)(hr:H r=none):St2 H (upd H2 r u') p r o u':=⟨by rw[Zn (Uh n)];exact h.hp,Zb,fun b v hb e=>by rw[Zn (Xa e hr)];exact h.hs b v hb e⟩
theorem St2.free{H H2:Hp}{p r b:Addr}{o u:HO}(h:St2 H H2 p r o u)(e:H2 b=none):H b=none:=by
 cases q:H b with
 | none=>rfl
 | some v =>
  by_cases hb:b=p
  ·subst hb;rw[h.hp] at e;cases e
  ·rw[h.hs b v hb q] at e;cases e
def spWish(C:Addr):Sp:=fun vs H Q _=>∃ (p dx:Addr) (z:Str) (i:Int) (t e:Bool) (u v:Int),vs=[.ref p,.int v]∧H p=some (.ins C dx (Yi z i t e u))∧Q .non (upd H p (.ins C dx (Yi z i t e v)))
theorem Zzq(T:SrcCls K C)(F:Fun K "wish" "Source.wish" Qi f fd):FnOk P w K mg base CX0 1 f fd ["self","sign"] (spWish C):=by
 refine F.ok Zjs (fun vs H Q E h=>?_) (fun cdv A outer s H vs Q E hr h=>?_)
 ·obtain⟨p,dx,z,i,t,e,u,v,rfl,_⟩:=h;rfl
 obtain⟨p,dx,z,i,t,e,u,v,rfl,hp,q⟩:=h
 refine⟨_,(Zf (Yy (pv 0) (pv 1) rfl)),?_⟩
 try dsimp only[cxK0,cxK1,cxK2,cxK3]
 refine⟨_,rfl,_,rfl,p,C,dx,_,rfl,hp,T.cl,T.nW,(by show 5<1000;decide),?_⟩
 rw[Zkd]
 exact q
theorem Zhp(nb:NB mg)(c_C:Cls K C)(F:FunAt K mg "draw_fraction" Zab ["source"] f fd)(M_draw:MethOk P w K mg base 1 C "draw" ["self"] (spDraw C))(M_turn:MethOk P w K mg base 1 C "turn" ["self"] (spTurn C))(M_wish:MethOk P w K mg base 1 C "wish" ["self","sign"] (spWish C))(M_refuse:MethOk P w K mg base 1 C "refuse" ["self"] spNo)(D_draw_whole:DefOk P w K mg base 4 "draw_whole" ["source"] (spDrawWhole C))(D_draw_count:DefOk P w K mg base 3 "draw_count" ["source"] (spDrawCount C))
  (D_are_steps:DefOk P w K mg base 1 "are_steps" ["steps"] spAreSteps) (D_fraction_of:DefOk P w K mg base 2 "fraction_of" ["steps"] spFracOf):DefOk P w K mg base 5 "draw_fraction" ["source"] (spDrawFrac C):=by
 refine F.ok Zca (fun vs H Q E h=>?_) (fun cdv A outer s H vs Q E hr h=>?_)
 ·obtain⟨p,dx,l,i,s,t,en,rfl,_⟩:=h;rfl
 obtain⟨p,dx,l,i,s,t,en,rfl,hp,hl,hi,hg,hsl,hR,hc,q⟩:=h
 refine⟨_,(Zc (Zp (i:=1) Zca.nd rfl (by exact Or.inl rfl) (Yp (Za (Zi D_draw_whole hr (Za (pv 0) Ze)) Ze)))
  (Zc (Qu PassesOwn.never (Zl oEq (Xt M_draw c_C hr (pv 0)) Zd (Zk _))
   (Zc (Yj (Xt M_turn c_C hr (pv 0)))
   (Zc (Yj (Zke M_wish c_C hr (pv 0) (Za Zd Ze)))
   (Zc (Yj (Wb PySem.F.plainAttrs_list PySem.F.slot_list_append PySem.F.type_list_append Ji (pv 1) (Za (Zh oAdd (Zi D_draw_count hr (Za (pv 0) Ze)) Zd) Ze)))
   (Zf (Zz (Zl oEq (Zs iAll (pv 1) (Zbk Jk Zd) (fun _ _=>rfl)) Zd (Zk _)) (Zf (Yj (Zke M_wish c_C hr (pv 0) (Za Zd Ze)))) Zo))))))
  (Zc (Zz (Yt (Xm (Zi D_are_steps hr (Za (pv 1) Ze)) (fun _=>rfl))) (Zf (Yj (Xt M_refuse c_C hr (pv 0)))) Zo)
  (Zc (Zz (Zl oEq (Zh Xc (Zm Zt rfl nb.len_ Xg (Za (pv 1) Ze)) Zd) Zd (Zk _)) (Zf (Yj (Xt M_turn c_C hr (pv 0)))) Zo)
  (Zf (Zj (Zi D_fraction_of hr (Za (pv 1) Ze)))))))),?_⟩
 try dsimp only[cxK0,cxK1,cxK2,cxK3]
 have nw:∀ (z:Str) (i:Int) (t e:Bool) {u:Int},(Yi z i t e u).lookup ("wish":Str)=none:=fun _ _ _ _=>Ye _ _ _ _ (by decide +kernel) (by decide +kernel) (by decide +kernel)
 have nm:∀ (z:Str) (i:Int) (t e:Bool) {u:Int},(Yi z i t e u).lookup ("draw":Str)=none:=fun _ _ _ _=>Ye _ _ _ _ (by decide +kernel) (by decide +kernel) (by decide +kernel)
 have nt:∀ (z:Str) (i:Int) (t e:Bool) {u:Int},(Yi z i t e u).lookup ("turn":Str)=none:=fun _ _ _ _=>Ye _ _ _ _ (by decide +kernel) (by decide +kernel) (by decide +kernel)
 obtain⟨a,es,rfl⟩:=List.exists_cons_of_ne_nil hg.ne
 have ha:=hR.1 a (UD.mpr rfl)
 have hc':whl a++more es <+: (l.map (xor t)).drop i:=hc
 have hlm:(l.map (xor t)).length=l.length:=Uj ..
 refine⟨_,rfl,p,dx,l,i,a,t,en,rfl,hp,hl,hi,ha,⟨_,(UH ..).symm.trans hc'.choose_spec⟩,(by show 1≤sizeLine;decide),fun r hr2=>?_⟩
 have hrp:r≠p:=fun z=>by rw[z,Zb] at hr2;cases hr2
 have hrH:H r=none:=by rw[Zn hrp] at hr2;exact hr2
 have S0:St2 H (upd (upd H p (srcO C dx l (i+(whl a).length) t en)) r (.lst [V.int a])) p r (srcO C dx l (i+(whl a).length) t en) (.lst [V.int a]):=⟨by rw[Zn (Uh hrp)];exact Zb,Zb,fun b v hb e=>by rw[Zn (Xa e hrH),Zn hb];exact e⟩
 obtain⟨s,hs⟩:∃ s,s=a::es:=⟨_,rfl⟩
 have hn0:0<s.length:=by rw[hs];exact Nat.succ_pos _
 have hfl:(frow s).length=(whl a).length+(more es).length:=by rw[hs];exact Uo
 rw[← hs] at hg hsl hR q
 refine⟨fun m σ H2=>∃ (j I:Nat) (T:Bool) (u:Int),1≤j∧j≤s.length∧m=s.length - j∧σ=[some (.ref p),some (.ref r)]∧St2 H H2 p r (srcW C dx l I T en u) (.lst ((s.take j).map V.int))∧more (s.drop j) <+: (l.map (xor T)).drop I∧I≤l.length∧I+(more (s.drop j)).length=i+(frow s).length∧T=(t ^^ odd (j+1)),
  ⟨s.length - 1,1,i+(whl a).length,t,0,Up _,hn0,rfl,rfl,?_,?_,?_,?_,?_⟩,?_⟩
 ·rw[hs];exact S0
 ·rw[hs];exact Zii hc'
 ·have:=Zws (a:=whl a) ⟨_,(UH ..).symm.trans hc'.choose_spec⟩ (by rw[hlm];exact hi);rw[hlm] at this;exact this
 ·rw[hfl];subst hs;show i+(whl a).length+(more es).length=_;omega
 ·cases t<;>rfl
 rintro m σ H2 ⟨j,I,T,u,hj1,hj2,rfl,rfl,S,hpre,hI,hlen,hT⟩
 have hlT:(l.map (xor T)).length=l.length:=Uj ..
 rcases UZ j s.length with hj | hj
 ·
  have hsj:s[j]?=some (s[j]'hj):=Ui hj
  have hin:=hR.at hsj
  rw[if_neg (by omega)] at hin
  have ed:s.drop j=s[j]'hj::s.drop (j+1):=UY hj
  generalize s[j]'hj=b at hsj hin ed
  rw[ed] at hpre hlen
  obtain⟨hb1,hb2,hb3⟩:=Zgq hpre
  rw[hlT] at hb1
  obtain⟨bit,hbit,hbx⟩:=get_map (l:=l) (t:=T) (i:=I) hb1
  rw[hb2] at hbx
  have hb4:=Zdy hb3
  rw[List.map_drop,Zia] at hb4
  have hcin:=hin.1
  have hcin2:=hin.2
  obtain⟨n,hn⟩:∃ n:Nat,n=(b - 1).toNat:=⟨_,rfl⟩
  rw[← hn] at hb4
  refine⟨_,rfl,p,dx,_,rfl,S.hp,nm ..,p,dx,l,I,T,en,bit,rfl,⟨_,S.hp⟩,hl,hbit,rfl,_,rfl,?_⟩
  rw[← hbx]
  refine iteY rfl ⟨fun σ' H'=>∃ m',m'<s.length - j∧∃ (j I:Nat) (T:Bool) (u:Int),1≤j∧j≤s.length∧m'=s.length - j∧σ'=[some (.ref p),some (.ref r)]∧St2 H H' p r (srcW C dx l I T en u) (.lst ((s.take j).map V.int))∧more (s.drop j) <+: (l.map (xor T)).drop I∧I≤l.length∧I+(more (s.drop j)).length=i+(frow s).length∧T=(t ^^ odd (j+1)),fun _ _ h=>h,?_⟩
  have S1:=S.setp (o':=srcO C dx l (I+1) T en) hrp
  refine⟨_,rfl,p,dx,_,rfl,S1.hp,nt ..,p,dx,l,_,_,_,_,rfl,S1.hp,?_⟩
  have S2:=S1.setp (o':=srcO C dx l (I+1) (!T) en) hrp
  refine⟨_,rfl,p,dx,_,rfl,S2.hp,nw ..,p,dx,rowS l,_,!T,en,0,1,rfl,S2.hp,?_⟩
  have S2w:=S2.setp (o':=srcW C dx l (I+1) (!T) en 1) hrp
  refine⟨_,rfl,.inl ⟨rfl,_,Uy S2w.hr⟩,_,rfl,p,dx,l,I+1,n,!T,en,rfl,⟨_,S2w.hp⟩,hl,hb1,(by omega),⟨_,(UH ..).symm.trans hb4.choose_spec⟩,.inl ⟨_,_,rfl,rfl,?_⟩⟩
  have S3:=S2w.setp (o':=srcO C dx l (I+1+(cnt n).length) (!T) en) hrp
  refine⟨_,_,_,rfl,rfl,S3.hr,(by rw[mI,US];exact UA (show min j s.length<100001 by omega) (small5' (by decide))),?_⟩
  have S4:=S3.setr (u' := .lst ((s.take j).map V.int++[V.int ((n:Int)+1)])) hrp hrH
  have eb:(n:Int)+1=b:=by omega
  have e5:(s.take j).map V.int++[V.int ((n:Int)+1)]=(s.take (j+1)).map V.int:=by rw[Zlx hsj,UE,eb];rfl
  rw[e5] at S4
  have hpl:=Zws (a:=cnt n) ⟨_,(UH ..).symm.trans hb4.choose_spec⟩ (by rw[Uj];exact hb1)
  rw[Uj] at hpl
  have fin1:∀ (u:Int) (H4:Hp),St2 H H4 p r (srcW C dx l (I+1+(cnt n).length) (!T) en u) (.lst ((s.take (j+1)).map V.int))→∃ m',m'<s.length - j∧∃ (j I:Nat) (T:Bool) (u:Int),1≤j∧j≤s.length∧m'=s.length - j∧[some (V.ref p),some (.ref r)]=[some (.ref p),some (.ref r)]∧St2 H H4 p r (srcW C dx l I T en u) (.lst ((s.take j).map V.int))∧more (s.drop j) <+: (l.map (xor T)).drop I∧I≤l.length∧I+(more (s.drop j)).length=i+(frow s).length∧T=(t ^^ odd (j+1)):=fun u H4 hS4=>by
   refine⟨s.length - (j+1),by omega,j+1,I+1+(cnt n).length,!T,u,by omega,by omega,rfl,rfl,hS4,Zii hb4,hpl,?_,?_⟩
   ·have e6:(more (b::s.drop (j+1))).length=1+((cnt n).length+(more (s.drop (j+1))).length):=by
     rw[more,Uq,Uj,Uo,← hn];omega
    rw[e6] at hlen
    omega
   ·rw[hT,Zgm (j+1)];cases t<;>cases odd (j+1)<;>rfl
  dsimp only
  rw[e5]
  have hne:s.take (j+1)≠[]:=by rw[Zlx hsj];exact List.append_ne_nil_of_right_ne_nil _ (Vd _ _)
  refine⟨_,rfl,_,rfl,.inl (.inl ⟨_,_,_,_,rfl,rfl,Uy S4.hr,Zhz hne,rfl,_,rfl,?_⟩)⟩
  refine iteD (fun c=>?_) (fun c=>?_)
  ·refine⟨_,rfl,p,dx,_,rfl,S4.hp,nw ..,p,dx,rowS l,_,!T,en,0,1,rfl,S4.hp,?_⟩
   exact fin1 1 _ (S4.setp hrp)
  ·exact fin1 0 _ S4
 ·
  have ej:j=s.length:=by omega
  have ed:s.drop j=[]:=by rw[ej];exact List.drop_length ..
  have et:s.take j=s:=by rw[ej];exact List.take_length ..
  rw[ed] at hpre hlen
  rw[et] at S
  obtain⟨hb1,hb2,hb3⟩:=Zgq hpre
  rw[hlT] at hb1
  obtain⟨bit,hbit,hbx⟩:=get_map (l:=l) (t:=T) (i:=I) hb1
  rw[hb2] at hbx
  refine⟨_,rfl,p,dx,_,rfl,S.hp,nm ..,p,dx,l,I,T,en,bit,rfl,⟨_,S.hp⟩,hl,hbit,rfl,_,rfl,?_⟩
  rw[← hbx]
  refine iteN (by decide) ?_
  have S1:=S.setp (o':=srcO C dx l (I+1) T en) hrp
  have eI:I+1=i+(frow s).length:=hlen
  refine⟨_,rfl,r,s,rfl,S1.hr,by omega,_,rfl,?_⟩
  rw[(Zmr s).mpr hg]
  refine iteF ⟨_,rfl,_,_,rfl,.inl ⟨_,Uy S1.hr,rfl⟩,_,_,rfl,rfl,(by show (0:Int)<2;decide),rfl,_,rfl,?_⟩
  rw[mI]
  have fin:∀ {H3:Hp},St2 H H3 p r (srcO C dx l (I+1) t en) (.lst (s.map V.int))→∀ r2,H3 r2=none→∃ H'',Sub H H'' (upd H3 r2 (.tup [.int (frac s).1,.int (frac s).2]))∧Q (.ref r2) H'':=fun {H3} S3 r2 hr3=>by
   have hf:=S3.free hr3
   have n1:p≠r2:=fun z=>by rw[← z,S3.hp] at hr3;cases hr3
   refine⟨_,Sub.insNew hp hf (fun b u hb e=>by rw[Zn (Xa e hf)];exact S3.hs b u hb e) (by rw[Zn n1];exact S3.hp) Zb trivial,?_⟩
   rw[eI]
   exact q r2 hf
  refine iteD (fun c=>?_) (fun c=>?_)
  ·have hev:s.length%2=0:=by have:=V.int.inj c;omega
   have eT:(!T)=t:=by
    rw[hT,ej,Zgm]
    have:odd s.length=false:=UB (by omega)
    rw[this];cases t<;>rfl
   refine⟨_,rfl,p,dx,_,rfl,S1.hp,nt ..,p,dx,l,_,_,_,_,rfl,S1.hp,?_⟩
   have S2:=S1.setp (o':=srcO C dx l (I+1) (!T) en) hrp
   refine⟨_,rfl,r,s,rfl,S2.hr,hsl,Zpt hR,hg,?_⟩
   rw[eT] at S2
   rw[eT]
   exact fin S2
  ·have hod:s.length%2=1:=by
    have:¬s.length%2=0:=fun z=>c (congrArg V.int (by omega))
    omega
   have eT:T=t:=by
    rw[hT,ej,Zgm]
    have:odd s.length=true:=Ut hod
    rw[this];cases t<;>rfl
   subst eT
   exact⟨_,rfl,r,s,rfl,S1.hr,hsl,Zpt hR,hg,fin S1⟩
theorem Zxu(F:Fun K "draw" "Whole.draw" Zai f fd)(D_draw_whole:DefOk P w K mg base 4 "draw_whole" ["source"] (spDrawWhole C)):FnOk P w K mg base CX0 5 f fd ["self","source"] (spDr has ff fw c C n (.b 2)):=by
 refine F.okK Zlf (fun vs H Q E h=>?_) (fun cdv A outer s H vs Q E hr h=>?_)
 ·obtain⟨_,_,_,_,_,_,_,_,_,_,rfl,_⟩:=h;rfl
 obtain⟨o,p,dx,fm,d,l,j,t,e,X,rfl,hs,hF,hok,hht,hS,hl,hj,hpX,hX,hf,hr',q⟩:=h
 have:=Yq hs
 subst this
 rw[rowB] at q hr'
 rw[fitB] at hf
 cases d with
 | int v =>
  have hf:WholeIn v:=UJ hf
  have hr':whl v <+: sees l t j:=hr'
  have M:=Mv.step (j':=j+(whl v).length) (t':=t) (e':=e) hS
  refine⟨_,(Zf (Zj (Zi D_draw_whole hr (Za (pv 1) Ze)))),?_⟩
  try dsimp only[cxK0,cxK1,cxK2,cxK3]
  refine⟨_,rfl,p,dx,l,j,v,t,e,rfl,hS,hl,hj,hf,hr',_,M.sub Zb,?_⟩
  exact q _ _ M rfl Zb
 | _=>cases hf
theorem Zra(hff:∀ d,ff d=true→∃ s,Good s∧s.length≤1000∧RowIn s∧d = .tup [.int (frac s).1,.int (frac s).2]∧fw d=frow s)(F:Fun K "draw" "Fraction.draw" Jb f fd)(D_draw_fraction:DefOk P w K mg base 5 "draw_fraction" ["source"] (spDrawFrac C)):FnOk P w K mg base CX0 6 f fd ["self","source"] (spDr has ff fw c C n (.b 3)):=by
 refine F.okK Zhh (fun vs H Q E h=>?_) (fun cdv A outer s H vs Q E hr h=>?_)
 ·obtain⟨_,_,_,_,_,_,_,_,_,_,rfl,_⟩:=h;rfl
 obtain⟨o,p,dx,fm,d,l,j,t,e,X,rfl,hs,hF,hok,hht,hS,hl,hj,hpX,hX,hf,hr',q⟩:=h
 have:=Yq hs
 subst this
 rw[rowB] at q hr'
 rw[fitB] at hf
 have hf:ff d=true:=by cases d<;>exact hf
 have er:bareRow fw 3 d=fw d:=by cases d<;>rfl
 rw[er] at q hr'
 obtain⟨s,hg,hsl,hR,rfl,ew⟩:=hff d hf
 rw[ew] at q hr'
 have M1:=Mv.step (j':=j+(frow s).length) (t':=t) (e':=e) hS
 refine⟨_,(Zf (Zj (Zi D_draw_fraction hr (Za (pv 1) Ze)))),?_⟩
 try dsimp only[cxK0,cxK1,cxK2,cxK3]
 refine⟨_,rfl,p,dx,l,j,s,t,e,rfl,hS,hl,hj,hg,hsl,hR,hr',fun r hr2=>?_⟩
 have hrp:r≠p:=fun z=>by rw[z,hS] at hr2;cases hr2
 have E:=Ext.tup (xs:=[.int (frac s).1,.int (frac s).2]) (show upd H p (srcO C dx l (j+(frow s).length) t e) r=none by rw[Zn hrp];exact hr2)
 have M:=M1.ext E
 have fresh:r∉X:=fun z=>by
  obtain⟨o3,e4⟩:=hX _ z
  rw[hr2] at e4;cases e4
 exact⟨_,M.sub (E.s _ _ Zb),q _ _ M ⟨r,[.int (frac s).1,.int (frac s).2],rfl,fresh,Zb,⟨.int (frac s).1,[.int (frac s).2],rfl,rfl,⟨.int (frac s).2,[],rfl,rfl,rfl⟩⟩,by simp⟩ (E.s _ _ Zb)⟩
noncomputable def sl11{α:Type}(a0 a1 a2 a3 a4 a5 a6 a7 a8 a9 a10:α):Sl→α
 | .b 0=>a0
 | .b 1=>a1
 | .b 2=>a2
 | .b _=>a3
 | .s=>a4
 | .l=>a5
 | .o 0=>a6
 | .o 1=>a7
 | .o _=>a8
 | .t 0=>a9
 | .t _=>a10
theorem Zdi{p:Sl→Prop}(h0:p (.b 0))(h1:p (.b 1))(h2:p (.b 2))(h3:p (.b 3))(h4:p .s)(h5:p .l)(h6:p (.o 0))(h7:p (.o 1))(h8:p (.o 2))(h9:p (.t 0))(h10:p (.t 1)):∀ i,p i
 | .b k=>by rcases fin4 k with rfl | rfl | rfl | rfl<;>assumption
 | .s=>h4
 | .l=>h5
 | .o k=>by rcases fin3 k with rfl | rfl | rfl<;>assumption
 | .t k=>by rcases fin2 k with rfl | rfl<;>assumption
def Mts(K:Ua)(c:FC)(m:Str)(q:Sl→Str)(st:Sl→Stmt)(ps:List Str):Prop:=∀ i,MethAt K (clS c i) m (q i) (st i) ps
theorem Xq{K:Ua}{C:Addr}{m q:Str}{st:Stmt}{ps:List Str}{k:Nat}{sp:Sp}(M:MethAt K C m q st ps)(h:∀ f fd,Fun K m q st f fd→FnOk P w K mg base CX0 k f fd ps sp):MethOk P w K mg base k C m ps sp∧Cls K C:=by
 obtain⟨f,fd,G,hb,hm⟩:=M.ex
 exact⟨⟨f,fd,h f fd G,hb,hm⟩,M.cl⟩
structure Tcl(K:Ua)(c:FC):Prop where
 tS:SpanCls K c.s
 tL:LetCls K c.l
 tO:∀ k,OneCls K (c.o k)
 tT:∀ k,TwoCls K (c.t k)
noncomputable def hasAll:Sl→Bool:=fun _=>true
noncomputable def Zru:Sl→Str:=sl11 "Nothing.fits" "Truth.fits" "Whole.fits" "Fraction.fits" "Span.fits" "Letters.fits" "Maybe.fits" "Many.fits" "Turned.fits" "Record.fits" "Choice.fits"
noncomputable def Zss:Sl→Stmt:=sl11 Jp Zaj Zah Ja Zbf Js Zal Zbh Qg Ql Qn
noncomputable def Zhl:Sl→Str:=sl11 "Nothing.written" "Truth.written" "Whole.written" "Fraction.written" "Span.written" "Letters.written" "Maybe.written" "Many.written" "Turned.written" "Record.written" "Choice.written"
noncomputable def Zhx:Sl→Stmt:=sl11 Wf Wy Wx Yx Jo Wg Wz Jr Wp Wq Ws
noncomputable def Zrv:Sl→Str:=sl11 "Nothing.draw" "Truth.draw" "Whole.draw" "Fraction.draw" "Span.draw" "Letters.draw" "Maybe.draw" "Many.draw" "Turned.draw" "Record.draw" "Choice.draw"
noncomputable def Zst:Sl→Stmt:=sl11 Jq Zak Zai Jb Zbg Jt Zam Zbi Qh Qm Qo
theorem Zvs(nb:NB mg)(L:Tcl K c)(S:Mts K c "fits" Zru Zss ["self","value"])(g_MOST_VALUES:GlobV mg "MOST_VALUES" (.int 60))(g_LONGEST_TEXT:GlobV mg "LONGEST_TEXT" (.int 200))(D_is_number:DefOk P w K mg base 1 "is_number" ["value"] spIsNum)(D_has_whole_row:DefOk P w K mg base 2 "has_whole_row" ["n"] spHasWholeD)(D_made_of:DefOk P w K mg base 1 "made_of" ["text","signs"] spMadeOf)(D_has_fraction_row:DefOk P w K mg base 3 "has_fraction_row" ["fraction"] spHasRow):∀ n,AnyM P w K mg base (2*n+4) "fits" ["self","value"] (clS c) (spFitT hasAll Zv c n):=by
 intro n
 induction n with
 | zero=>exact fun i=>⟨Zht (S i) (fun vs H Q E z=>by obtain⟨o,f,_,_,_,_,_,_,h,_⟩:=z;have:=Zfr f;omega),(S i).cl⟩
 | succ n ih=>exact Zdi (Xq (S _) fun _ _ G=>(Zsm G).mono (by omega)) (Xq (S _) fun _ _ G=>(Zxl G).mono (by omega)) (Xq (S _) fun _ _ G=>(Zxk G D_is_number D_has_whole_row).mono (by omega)) (Xq (S _) fun _ _ G=>(Zqw nb G D_is_number D_has_fraction_row).mono (by omega)) (Xq (S _) fun _ _ G=>(Xah L.tS G D_is_number).mono (by omega)) (Xq (S _) fun _ _ G=>(Zsn nb g_LONGEST_TEXT L.tL G D_made_of).mono (by omega)) (Xq (S _) fun _ _ G=>(Zxm nb (L.tO 0) G ih).mono (by omega)) (Xq (S _) fun _ _ G=>(Xai nb g_MOST_VALUES (L.tO 1) G ih).mono (by omega)) (Xq (S _) fun _ _ G=>(Zuz (L.tO 2) G ih).mono (by omega)) (Xq (S _) fun _ _ G=>(Zva nb (L.tT 0) G ih).mono (by omega)) (Xq (S _) fun _ _ G=>(Zvb nb (L.tT 1) G ih).mono (by omega))
theorem Zrj(nb:NB mg)(L:Tcl K c)(S:Mts K c "written" Zhl Zhx ["self","value"])(M_places:MethOk P w K mg base 1 c.l "places" ["self","text"] (spPlaces c.l))(D_whole_row:DefOk P w K mg base 3 "whole_row" ["n"] Zcj)(D_fixed_row:DefOk P w K mg base 2 "fixed_row" ["n","most"] spFixedRow)(D_turned_row:DefOk P w K mg base 1 "turned_row" ["row"] Qs)(D_steps_of:DefOk P w K mg base 1 "steps_of" ["fraction"] spStepsOf)(D_row_of_steps:DefOk P w K mg base 4 "row_of_steps" ["steps"] spRowOf):∀ n,AnyM P w K mg base (2*n+4) "written" ["self","value"] (clS c) (spWr hasAll Zv Xk c n):=by
 intro n
 induction n with
 | zero=>exact fun i=>⟨Zht (S i) (fun vs H Q E z=>by obtain⟨o,f,_,_,_,_,_,_,h,_⟩:=z;have:=Zfr f;omega),(S i).cl⟩
 | succ n ih=>exact Zdi (Xq (S _) fun _ _ G=>(Zfm G).mono (by omega)) (Xq (S _) fun _ _ G=>(Zhq G).mono (by omega)) (Xq (S _) fun _ _ G=>(Zgh G D_whole_row).mono (by omega)) (Xq (S _) fun _ _ G=>(Zeu G D_steps_of D_row_of_steps).mono (by omega)) (Xq (S _) fun _ _ G=>(Zhr L.tS G D_fixed_row).mono (by omega)) (Xq (S _) fun _ _ G=>(Zfn nb L.tL G (S .l).cl M_places D_fixed_row).mono (by omega)) (Xq (S _) fun _ _ G=>(Zhs nb (L.tO 0) G ih).mono (by omega)) (Xq (S _) fun _ _ G=>(Ziy nb (L.tO 1) G ih).mono (by omega)) (Xq (S _) fun _ _ G=>(Zgi (L.tO 2) G D_turned_row ih).mono (by omega)) (Xq (S _) fun _ _ G=>(Zgj nb (L.tT 0) G ih).mono (by omega)) (Xq (S _) fun _ _ G=>(Zgl nb (L.tT 1) G D_fixed_row ih).mono (by omega))
theorem Zyj{C:Addr}(nb:NB mg)(L:Tcl K c)(S:Mts K c "draw" Zrv Zst ["self","source"])(c_C:Cls K C)(g_MOST_VALUES:GlobV mg "MOST_VALUES" (.int 60))(g_LONGEST_TEXT:GlobV mg "LONGEST_TEXT" (.int 200))(M_draw:MethOk P w K mg base 1 C "draw" ["self"] (spDraw C))(M_turn:MethOk P w K mg base 1 C "turn" ["self"] (spTurn C))(M_refuse:MethOk P w K mg base 1 C "refuse" ["self"] spNo)(D_draw_fixed:DefOk P w K mg base 2 "draw_fixed" ["source","most"] (spDrawFixed C))(D_draw_whole:DefOk P w K mg base 4 "draw_whole" ["source"] (spDrawWhole C))(D_draw_fraction:DefOk P w K mg base 5 "draw_fraction" ["source"] (spDrawFrac C)):∀ n,AnyM P w K mg base (2*n+4) "draw" ["self","source"] (clS c) (spDr hasAll Zv Xk c C n):=by
 intro n
 induction n with
 | zero=>exact fun i=>⟨Zht (S i) (fun vs H Q E z=>by obtain⟨o,_,_,f,_,_,_,_,_,_,_,_,_,_,h,_⟩:=z;have:=Zfr f;omega),(S i).cl⟩
 | succ n ih=>exact Zdi (Xq (S _) fun _ _ G=>(Zsq G).mono (by omega)) (Xq (S _) fun _ _ G=>(Zxv c_C G M_draw).mono (by omega)) (Xq (S _) fun _ _ G=>(Zxu G D_draw_whole).mono (by omega)) (Xq (S _) fun _ _ G=>(Zra (fun _ h=>Zec h) G D_draw_fraction).mono (by omega)) (Xq (S _) fun _ _ G=>(Xao L.tS G D_draw_fixed).mono (by omega)) (Xq (S _) fun _ _ G=>(Zsr nb g_LONGEST_TEXT c_C L.tL G M_draw M_refuse D_draw_fixed).mono (by omega)) (Xq (S _) fun _ _ G=>(Zxw c_C (L.tO 0) G M_draw ih).mono (by omega)) (Xq (S _) fun _ _ G=>(Xap nb g_MOST_VALUES c_C (L.tO 1) G M_draw M_refuse ih).mono (by omega)) (Xq (S _) fun _ _ G=>(Zvk c_C (L.tO 2) G M_turn ih).mono (by omega)) (Xq (S _) fun _ _ G=>(Zvl nb (L.tT 0) G ih).mono (by omega)) (Xq (S _) fun _ _ G=>(Zvm nb (L.tT 1) G D_draw_fixed ih).mono (by omega))
def spRowA(has:Sl→Bool)(ff:D→Bool)(fw:D→List Bool)(c:FC)(n:Nat):Sp:=fun vs H Q E=>∃ i,spWr has ff fw c n i vs H Q E
theorem Zon(F:Fun K "row" "Form.row" Xw f fd)(AM_fits:AnyM P w K mg base (2*n+4) "fits" ["self","value"] (clS c) (spFitT has ff c n))(AM_written:AnyM P w K mg base (2*n+4) "written" ["self","value"] (clS c) (spWr has ff fw c n)):FnOk P w K mg base CX0 (2*n+4+1) f fd ["self","value"] (spRowA has ff fw c n):=by
 refine F.okK Zpr (fun vs H Q E h=>?_) (fun cdv A outer s H vs Q E hr h=>?_)
 ·obtain⟨_,_,_,_,_,rfl,_⟩:=h;rfl
 obtain⟨sl,o,fm,v,d,rfl,hs,hF,hok,hht,hd,hf,hl,q⟩:=h
 obtain⟨dxi,fsi,ei,li⟩:=FAt.fits fm hF
 obtain⟨dxj,fsj,ej,lj⟩:=FAt.written fm hF
 refine⟨_,(Zc (Zz (Yt (Xm (Xn AM_fits hr (pv 0) (Za (pv 1) Ze) (hk:=by omega)) (fun _=>rfl))) (Zf Yv) Zo)
  (Zf (Zj (Xn AM_written hr (pv 0) (Za (pv 1) Ze) (hk:=by omega))))),?_⟩
 try dsimp only[cxK0,cxK1,cxK2,cxK3]
 refine⟨_,rfl,o,slot fm,dxi,fsi,rfl,ei,li,_,rfl,o,fm,v,d,rfl,rfl,hF,hok,hht,hd,hf,true,rfl,?_⟩
 refine iteF ⟨_,rfl,o,slot fm,dxj,fsj,rfl,ej,lj,_,rfl,o,fm,v,d,rfl,rfl,hF,hok,hht,hd,hf,hl,H,.refl (Vy _),q⟩
theorem FAt.row{c:FC}{X:List Addr}{H:Hp}(f:Fm){o:Addr}(h:FAt c X H f o):∃ dx fs,H o=some (.ins (clS c (slot f)) dx fs)∧fs.lookup (Str.ofString "row")=none :=
 FAt.ins (m:=Str.ofString "row") (by decide +kernel) (by decide +kernel) (by decide +kernel) (by decide +kernel) (by decide +kernel) (by decide +kernel) f h
theorem Xau(S:Mts K c "row" (fun _=>"Form.row") (fun _=>Xw) ["self","value"])(AM_fits:AnyM P w K mg base (2*n+4) "fits" ["self","value"] (clS c) (spFitT has ff c n))(AM_written:AnyM P w K mg base (2*n+4) "written" ["self","value"] (clS c) (spWr has ff fw c n)):AnyM P w K mg base (2*n+5) "row" ["self","value"] (clS c) (fun _=>spRowA has ff fw c n):=fun i=>Xq (S i) fun _ _ G=>Zon G AM_fits AM_written
theorem Mv.new{p:Addr}{H H1 H2:Hp}(x:Ext H H1)(h0:H p=none)(m:Mv p H1 H2):Ext H H2:=⟨fun b u e=>m.k b u (fun z=>by rw[z,h0] at e;cases e) (x.s b u e),fun cl=>m.c (x.c cl)⟩
theorem useT{p:TS→Prop}{D:Ends}{σ:St}{H:Hp}(T:TS)(h:p T)(g:∀ (G:Prop) (σ':St),σ'=σ→(T D σ' H→G)→G):∃ T,p T∧T D σ H:=g _ σ rfl fun k=>⟨T,h,k⟩
theorem setW{K':Ua}{i j:Nat}{R:TS}{D:Ends}{σ:St}{H:Hp}{T:Addr}{w:V}{r:List V}(hx:σ[i]?=some (some (.ref T)))(e:H T=some (.tup (w::r)))(h:R D (σ.set j (some w)) H):tSeq (tAsg (tOp (fun x y H Q=>(rIxL K' x y H Q∨rIxT K' x y H Q)∨rIxS x y H Q) (tVar i) (tC (.int 0))) (gName j)) R D σ H:=⟨_,hx,.inl (.inr ⟨_,_,_,_,rfl,rfl,Uz e,Zx (j:=0) rfl,h⟩)⟩
theorem Xr{i:Nat}{w x:Str}{S R:TS}{D:Ends}{σ:St}{H:Hp}(hx:σ[i]?=some (some (.str x)))(hn:¬V.str x=V.str w)(h:R D σ H):tSeq (tIfS (tTest (tOp rEq (tVar i) (tC (.str w)))) S tNext) R D σ H:=⟨_,hx,rfl,_,rfl,iteN hn h⟩
theorem Wh{i:Nat}{w:Str}{S R:TS}{D:Ends}{σ:St}{H:Hp}(hx:σ[i]?=some (some (.str w)))(h:∀ N:St→Hp→Prop,S {D with nx:=N} σ H):tSeq (tIfS (tTest (tOp rEq (tVar i) (tC (.str w)))) S tNext) R D σ H:=⟨_,hx,rfl,_,rfl,iteY rfl (h _)⟩
theorem takeN{i:Nat}{w:Str}{S R:TS}{D:Ends}{σ:St}{H:Hp}(hx:σ[i]?=some (some (.str w)))(h:∀ N:St→Hp→Prop,(∀ σ H,R D σ H→N σ H)→S {D with nx:=N} σ H):tSeq (tIfS (tTest (tOp rEq (tVar i) (tC (.str w)))) S tNext) R D σ H:=⟨_,hx,rfl,_,rfl,iteY rfl (h _ fun _ _ z=>z)⟩
theorem takeO{i:Nat}{w w' x:Str}{S R:TS}{D:Ends}{σ:St}{H:Hp}(hx:σ[i]?=some (some (.str x)))(hw:x=w∨x=w')(h:∀ N:St→Hp→Prop,S {D with nx:=N} σ H):tSeq (tIfS (tOr (tTest (tOp rEq (tVar i) (tC (.str w)))) (tTest (tOp rEq (tVar i) (tC (.str w'))))) S tNext) R D σ H:=by
 by_cases z:x=w
 ·subst z;exact⟨_,hx,rfl,_,rfl,iteY rfl (h _)⟩
 ·obtain rfl:=hw.resolve_left z
  exact⟨_,hx,rfl,_,rfl,iteN (fun e=>z (V.str.inj e)) ⟨_,hx,rfl,_,rfl,iteY rfl (h _)⟩⟩
theorem skipW2{i:Nat}{w w' x:Str}{S R:TS}{D:Ends}{σ:St}{H:Hp}(hx:σ[i]?=some (some (.str x)))(hn:¬V.str x=V.str w)(hn':¬V.str x=V.str w')(h:R D σ H):tSeq (tIfS (tOr (tTest (tOp rEq (tVar i) (tC (.str w)))) (tTest (tOp rEq (tVar i) (tC (.str w'))))) S tNext) R D σ H:=⟨_,hx,rfl,_,rfl,iteN hn ⟨_,hx,rfl,_,rfl,iteN hn' h⟩⟩
theorem seqN{S R:TS}{D:Ends}{σ:St}{H:Hp}(h:∀ N:St→Hp→Prop,(∀ σ H,R D σ H→N σ H)→S {D with nx:=N} σ H):tSeq S R D σ H:=h _ fun _ _ z=>z
def spNear:Sp:=fun vs H Q _=>∃ c:Int,vs=[.int c]∧∀ n:Nat,n+1<2 ^ 255→Q (.int n) H
theorem Zwa(c:Int)(h0:c%5≠0)(h1:c%5≠1):∃ M:Int,atI [V.int 5,V.int 40,V.int 1000] (c%5 - 2)=some (.int M)∧0<M∧M≤1000:=by
 have h:c%5 - 2=((0:Nat):Int)∨c%5 - 2=((1:Nat):Int)∨c%5 - 2=((2:Nat):Int):=by omega
 rcases h with h | h | h<;>rw[h]
 ·exact⟨_,Zx rfl,by decide,by decide⟩
 ·exact⟨_,Zx rfl,by decide,by decide⟩
 ·exact⟨_,Zx rfl,by decide,by decide⟩
theorem Xbm{x:Int}(h:0≤x):∃ n:Nat,x=n:=⟨x.toNat,by omega⟩
theorem Xbc(r:Int)(h:0≤r):(2:Int)≤1*2 ^ (1+r).toNat:=by
 have e:(1+r).toNat=r.toNat+1:=by omega
 rw[e,Int.one_mul,Int.pow_succ]
 have:(0:Int)<2 ^ r.toNat:=Int.pow_pos (by decide)
 omega
theorem e255:(1:Int)*2 ^ (255:Int).toNat=2 ^ 255:=by decide
theorem Zqg(nb:NB mg)(F:FunAt K mg "_law_near" Zfh ["_law_cell"] f fd):DefOk P w K mg base 1 "_law_near" ["_law_cell"] spNear:=by
 refine F.ok Zid (fun vs H Q E h=>?_) (fun cdv A outer s H vs Q E hr h=>?_)
 ·obtain⟨c,rfl,_⟩:=h;rfl
 obtain⟨c,rfl,q⟩:=h
 refine⟨_,(Zc (Zp (i:=1) Zid.nd rfl (by exact Or.inl rfl) (Zh Xu (pv 0) Zd))
  (Zc (Zz (Zl oEq (Zh Xc (pv 0) Zd) Zd (Zk _)) (Zf (Zj (Zh Xc (pv 1) (Zh oSub (Zh Zry Zd Zd) Zd)))) Zo)
  (Zc (Zz (Zl oEq (Zh Xc (pv 0) Zd) Zd (Zk _)) (Zf (Zj (Zm (Zep rfl) rfl nb.min_ Zoy (Za (Zh oAdd (Zh oSub (Zh Zry Zd (Zh oAdd Zd (Zh Xc (pv 1) Zd))) Zd) (Zh Xc (Zh Xu (pv 1) Zd) Zd)) (Za (Zh oSub (Zh Zry Zd Zd) Zd) Ze))))) Zo)
  (Zf (Zj (Zh Xc (pv 1) (Zs iAll (Yp (Za Zd (Za Zd (Za Zd Ze)))) (Zh oSub (Zh Xc (pv 0) Zd) Zd) (fun _ _=>rfl)))))))),?_⟩
 try dsimp only[cxK0,cxK1,cxK2,cxK3]
 have fin:∀ (x:Int) (H':Hp),0≤x→x+1<2 ^ 255→Same H H'→∃ H'',L2.Sub H H'' H'∧Q (.int x) H'':=fun x H' h0 h1 hs=>by
  obtain⟨n,rfl⟩:=Xbm h0
  exact⟨H,.refl hs,q n (by omega)⟩
 refine⟨_,rfl,_,_,rfl,rfl,⟨by decide,by decide⟩,?_⟩
 refine⟨_,rfl,_,_,rfl,rfl,(by show (0:Int)<5;decide),rfl,_,rfl,?_⟩
 refine iteD (fun a=>?_) (fun a=>?_)
 ·refine⟨_,rfl,_,_,rfl,rfl,⟨by decide,by decide,by decide⟩,_,_,rfl,rfl,_,_,rfl,rfl,?_⟩
  rw[e255]
  have p:(0:Int)<2 ^ 255 - 1:=by decide
  refine⟨p,fin _ _ (UO _ (by decide)) ?_ (Vy _)⟩
  have:=UK (c/5) p
  omega
 ·refine⟨_,rfl,_,_,rfl,rfl,(by show (0:Int)<5;decide),rfl,_,rfl,?_⟩
  refine iteD (fun b=>?_) (fun b=>?_)
  ·refine⟨_,rfl,_,_,rfl,rfl,(by show (0:Int)<255;decide),.inl ⟨_,_,rfl,rfl,?_⟩⟩
   have r0:=UO (c/5) (show (255:Int)≠0 by decide)
   have r1:=UK (c/5) (show (0:Int)<255 by decide)
   refine⟨_,_,rfl,rfl,⟨by omega,by omega,by decide⟩,_,_,rfl,rfl,?_⟩
   refine⟨_,rfl,_,_,rfl,rfl,⟨by decide,by decide⟩,_,_,rfl,rfl,(by show (0:Int)<3;decide),.inl ⟨_,_,rfl,rfl,?_⟩⟩
   refine⟨_,_,rfl,rfl,⟨by decide,by decide,by decide⟩,_,_,rfl,rfl,_,_,rfl,?_⟩
   have g:=Xbc (c/5%255) r0
   have s0:=UO (c/5/255) (show (3:Int)≠0 by decide)
   dsimp only
   rw[e255]
   have big:(2:Int)≤2 ^ 255:=by decide
   refine fin _ _ ?_ ?_ (Vy _)
   ·split<;>omega
   ·split<;>omega
  ·obtain⟨M,hM,M0,M1⟩:=Zwa c (fun z=>a (congrArg V.int z)) (fun z=>b (congrArg V.int z))
   refine⟨_,rfl,(by show 3≤sizeLine;decide),fun r hr'=>⟨_,rfl,_,_,rfl,rfl,(by show (0:Int)<5;decide),_,_,rfl,rfl,.inl (.inl ⟨_,_,_,_,rfl,rfl,Uy Zb,hM,_,_,rfl,rfl,M0,?_⟩)⟩⟩
   have m0:=UO (c/5) (Int.ne_of_gt M0)
   have m1:=UK (c/5) M0
   have big:(2:Int)+1000≤2 ^ 255:=by decide
   exact fin _ _ m0 (by omega) (Zq hr')
def spSigned:Sp:=fun vs H Q _=>∃ c:Int,vs=[.int c]∧∀ n:Int,WholeIn n→Q (.int n) H
theorem Zlo(F:FunAt K mg "_law_signed" Zco ["_law_cell"] f fd)(D_law_near:DefOk P w K mg base 1 "_law_near" ["_law_cell"] spNear):DefOk P w K mg base 2 "_law_signed" ["_law_cell"] spSigned:=by
 refine F.ok Zld (fun vs H Q E h=>?_) (fun cdv A outer s H vs Q E hr h=>?_)
 ·obtain⟨c,rfl,_⟩:=h;rfl
 obtain⟨c,rfl,q⟩:=h
 refine⟨_,(Zc (Zz (Zl oEq (Zh Xc (pv 0) Zd) Zd (Zk _)) (Zf (Zj (Zh oSub (Zbk Jk Zd) (Zi D_law_near hr (Za (Zh Xu (pv 0) Zd) Ze))))) Zo)
  (Zf (Zj (Zi D_law_near hr (Za (Zh Xu (pv 0) Zd) Ze))))),?_⟩
 try dsimp only[cxK0,cxK1,cxK2,cxK3]
 refine⟨_,rfl,_,_,rfl,rfl,(by show (0:Int)<2;decide),rfl,_,rfl,?_⟩
 refine iteD (fun a=>?_) (fun a=>?_)
 ·refine⟨_,rfl,_,rfl,_,_,rfl,rfl,⟨by decide,by decide⟩,_,rfl,fun n hn=>⟨_,_,rfl,rfl,H,.refl (Vy _),q _ ⟨?_,?_⟩⟩⟩<;>omega
 ·refine⟨_,rfl,_,_,rfl,rfl,⟨by decide,by decide⟩,_,rfl,fun n hn=>⟨H,.refl (Vy _),q _ ⟨?_,?_⟩⟩⟩<;>omega
theorem Zbb{α:Type}(f:α→V)(xs:List α)(c m:Int)(hm:m=xs.length)(h:0<xs.length):∃ n,n∈xs∧atI (xs.map f) (c%m)=some (f n):=by
 subst hm
 have h1:=UO c (b:=(xs.length:Int)) (by omega)
 have h2:=UK c (b:=(xs.length:Int)) (by omega)
 obtain⟨k,hk⟩:=Int.eq_ofNat_of_zero_le h1
 rw[hk]
 have hk2:k<xs.length:=by omega
 exact⟨xs[k],List.getElem_mem hk2,Zx (by rw[Ur,Ui hk2];rfl)⟩
theorem Wa(c:Int)(n:Nat)(h:0<n):∃ k:Nat,k<n∧c%((n:Nat):Int)=((k:Nat):Int):=by
 have h1:=UO c (b:=(n:Int)) (by omega)
 have h2:=UK c (b:=(n:Int)) (by omega)
 obtain⟨k,hk⟩:=Int.eq_ofNat_of_zero_le h1
 exact⟨k,by omega,hk⟩
def spPool(K:Ua):Sp:=fun vs H Q _=>∃ (a:Addr) (ns:List Int),vs=[.ref a]∧SqL K H a (ns.map V.int)∧ns.length≤63∧∀ (p:Addr) (ms:List Int),H p=none→ms.length≤90→Q (.ref p) (upd H p (.lst (ms.map V.int)))
theorem Zqf(nb:NB mg)(F:FunAt K mg "_law_pool" Zff ["_law_script"] f fd):DefOk P w K mg base 1 "_law_pool" ["_law_script"] (spPool K):=by
 refine F.ok Wj (fun vs H Q E h=>?_) (fun cdv A outer s H vs Q E hr h=>?_)
 ·obtain⟨_,_,rfl,_⟩:=h;rfl
 obtain⟨a,ns,rfl,hS,hl,q⟩:=h
 refine⟨_,(Zc (Zp (i:=1) Wj.nd rfl (by exact Or.inl rfl) (Yp Ze))
  (Zc (Jg PassesOwn.never rfl (Yk rfl nb.range_ (Za (Zh oMul Zd (Zm (Zep rfl) rfl nb.min_ Zoy (Za Zd (Za (Zm Zt rfl nb.len_ Xg (Za (pv 0) Ze)) Ze)))) Ze)) (Zy (i:=2) Wj.nd rfl (by exact Or.inl rfl))
   (Zc (Zp (i:=3) Wj.nd rfl (by exact Or.inl rfl) (Zh oAdd (Zs iAll (pv 0) (Zh Xc (pv 2) (Zm (Zep rfl) rfl nb.min_ Zoy (Za Zd (Za (Zm Zt rfl nb.len_ Xg (Za (pv 0) Ze)) Ze)))) (fun _ _=>rfl)) (Zh oMul (Zh Xu (pv 2) (Zm Zt rfl nb.len_ Xg (Za (pv 0) Ze))) (Zh oAdd (Zh oMul (Zh oMul (pv 2) (pv 2)) Zd) Zd))))
   (Zc (Zz (Zl oEq (Zh Xc (Zh Xu (Zs iAll (pv 0) Zd (fun _ _=>rfl)) Zd) Zd) Zd (Zk _)) (Zc (Zp (i:=3) Wj.nd rfl (by exact Or.inl rfl) (Zh Xc (Zh oAdd (Zh oAdd (Zh oMul (pv 3) Zd) (Zh oMul (pv 2) Zd)) Zd) Zd))
    (Zc (Zp (i:=3) Wj.nd rfl (by exact Or.inl rfl) (Zh Xc (Zh oMul (pv 3) (pv 3)) Zd))
    (Zf (Zp (i:=3) Wj.nd rfl (by exact Or.inl rfl) (Zh oAdd (Zh oMul (pv 3) Zd) (Zh Xc (Zh oMul (pv 3) (pv 3)) Zd)))))) Zo)
   (Zf (Yj (Wb PySem.F.plainAttrs_list PySem.F.slot_list_append PySem.F.type_list_append Ji (pv 1) (Za (pv 3) Ze)))))))
  (Zf (Zj (pv 1))))),?_⟩
 try dsimp only[cxK0,cxK1,cxK2,cxK3]
 refine⟨UF _,fun p hp=>?_⟩
 have s0:=Zq (o:=HO.lst []) hp
 refine⟨_,rfl,_,_,rfl,.inl ⟨_,s0.seq hS,rfl⟩,_,_,rfl,.inl ⟨_,_,rfl,rfl,.inl ⟨by decide,by decide⟩,?_⟩⟩
 rw[Uj]
 refine⟨_,rfl,?_,?_,?_⟩
 ·split<;>omega
 ·split<;>omega
 have en:(90*(if ((ns.length:Nat):Int)<1 then ((ns.length:Nat):Int) else 1)).toNat=if ns.length=0 then 0 else 90:=by split<;>split<;>omega
 rw[en]
 refine Wd (fun i σ H2=>∃ (ms:List Int) (z1 z2:Option V),σ=[some (.ref a),some (.ref p),z1,z2]∧ms.length=i∧H2=upd H p (.lst (ms.map V.int))) ?_ ?_ ?_
 ·exact⟨[],none,none,rfl,rfl,rfl⟩
 ·rintro i σ H2 hi ⟨ms,z1,z2,rfl,hm,rfl⟩
  have hn0:ns.length≠0:=fun z=>by rw[if_pos z] at hi;omega
  rw[if_neg hn0] at hi
  have hs:=(Zq (o:=HO.lst (ms.map V.int)) hp).seq hS
  obtain⟨k,hk,ek⟩:=Wa (0+((i:Nat):Int)) (min 63 ns.length) (by omega)
  have hk2:k<ns.length:=by omega
  have hat:atI (ns.map V.int) ((k:Nat):Int)=some (.int ns[k]):=Zx (by rw[Ur,Ui hk2];rfl)
  have hat0:atI (ns.map V.int) 0=some (.int ns[0]):=Zx (j:=0) (by rw[Ur,Ui (by omega)];rfl)
  have em:(if (((ns.map V.int).length:Nat):Int)<63 then (((ns.map V.int).length:Nat):Int) else 63)=((min 63 ns.length:Nat):Int):=by rw[Uj];split<;>omega
  have d1:=Int.ediv_nonneg (a:=0+((i:Nat):Int)) (b:=(((ns.map V.int).length:Nat):Int)) (by omega) (by omega)
  have d2:=Int.ediv_le_self (a:=0+((i:Nat):Int)) (((ns.map V.int).length:Nat):Int) (by omega)
  have lm:(((ns.map V.int).length:Nat):Int)=((ns.length:Nat):Int):=by rw[Uj]
  refine⟨_,rfl,_,rfl,_,rfl,_,_,rfl,.inl ⟨_,hs,rfl⟩,_,_,rfl,_,_,rfl,rfl,(by rw[em];omega),.inl (.inl ⟨_,_,_,_,rfl,rfl,hs,(by rw[em,ek];exact hat),?_⟩)⟩
  refine⟨_,rfl,_,rfl,_,_,rfl,.inl ⟨_,hs,rfl⟩,_,_,rfl,rfl,⟨by omega,by omega⟩,?_⟩
  refine⟨_,rfl,_,rfl,.inl ⟨_,_,rfl,rfl,.inl ⟨by omega,by omega⟩,.inl ⟨_,_,rfl,rfl,.inr ⟨by decide,by decide⟩,.inl ⟨_,_,rfl,rfl,.inl ⟨_,_,rfl,rfl,.inl ⟨by omega,by omega⟩,.inl ⟨_,_,rfl,rfl,?_⟩⟩⟩⟩⟩⟩
  have fin:∀ (n:Int) (z1:Option V),∃ (ms':List Int) (z1 z2:Option V),[some (V.ref a),some (V.ref p),some (V.int (0+((i:Nat):Int))),some (V.int n)]=[some (.ref a),some (.ref p),z1,z2]∧ms'.length=i+1∧upd (upd H p (.lst (ms.map V.int))) p (.lst (ms.map V.int++[V.int n]))=upd H p (.lst (ms'.map V.int)):=fun n z1 =>
   ⟨ms++[n],_,_,rfl,by rw[Uo,hm];rfl,by rw[Xf,UE];rfl⟩
  have hlen:(ms.map V.int).length<sizeLine:=by rw[Uj];exact UA (show ms.length<100000 by omega) (by decide)
  refine⟨_,rfl,.inl (.inl ⟨_,_,_,_,rfl,rfl,hs,hat0,_,_,rfl,rfl,⟨by decide,by decide⟩,_,_,rfl,rfl,(by show (0:Int)<2;decide),rfl,_,rfl,iteD (fun c1=>?_) (fun c1=>?_)⟩)⟩
  ·refine⟨_,rfl,.inl ⟨_,_,rfl,rfl,.inr ⟨by decide,by decide⟩,_,rfl,.inl ⟨_,_,rfl,rfl,.inr ⟨by decide,by decide⟩,.inl ⟨_,_,rfl,rfl,.inl ⟨_,_,rfl,rfl,_,_,rfl,rfl,(by show (0:Int)<2147483629;decide),?_⟩⟩⟩⟩⟩
   dsimp only
   generalize hX:((ns[k]+(0+((i:Nat):Int))/_*_)*48271+(0+((i:Nat):Int))*69621+11)=X
   have m1:=UO X (show (2147483629:Int)≠0 by decide)
   have m2:=UK X (show (0:Int)<2147483629 by decide)
   generalize X%2147483629=m at m1 m2 ⊢
   refine⟨_,rfl,_,rfl,.inl ⟨_,_,rfl,rfl,.inl ⟨by omega,by omega⟩,_,_,rfl,rfl,(by show (0:Int)<2147483587;decide),?_⟩⟩
   dsimp only
   have m3:=UO (m*m) (show (2147483587:Int)≠0 by decide)
   have m4:=UK (m*m) (show (0:Int)<2147483587 by decide)
   generalize m*m%2147483587=v at m3 m4 ⊢
   refine⟨_,rfl,.inl ⟨_,_,rfl,rfl,.inl ⟨by omega,by omega⟩,_,rfl,_,rfl,.inl ⟨_,_,rfl,rfl,.inl ⟨by omega,by omega⟩,_,_,rfl,rfl,(by show (0:Int)<2147483563;decide),.inl ⟨_,_,rfl,rfl,?_⟩⟩⟩⟩
   refine⟨_,rfl,.inl ⟨rfl,_,Uy Zb⟩,_,rfl,p,_,_,rfl,rfl,Zb,hlen,?_⟩
   exact fin _ none
  ·refine⟨_,rfl,.inl ⟨rfl,_,Uy Zb⟩,_,rfl,p,_,_,rfl,rfl,Zb,hlen,?_⟩
   exact fin _ none
 ·rintro σ H2 ⟨ms,z1,z2,rfl,hm,rfl⟩
  refine⟨_,rfl,_,.new hp (Zq hp) Zb trivial,q p ms hp ?_⟩
  split at hm<;>omega
theorem seq0{n:Nat}(h:0<n):seqIndex? 0 n=some 0:=by
 obtain⟨j,h1,h2,_⟩:=Zji (xs:=List.range n) (i:=0) (v:=0) (Zx (j:=0) (by rw[List.getElem?_range h]))
 rw[Vb] at h1
 rw[Uw] at h2
 obtain⟨_,z⟩:=h2
 rw[List.getElem_range] at z
 rw[h1,z]
def spNext:Sp:=fun vs H Q _=>∃ p,vs=[.ref p]∧Pool p H∧∀ (c:Int) (ns:List Int),ns.length≤90→Q (.int c) (upd H p (.lst (ns.map V.int)))
noncomputable def pl(H:Hp)(p:Addr):Nat:=match H p with | some (.lst vs)=>vs.length | _=>0
theorem Zme{H:Hp}{p:Addr}{vs:List V}(h:H p=some (.lst vs)):pl H p=vs.length:=by unfold pl;rw[h]
def spNextP:Sp:=fun vs H Q _=>∃ p,vs=[.ref p]∧Pool p H∧∀ (c:Int) (ns:List Int),ns.length≤90→(pl H p=ns.length+1∨pl H p=0∧ns=[]∧c=0)→Q (.int c) (upd H p (.lst (ns.map V.int)))
theorem Zoi(nb:NB mg)(F:FunAt K mg "_law_next" Zfg ["_law_pool_here"] f fd):DefOk P w K mg base 1 "_law_next" ["_law_pool_here"] spNextP:=by
 refine F.ok Zpo (fun vs H Q E h=>?_) (fun cdv A outer s H vs Q E hr h=>?_)
 ·obtain⟨_,rfl,_⟩:=h;rfl
 obtain⟨p,rfl,⟨ns,hp,hl⟩,q⟩:=h
 have hm:=Zme hp
 rw[Uj] at hm
 refine⟨_,(Zc (Zz (Zl oEq (Zm Zt rfl nb.len_ Xg (Za (pv 0) Ze)) Zd (Zk _)) (Zf (Zj Zd)) Zo)
  (Zf (Zj (Wb PySem.F.plainAttrs_list PySem.F.slot_list_pop PySem.F.type_list_pop Zwz (pv 0) (Za Zd Ze))))),?_⟩
 try dsimp only[cxK0,cxK1,cxK2,cxK3]
 refine⟨_,rfl,_,_,rfl,.inl ⟨_,Uy hp,rfl⟩,rfl,_,rfl,?_⟩
 rw[Uj]
 cases ns with
 | nil =>
  refine iteY rfl ?_
  have h0:=q 0 [] hl (.inr ⟨hm,rfl,rfl⟩)
  rw[Zeg hp] at h0
  exact⟨H,.refl (Vy _),h0⟩
 | cons c r =>
  refine iteN (fun z=>nomatch z) ?_
  refine⟨_,rfl,.inl ⟨rfl,_,Uy hp⟩,p,_,0,0,.int c,rfl,rfl,hp,by decide,by decide,seq0 (by rw[Uj];exact Nat.succ_pos _),rfl,?_⟩
  have hl':r.length≤90:=UC (Nat.le_succ _) hl
  exact⟨_,(Grow.pop ⟨_,hp,hl⟩ hl').sub,q c r hl' (.inl hm)⟩
theorem DefOk.less{k:Nat}{x:Str}{ps:List Str}{sp sp':Sp}(h:DefOk P w K mg base k x ps sp)(i:∀ vs H Q E,sp' vs H Q E→sp vs H Q E):DefOk P w K mg base k x ps sp':=by
 obtain⟨f,fd,F,r⟩:=h
 exact⟨f,fd,⟨fun vs H Q E q=>F.1 vs H Q E (i _ _ _ _ q),fun A outer s H args us vs Q E a b c d q=>F.2 A outer s H args us vs Q E a b c d (i _ _ _ _ q)⟩,r⟩
theorem Zup{vs:List V}{H:Hp}{Q:VK}{E:XK}(h:spNext vs H Q E):spNextP vs H Q E:=by
 obtain⟨p,e,hP,q⟩:=h
 exact⟨p,e,hP,fun c ns hn _=>q c ns hn⟩
def spSigns:Sp:=fun vs H Q _=>∃ c:Int,vs=[.int c]∧∀ s:Str,goodText s=true→s.length≤60→Q (.str s) H
theorem Zoh(nb:NB mg)(F:FunAt K mg "_law_signs" Zdo ["_law_cell"] f fd):DefOk P w K mg base 1 "_law_signs" ["_law_cell"] spSigns:=by
 refine F.ok Yf (fun vs H Q E h=>?_) (fun cdv A outer s H vs Q E hr h=>?_)
 ·obtain⟨_,rfl,_⟩:=h;rfl
 obtain⟨c,rfl,q⟩:=h
 refine⟨_,(Zc (Zp (i:=1) Yf.nd rfl (by exact Or.inl rfl) Zu)
  (Zc (Zp (i:=2) Yf.nd rfl (by exact Or.inl rfl) (Zh oAdd Zd (Zh Xc (pv 0) (Zs iAll (Yp (Za Zd (Za Zd (Za Zd (Za Zd Ze))))) (Zh Xc (Zh Xu (pv 0) Zd) Zd) (fun _ _=>rfl)))))
  (Zc (Zp (i:=3) Yf.nd rfl (by exact Or.inl rfl) (Zh Xu (pv 0) Zd))
  (Zc (Zp (i:=4) Yf.nd rfl (by exact Or.inl rfl) Zu)
  (Zc (Jg PassesOwn.never rfl (Yk rfl nb.range_ (Za (pv 2) Ze)) (Zy (i:=5) Yf.nd rfl (by exact Or.inl rfl))
   (Zc (Zp (i:=6) Yf.nd rfl (by exact Or.inl rfl) (Zh Xc (pv 3) (Zm Zt rfl nb.len_ Xg (Za (pv 1) Ze))))
   (Zc (Zp (i:=3) Yf.nd rfl (by exact Or.inl rfl) (Zh Xu (pv 3) (Zm Zt rfl nb.len_ Xg (Za (pv 1) Ze))))
   (Zc (Zp (i:=4) Yf.nd rfl (by exact Or.inl rfl) (Zh oAdd (pv 4) (Zs iAll (pv 1) (pv 6) (fun _ _=>rfl))))
   (Zf (Zp (i:=1) Yf.nd rfl (by exact Or.inl rfl) (Zh oAdd (Zax slAll (pv 1) Zcy (Zcx (pv 6))) (Zax slAll (pv 1) (Zcx (Zh oAdd (pv 6) Zd)) Zcy))))))))
  (Zf (Zj (pv 4)))))))),?_⟩
 try dsimp only[cxK0,cxK1,cxK2,cxK3]
 refine⟨_,rfl,(by show 4≤sizeLine;decide),fun g hg=>?_⟩
 obtain⟨x,hx,hx1⟩:=Zbb V.int [2,3,7,60] (c/60) 4 rfl (by show 0<4;decide)
 have hxb:0<x∧x≤60:=by
  have:∀ y∈([2,3,7,60]:List Int),0<y∧y≤60:=by decide
  exact this x hx
 refine⟨_,rfl,_,_,rfl,rfl,⟨by decide,by decide⟩,_,_,rfl,rfl,(by show (0:Int)<4;decide),.inl (.inl ⟨_,_,_,_,rfl,rfl,Uy Zb,hx1,_,_,rfl,rfl,hxb.1,.inl ⟨_,_,rfl,rfl,?_⟩⟩)⟩
 have v0:=UO c (show x≠0 by omega)
 have v1:=UK c hxb.1
 generalize c%x=m at v0 v1 ⊢
 obtain⟨n,rfl⟩:=Int.eq_ofNat_of_zero_le v0
 refine⟨_,rfl,_,_,rfl,rfl,⟨by decide,by decide⟩,?_⟩
 refine⟨_,rfl,_,rfl,by omega,by omega,?_⟩
 have en:(1+((n:Nat):Int)).toNat=n+1:=by omega
 rw[en]
 refine Wd (fun i σ H2=>Same H H2∧∃ (rest found:Str) (num:Int) (z1 z2 z3:Option V),σ=[some (.int c),some (.str rest),z3,some (.int num),some (.str found),z1,z2]∧rest.length=62 - i∧found.length=i∧(found.cps.toList++rest.cps.toList).Perm L62.cps.toList) ?_ ?_ ?_
 ·refine⟨Zq hg,L62,Str.ofString "",c/240,none,none,_,rfl,Xav,by decide +kernel,?_⟩
  rw[show (Str.ofString "").cps.toList=[] by decide +kernel]
  exact List.Perm.refl _
 ·rintro i σ H2 hi ⟨hs,rest,found,num,z1,z2,z3,rfl,hl,hf,hp⟩
  have lr:rest.length≤sizeLine:=Xo (by omega)
  obtain⟨k,hk,ek⟩:=Wa num rest.length (by omega)
  obtain⟨sg,hat,ecut⟩:=Ztx hk
  have b1:=Zfv rest k (by omega)
  have b2:=Zdh rest (k+1) (by omega)
  refine⟨_,rfl,_,rfl,_,_,rfl,⟨lr,rfl⟩,_,_,rfl,rfl,(by omega),?_⟩
  dsimp only
  rw[ek]
  refine⟨_,rfl,_,rfl,_,_,rfl,⟨lr,rfl⟩,_,_,rfl,rfl,⟨by omega,by omega⟩,?_⟩
  refine⟨_,rfl,_,rfl,_,rfl,.inr ⟨_,_,_,rfl,rfl,lr,hat,.inr ⟨_,_,rfl,rfl,Xo (by show _+1≤_;omega),?_⟩⟩⟩
  have e1:((k:Nat):Int)+1=((k+1:Nat):Int):=by omega
  refine⟨_,rfl,_,rfl,_,rfl,.inr ⟨_,rfl,lr,_,rfl,_,rfl,.inl ⟨_,_,rfl,rfl,_,rfl,.inr ⟨_,rfl,lr,.inr ⟨_,_,rfl,rfl,?_,?_⟩⟩⟩⟩⟩
  ·rw[b1,e1,b2];exact Xo (by omega)
  ·rw[e1]
   refine⟨hs,_,_,_,_,_,_,rfl,?_,?_,?_⟩
   ·rw[Qr,b1,b2];omega
   ·rw[Qr,hf];rfl
   ·rw[Zer,Zer]
    exact(Zuj ecut).trans hp
 ·rintro σ H2 ⟨hs,rest,found,num,z1,z2,z3,rfl,hl,hf,hp⟩
  exact⟨_,rfl,H,.refl hs,q _ (Zsj hp (by omega) (by omega)) (by omega)⟩
def spNames:Sp:=fun vs H Q _=>∃ (c:Int) (m:Nat),vs=[.int c,.int ((m:Nat):Int)]∧0<m∧m≤20∧∀ (D:Addr) (ns:List Str),H D=none→ns.length=m→goodNames ns=true→Q (.ref D) (upd H D (.lst (ns.map V.str)))
theorem Zoj(nb:NB mg)(F:FunAt K mg "_law_names" Zdp ["_law_cell","_law_many"] f fd):DefOk P w K mg base 1 "_law_names" ["_law_cell","_law_many"] spNames:=by
 refine F.ok Yb (fun vs H Q E h=>?_) (fun cdv A outer s H vs Q E hr h=>?_)
 ·obtain⟨_,_,rfl,_⟩:=h;rfl
 obtain⟨c,m,rfl,hm0,hm,q⟩:=h
 refine⟨_,(Zc (Zp (i:=2) Yb.nd rfl (by first | exact Or.inl rfl | exact Or.inr rfl) Zu)
  (Zc (Zp (i:=3) Yb.nd rfl (by exact Or.inl rfl) (Zh Xc (pv 0) Zd))
  (Zc (Zp (i:=4) Yb.nd rfl (by first | exact Or.inl rfl | exact Or.inr rfl) (Zh Xc (Zh Xu (pv 0) Zd) (Zh oAdd (pv 3) Zd)))
  (Zc (Zp (i:=5) Yb.nd rfl (by first | exact Or.inl rfl | exact Or.inr rfl) (Zs iAll (Yp (Za Zd (Za Zd (Za Zd (Za Zd (Za Zd (Za Zd Ze))))))) (Zh Xc (Zh Xu (Zh Xu (pv 0) Zd) (Zh oAdd (pv 3) Zd)) Zd) (fun _ _=>rfl)))
  (Zc (Zp (i:=6) Yb.nd rfl (by exact Or.inl rfl) (Zh Xu (Zh Xu (pv 0) Zd) (Zh oAdd (pv 3) Zd)))
  (Zc (Zp (i:=7) Yb.nd rfl (by first | exact Or.inl rfl | exact Or.inr rfl) (Zh Xc (pv 6) Zd))
  (Zc (Zp (i:=8) Yb.nd rfl (by first | exact Or.inl rfl | exact Or.inr rfl) Zu)
  (Zc (Jg PassesOwn.never rfl (Yk rfl nb.range_ (Za (pv 3) Ze)) (Zy (i:=9) Yb.nd rfl (by first | exact Or.inl rfl | exact Or.inr rfl))
   (Zc (Zp (i:=6) Yb.nd rfl (by exact Or.inl rfl) (Zh Xu (pv 6) Zd))
   (Zf (Zp (i:=8) Yb.nd rfl (by first | exact Or.inl rfl | exact Or.inr rfl) (Zh oAdd (pv 8) (Zs iAll (pv 2) (Zh Xc (pv 6) Zd) (fun _ _=>rfl)))))))
  (Zf (Zj (Yd ["_law_k"] [(8,"_law_stem"),(4,"_law_at"),(2,"_law_some"),(7,"_law_first"),(5,"_law_step")] rfl (by decide +kernel) ⟨rfl,.inl rfl,rfl,.inl rfl,rfl,.inl rfl,rfl,.inl rfl,rfl,.inl rfl,trivial⟩ (Yk rfl nb.range_ (Za (pv 1) Ze)) (fun _ _ _ _ _=>(Zy (i:=0) (show (["_law_k","_law_stem","_law_at","_law_some","_law_first","_law_step"]:List Str).Nodup by decide +kernel) rfl (by first | exact Or.inl rfl | exact Or.inr rfl))) (fun _ _ _ _ _=>Xs) (fun _ _ _ _ _=>(Zh oAdd (Zh oAdd (Zax slAll (pv 1) Zcy (Zcx (pv 2))) (Zs iAll (pv 3) (Zh Xc (Zh oAdd (pv 4) (Zh oMul (pv 0) (pv 5))) Zd) (fun _ _=>rfl))) (Zax slAll (pv 1) (Zcx (pv 2)) Zcy)))))))))))))),?_⟩
 try dsimp only[cxK0,cxK1,cxK2,cxK3]
 obtain⟨sz,hsz,esz'⟩:=Wa c 12 (by decide)
 have esz:c%12=((sz:Nat):Int):=esz'
 obtain⟨a,ha,ea'⟩:=Wa (c/12) (sz+1) (by omega)
 have ea:c/12%(((sz:Nat):Int)+1)=((a:Nat):Int):=ea'
 refine⟨_,rfl,_,_,rfl,rfl,(by show (0:Int)<12;decide),?_⟩
 dsimp only
 rw[esz]
 refine⟨_,rfl,_,_,rfl,rfl,⟨by decide,by decide⟩,_,rfl,.inl ⟨_,_,rfl,rfl,_,_,rfl,rfl,(by omega),?_⟩⟩
 dsimp only
 rw[ea]
 refine⟨(by show 6≤sizeLine;decide),fun g hg=>?_⟩
 obtain⟨x,hx,hx1⟩:=Zbb V.int [1,3,5,7,9,11] (c/12/(((sz:Nat):Int)+1)) 6 rfl (by show 0<6;decide)
 have hxb:0<x∧x≤11:=by
  have:∀ y∈([1,3,5,7,9,11]:List Int),0<y∧y≤11:=by decide
  exact this x hx
 refine⟨_,rfl,_,_,rfl,rfl,⟨by decide,by decide⟩,_,rfl,.inl ⟨_,_,rfl,rfl,_,_,rfl,rfl,⟨by omega,by omega⟩,_,_,rfl,rfl,(by show (0:Int)<6;decide),.inl (.inl ⟨_,_,_,_,rfl,rfl,Uy Zb,hx1,?_⟩)⟩⟩
 refine⟨_,rfl,_,_,rfl,rfl,⟨by decide,by decide⟩,_,rfl,.inl ⟨_,_,rfl,rfl,_,_,rfl,rfl,⟨by omega,by omega⟩,?_⟩⟩
 refine⟨_,rfl,_,_,rfl,rfl,(by show (0:Int)<26;decide),?_⟩
 refine⟨_,rfl,_,rfl,by omega,by omega,?_⟩
 have en:(((sz:Nat):Int)).toNat=sz:=by omega
 rw[en]
 have l26:L26.length≤sizeLine:=by rw[Zpc];exact Xo (by decide)
 refine Wd (fun i σ H2=>Same H H2∧∃ (stem:Str) (num fst:Int) (z1 z2:Option V),σ=[some (.int c),some (.int ((m:Nat):Int)),some (.str L26),z2,some (.int ((a:Nat):Int)),some (.int x),some (.int num),some (.int fst),some (.str stem),z1]∧stem.length=i∧Tx i L26.cps.toList stem) ?_ ?_ ?_
 ·refine⟨Zq hg,Str.ofString "",_,_,none,_,rfl,by decide +kernel,by decide +kernel,fun c h=>?_⟩
  rw[show (Str.ofString "").cps.toList=[] by decide +kernel] at h
  cases h
 ·rintro i σ H2 hi ⟨hs,stem,num,fst,z1,z2,rfl,hl,ht⟩
  obtain⟨k,hk,ek'⟩:=Wa (num/26) 26 (by decide)
  have ek:num/26%26=((k:Nat):Int):=ek'
  obtain⟨sg,hsg,hat⟩:=Xat (x:=L26) (k:=k) (by rw[Zpc];exact hk)
  refine⟨_,rfl,_,_,rfl,rfl,⟨by decide,by decide⟩,?_⟩
  refine⟨_,rfl,_,rfl,_,rfl,_,_,rfl,rfl,(by show (0:Int)<26;decide),.inr ⟨_,_,_,rfl,rfl,l26,(by rw[ek];exact hat),.inr ⟨_,_,rfl,rfl,Xo (by show _+1≤_;omega),?_⟩⟩⟩
  exact⟨hs,_,_,_,_,_,rfl,by rw[Qr,hl];rfl,ht.app (Tx.one hsg)⟩
 ·rintro σ H2 ⟨hs,stem,num,fst,z1,z2,rfl,hl,ht⟩
  have ls:stem.length≤sizeLine:=Xo (by omega)
  refine⟨_,rfl,_,rfl,by omega,by omega,fun D hD=>?_⟩
  have em:(((m:Nat):Int)).toNat=m:=by omega
  rw[em]
  have l26':L26.cps.toList.length=26:=by rw[UM];exact Zpc
  have b1:=Zfv stem a (by omega)
  have b2:=Zdh stem a (by omega)
  let ix:Nat→Nat:=fun i=>((fst+(0+((i:Nat):Int))*x)%26).toNat
  have hix:∀ i,ix i<26∧(fst+(0+((i:Nat):Int))*x)%26=((ix i:Nat):Int):=fun i=>by
   have h1:=UO (fst+(0+((i:Nat):Int))*x) (show (26:Int)≠0 by decide)
   have h2:=UK (fst+(0+((i:Nat):Int))*x) (show (0:Int)<26 by decide)
   constructor
   ·show Int.toNat _<26
    omega
   ·show _=((Int.toNat _:Nat):Int)
    omega
  let nmf:Nat→Str:=fun i=>(Txt.slice stem none (some ((a:Nat):Int))++⟨#[L26.cps.toList.getD (ix i) 0]⟩)++Txt.slice stem (some ((a:Nat):Int)) none
  refine Zkx m (fun i => .int (0+((i:Nat):Int))) (fun i=>V.str (nmf i)) (fun σ=>∃ z,σ=[z,some (.str stem),some (.int ((a:Nat):Int)),some (.str L26),some (.int fst),some (.int x)]) (Xo (by omega)) ⟨_,rfl⟩ ?_ ?_ ?_ ?_ ?_
  ·intro i H1 hi;exact hi
  ·intro H1;exact Up _
  ·rintro i H1 y H3 hi ⟨rfl,rfl⟩;exact⟨rfl,rfl⟩
  ·rintro i σ1 H1 hi ⟨z,rfl⟩ R hR
   obtain⟨hk,ek⟩:=hix i
   have hat:atI L26.cps.toList ((ix i:Nat):Int)=some (L26.cps.toList.getD (ix i) 0):=Zx (by rw[Uk,Ui (by omega)];rfl)
   have e1:(⟨#[L26.cps.toList.getD (ix i) 0]⟩:Str).length=1:=rfl
   refine⟨_,rfl,_,rfl,_,rfl,.inr ⟨_,rfl,ls,?_⟩⟩
   refine⟨_,rfl,_,rfl,_,rfl,_,rfl,.inl ⟨_,_,rfl,rfl,.inr ⟨by omega,by omega⟩,.inl ⟨_,_,rfl,rfl,_,_,rfl,rfl,(by show (0:Int)<26;decide),.inr ⟨_,_,_,rfl,rfl,l26,(by rw[ek];exact hat),.inr ⟨_,_,rfl,rfl,Xo (by omega),?_⟩⟩⟩⟩⟩
   refine⟨_,rfl,_,rfl,_,rfl,.inr ⟨_,rfl,ls,.inr ⟨_,_,rfl,rfl,Xo (by rw[Qr];omega),?_⟩⟩⟩
   exact hR _ ⟨_,rfl⟩
  ·have e:(List.range m).map (fun i=>V.str (nmf i))=((List.range m).map nmf).map V.str:=by rw[UU];rfl
   rw[e]
   have hD0:=hs.free hD
   refine⟨_,.new hD0 (hs.trans (Zq hD)) Zb trivial,q D ((List.range m).map nmf) hD0 (by rw[Uj,Vb]) ?_⟩
   refine Zor (by rw[Uj,Vb];omega) (by rw[Uj,Vb];omega) ?_ ?_
   ·unfold List.Nodup
    rw[List.pairwise_iff_getElem]
    intro i j hi hj hij
    rw[Uj,Vb] at hi hj
    rw[Vc,Vc,List.getElem_range,List.getElem_range]
    intro z2
    have z3:=Zzv z2
    obtain⟨hk1,ek1⟩:=hix i
    obtain⟨hk2,ek2⟩:=hix j
    rw[Uk,Uk,Ui (by omega),Ui (by omega)] at z3
    have z4:=(List.getElem_inj Zvu).mp z3
    have:=Zwc (f:=fst) hx (show i<26 by omega) (show j<26 by omega) (by rw[ek1,ek2,z4])
    omega
   ·intro n hn
    obtain⟨i,_,rfl⟩:=List.mem_map.mp hn
    obtain⟨hk,ek⟩:=hix i
    refine Zut ⟨?_,?_⟩ ?_
    ·show (_++_:Str).length≤12
     rw[Qr,Qr,b1,b2]
     show a+1+_≤12
     omega
    ·refine(((ht.slice none (some ((a:Nat):Int))).app (Tx.one ?_)).app (ht.slice (some ((a:Nat):Int)) none)).s
     rw[Uk,Ui (by omega)]
     exact List.getElem_mem _
    ·show 0<(_++_:Str).length
     rw[Qr,Qr]
     show 0<_+1+_
     omega
noncomputable def wNo:Str:=Str.ofString "nothing"
noncomputable def wTr:Str:=Str.ofString "truth"
noncomputable def wWh:Str:=Str.ofString "whole"
noncomputable def wSp:Str:=Str.ofString "span"
noncomputable def wFr:Str:=Str.ofString "fraction"
noncomputable def wLe:Str:=Str.ofString "letters"
noncomputable def wMa:Str:=Str.ofString "maybe"
noncomputable def wMy:Str:=Str.ofString "many"
noncomputable def wRe:Str:=Str.ofString "record"
noncomputable def wCh:Str:=Str.ofString "choice"
noncomputable def wTu:Str:=Str.ofString "turned"
def Simp(H:Hp)(v:V):Prop:=∃ T,v = .ref T∧((∃ w,w∈[wNo,wTr,wWh,wFr]∧H T=some (.tup [.str w]))∨(∃ a b:Int,H T=some (.tup [.str wSp,.int a,.int b])∧a≤b∧b - a<2 ^ 190∧a.natAbs<10 ^ 58∧b.natAbs<10 ^ 58)∨(∃ s:Str,H T=some (.tup [.str wLe,.str s])∧goodText s=true∧s.length≤60))
def Lists(X:List Addr)(H:Hp):Prop:=∀ x,x∈X→∃ l,H x=some (.lst l)
theorem Lists.grow{X:List Addr}{p:Addr}{H H':Hp}(h:Lists X H)(g:Grow p H H'):Lists X H':=fun x hx=>by
 by_cases z:x=p
 ·subst z
  obtain⟨ns,e,_⟩:=g.l
  exact⟨_,e⟩
 ·obtain⟨l,e⟩:=h x hx
  exact⟨l,g.k _ _ z e⟩
def spSimple:Sp:=fun vs H Q _=>∃ (p:Addr) (way:Nat),vs=[.ref p,.int ((way:Nat):Int)]∧way<6∧Pool p H∧∀ v H',Grow p H H'→Simp H' v→Q v H'
theorem Zln(F:FunAt K mg "_law_simple" Zcn ["_law_pool_here","_law_way"] f fd)(D_law_next:DefOk P w K mg base 1 "_law_next" ["_law_pool_here"] spNext)(D_law_signs:DefOk P w K mg base 1 "_law_signs" ["_law_cell"] spSigns):DefOk P w K mg base 2 "_law_simple" ["_law_pool_here","_law_way"] spSimple:=by
 refine F.ok Zbl (fun vs H Q E h=>?_) (fun cdv A outer s H vs Q E hr h=>?_)
 ·obtain⟨_,_,rfl,_⟩:=h;rfl
 obtain⟨p,way,rfl,hw,hP,q⟩:=h
 refine⟨_,(Zc (Zz (Zl oEq (pv 1) Zd (Zk _)) (Zc (Zp (i:=2) Zbl.nd rfl (by exact Or.inl rfl) (Zh oSub (Zh Xc (Zi D_law_next hr (Za (pv 0) Ze)) (Zh Zkh Zd Zd)) (Zh Zkh Zd Zd)))
   (Zc (Zp (i:=3) Zbl.nd rfl (by exact Or.inl rfl) (Zi D_law_next hr (Za (pv 0) Ze)))
   (Zf (Zj (Yz (Za Zu (Za (pv 2) (Za (Zh oAdd (pv 2) (Zh Xc (Zh Xu (pv 3) Zd) (Zs iAll (Yp (Za Zd (Za Zd (Za Zd (Za (Zh Zkh Zd Zd) Ze))))) (Zh Xc (pv 3) Zd) (fun _ _=>rfl)))) Ze)))))))) Zo)
  (Zc (Zz (Zl oEq (pv 1) Zd (Zk _)) (Zf (Zj (Yz (Za Zu (Za (Zi D_law_signs hr (Za (Zi D_law_next hr (Za (pv 0) Ze)) Ze)) Ze))))) Zo)
  (Zf (Zj (Yz (Za (Zs iAll (Yp (Za Zu (Za Zu (Za Zu (Za Zu (Za Zu Ze)))))) (pv 1) (fun _ _=>rfl)) Ze)))))),?_⟩
 try dsimp only[cxK0,cxK1,cxK2,cxK3]
 refine⟨_,rfl,rfl,_,rfl,iteD (fun c3=>?_) (fun c3=>?_)⟩
 ·refine⟨_,rfl,p,rfl,hP,fun c0 n1 hn1=>?_⟩
  have G1:=Grow.pop hP hn1
  have pw:∀ n:Int,n=57∨n=56→CPow 10 n:=fun n hn=>by rcases hn with rfl | rfl<;>(refine⟨?_,?_,?_⟩<;>decide)
  have p57:(0:Int)<10 ^ Int.toNat 57:=by decide +kernel
  refine⟨_,_,rfl,rfl,pw _ (.inl rfl),_,_,rfl,rfl,p57,_,_,rfl,rfl,pw _ (.inr rfl),_,_,rfl,rfl,?_⟩
  dsimp only
  have lb:∃ low:Int,low=c0%10 ^ Int.toNat 57 - 10 ^ Int.toNat 56∧-(10 ^ 57)≤low∧low≤10 ^ 57:=by
   refine⟨_,rfl,?_⟩
   have a1:=UO c0 (show (10:Int) ^ Int.toNat 57≠0 by decide +kernel)
   have a2:=UK c0 p57
   rw[show Int.toNat 57=57 from rfl] at a1 a2 ⊢
   rw[show Int.toNat 56=56 from rfl]
   omega
  obtain⟨low,el,lb1,lb2⟩:=lb
  rw[← el]
  clear el
  refine⟨_,rfl,p,rfl,G1.l,fun c n2 hn2=>?_⟩
  have G2:=G1.trans (Grow.pop G1.l hn2)
  generalize upd (upd H p (.lst (n1.map V.int))) p (.lst (n2.map V.int))=H2 at G2 ⊢
  refine⟨_,rfl,_,rfl,_,rfl,_,_,rfl,rfl,⟨by decide,by decide⟩,_,_,rfl,rfl,pw _ (.inl rfl),(by show 4≤sizeLine;decide),fun g hg=>?_⟩
  obtain⟨x,hx,hx1⟩:=Zbb V.int [1,5,300,10 ^ Int.toNat 57] c 4 rfl (by show 0<4;decide)
  obtain⟨hxb,hxc,hxd⟩:0<x∧x<2 ^ 190∧x≤10 ^ 57:=by
   have:∀ y∈([1,5,300,10 ^ Int.toNat 57]:List Int),0<y∧y<2 ^ 190∧y≤10 ^ 57:=by decide +kernel
   exact this x hx
  refine⟨_,rfl,_,_,rfl,rfl,(by show (0:Int)<4;decide),.inl (.inl ⟨_,_,_,_,rfl,rfl,Uy Zb,hx1,_,_,rfl,rfl,hxb,.inl ⟨_,_,rfl,rfl,(by show 3≤sizeLine;decide),fun T hT=>?_⟩⟩)⟩
  have b1:=UO (c/4) (show x≠0 by omega)
  have b2:=UK (c/4) hxb
  have G3:=(G2.ext (Ext.lst hg)).ext (Ext.tup (xs:=[V.str wSp,.int low,.int (low+c/4%x)]) hT)
  exact⟨_,G3.sub,q _ _ G3 ⟨T,rfl,.inr (.inl ⟨low,_,Zb,by omega,by omega,by omega,by omega⟩)⟩⟩
 ·refine⟨_,rfl,rfl,_,rfl,iteD (fun c5=>?_) (fun c5=>?_)⟩
  ·refine⟨_,rfl,p,rfl,hP,fun c0 n1 hn1=>?_⟩
   have G1:=Grow.pop hP hn1
   refine⟨c0,rfl,fun sg hg hl=>⟨Jd,fun T hT=>?_⟩⟩
   have G3:=G1.ext (Ext.tup (xs:=[V.str wLe,.str sg]) hT)
   exact⟨_,G3.sub,q _ _ G3 ⟨T,rfl,.inr (.inr ⟨sg,Zb,hg,hl⟩)⟩⟩
  ·have hw':way≠3∧way≠5:=⟨fun z=>c3 (by rw[z];rfl),fun z=>c5 (by rw[z];rfl)⟩
   obtain⟨w',hw1,hw2⟩:∃ w',w'∈[wNo,wTr,wWh,wFr]∧atI ([wNo,wTr,wWh,wSp,wFr].map V.str) ((way:Nat):Int)=some (.str w'):=by
    have:way=0∨way=1∨way=2∨way=4:=by omega
    rcases this with rfl | rfl | rfl | rfl
    ·exact⟨wNo,by simp,Zx (j:=0) rfl⟩
    ·exact⟨wTr,by simp,Zx (j:=1) rfl⟩
    ·exact⟨wWh,by simp,Zx (j:=2) rfl⟩
    ·exact⟨wFr,by simp,Zx (j:=4) rfl⟩
   refine⟨(by show 5≤sizeLine;decide),fun g hg=>⟨_,rfl,.inl (.inl ⟨_,_,_,_,rfl,rfl,Uy Zb,hw2,(by show 1≤sizeLine;decide),fun T hT=>?_⟩)⟩⟩
   have G3:=((Grow.refl hP).ext (Ext.lst hg)).ext (Ext.tup (xs:=[V.str w']) hT)
   exact⟨_,G3.sub,q _ _ G3 ⟨T,rfl,.inl ⟨w',hw1,Zb⟩⟩⟩
noncomputable def wdB(k:Fin 4):Str:=[wNo,wTr,wWh,wFr].getD k.val wNo
noncomputable def wdO(k:Fin 3):Str:=[wMa,wMy,wTu].getD k.val wMa
noncomputable def wdT(k:Fin 2):Str:=[wRe,wCh].getD k.val wRe
mutual
noncomputable def dsc:Fm→D
 | .bare k => .tup [.str (wdB k)]
 | .sp a b => .tup [.str wSp,.int a,.int b]
 | .le s => .tup [.str wLe,.str s]
 | .one k f => .tup [.str (wdO k),dsc f]
 | .two k ns fs => .tup [.str (wdT k),.lst (dscs fs ns)]
noncomputable def dscs:List Fm→List Str→List D
 | [],_=>[]
 | f::fs,ns => .tup [.str (ns.headD Str.empty),dsc f]::dscs fs ns.tail
end
mutual
noncomputable def okG:Fm→Prop
 | .bare _=>True
 | .sp a b=>a≤b∧b - a<2 ^ 190∧a.natAbs<10 ^ 58∧b.natAbs<10 ^ 58
 | .le s=>goodText s=true∧s.length≤60
 | .one _ f=>okG f
 | .two _ ns fs=>goodNames ns=true∧ns.length=fs.length∧okGs fs
noncomputable def okGs:List Fm→Prop
 | []=>True
 | f::fs=>okG f∧okGs fs
end
mutual
noncomputable def sz:Fm→Nat
 | .bare _=>1
 | .sp _ _=>1
 | .le _=>1
 | .one _ f=>sz f+1
 | .two _ _ fs=>szs fs+1
noncomputable def szs:List Fm→Nat
 | []=>0
 | f::fs=>sz f+szs fs
end
theorem Zch:∀ (fs:List Fm) (ns:List Str),(dscs fs ns).length=fs.length
 | [],ns=>by rw[dscs];rfl
 | f::fs,ns=>by rw[dscs,Uq,Zch fs ns.tail,Uq]
theorem Zmu(n:Str)(f:Fm):∀ (fs:List Fm) (ns:List Str),ns.length=fs.length→dscs (fs++[f]) (ns++[n])=dscs fs ns++[.tup [.str n,dsc f]]
 | [],ns,h=>by
  obtain rfl:=List.eq_nil_of_length_eq_zero (by simpa using h)
  show dscs [f] [n]=dscs [] []++_
  rw[dscs,dscs,dscs];rfl
 | g::fs,[],h=>by cases h
 | g::fs,m::ns,h=>by
  show dscs (g::(fs++[f])) (m::(ns++[n]))=dscs (g::fs) (m::ns)++_
  rw[dscs,dscs]
  show _::dscs (fs++[f]) (ns++[n])=_::dscs fs ns++_
  rw[Zmu n f fs ns (by simpa using h)];rfl
theorem Zmj{f:Fm}(h:okG f):∀ {fs:List Fm},okGs fs→okGs (fs++[f])
 | [],_=>by show okGs [f];rw[okGs,okGs];exact⟨h,trivial⟩
 | g::fs,hs=>by
  rw[okGs] at hs
  show okGs (g::(fs++[f]))
  rw[okGs]
  exact⟨hs.1,Zmj h hs.2⟩
theorem Zqt{f:Fm}{n:Nat}(h:ht f≤n):∀ {fs:List Fm},hts fs≤n→hts (fs++[f])≤n
 | [],_=>by show hts [f]≤n;rw[hts,hts];omega
 | g::fs,hs=>by
  rw[hts] at hs
  show hts (g::(fs++[f]))≤n
  rw[hts]
  have:=Zqt h (fs:=fs) (by omega)
  omega
theorem Zdg(f:Fm):∀ fs:List Fm,szs (fs++[f])=szs fs+sz f
 | []=>by show szs [f]=szs []+_;simp only[szs];omega
 | g::fs=>by
  show szs (g::(fs++[f]))=szs (g::fs)+_
  rw[szs,szs,Zdg f fs];omega
theorem Lists.no{X:List Addr}{H:Hp}(hX:Lists X H){T:Addr}{xs:List V}(e:H T=some (.tup xs)):T∉X:=fun z=>by obtain⟨l,h⟩:=hX T z;rw[h] at e;cases e
theorem Zyr:∀ k:Fin 4,(wdB k).length≤100000:=by decide +kernel
theorem Zyp:∀ k:Fin 3,(wdO k).length≤100000:=by decide +kernel
theorem Zyn:∀ k:Fin 2,(wdT k).length≤100000:=by decide +kernel
theorem Xay:∀ w,w∈[wNo,wTr,wWh,wFr]→∃ k,w=wdB k:=fun w h=>by
 rcases(show w=wNo∨w=wTr∨w=wWh∨w=wFr by simpa using h) with rfl | rfl | rfl | rfl
 ·exact⟨0,rfl⟩
 ·exact⟨1,rfl⟩
 ·exact⟨2,rfl⟩
 ·exact⟨3,rfl⟩
theorem Simp.dx{X:List Addr}{H:Hp}{v:V}(hX:Lists X H)(h:Simp H v):∃ f,DX X H (dsc f) v∧okG f∧ht f=1∧sz f=1:=by
 obtain⟨T,rfl,⟨w,hw,e⟩ | ⟨a,b,e,h⟩ | ⟨s,e,h1,h2⟩⟩:=h
 ·obtain⟨k,rfl⟩:=Xay w hw
  exact⟨.bare k,by rw[dsc];exact⟨T,_,rfl,hX.no e,e,⟨_,_,rfl,⟨rfl,Zyr k⟩,rfl⟩,by simp⟩,by rw[okG];trivial,by rw[ht],by rw[sz]⟩
 ·exact⟨.sp a b,by rw[dsc];exact⟨T,_,rfl,hX.no e,e,⟨_,_,rfl,⟨rfl,by decide +kernel⟩,_,_,rfl,rfl,_,_,rfl,rfl,rfl⟩,by simp⟩,by rw[okG];exact h,by rw[ht],by rw[sz]⟩
 ·exact⟨.le s,by rw[dsc];exact⟨T,_,rfl,hX.no e,e,⟨_,_,rfl,⟨rfl,by decide +kernel⟩,_,_,rfl,⟨rfl,by omega⟩,rfl⟩,by simp⟩,by rw[okG];exact⟨h1,h2⟩,by rw[ht],by rw[sz]⟩
theorem DX.grow{X:List Addr}{p:Addr}{H H':Hp}(hp:p∈X)(g:Grow p H H'){d:D}{v:V}(h:DX X H d v):DX X H' d v :=
 DX.keep (fun b u nb e=>g.k b u (fun z=>nb (by rw[z];exact hp)) e) d h
structure Tld(X:List Addr)(H:Hp)(f:Fm)(v:V)(n m:Nat):Prop where
 d:DX X H (dsc f) v
 o:okG f
 h:ht f≤n
 s:sz f≤m
def spForm(d:Nat):Sp:=fun vs H Q _=>∃ (p:Addr) (deep:Nat) (X:List Addr),vs=[.ref p,.int ((deep:Nat):Int)]∧deep<d∧Pool p H∧p∈X∧Lists X H∧∀ v H' f,Grow p H H'→Tld X H' f v (deep+1) (20*deep+1)→Q v H'
structure Inn(X:List Addr)(l:Addr)(d m:Nat)(H:Hp)(ns:List Str)(i:Nat)(fs:List Fm)(vs:List V):Prop where
 ls:H l=some (.lst vs)
 ds:DsX (l::X) H (dscs fs (ns.take i)) vs
 ln:fs.length=i
 ok:okGs fs
 ht:hts fs≤d
 sz:szs fs≤m
theorem Inn.step{X:List Addr}{p l T:Addr}{d m e k i:Nat}{H2 H':Hp}{ns:List Str}{n:Str}{f:Fm}{v:V}{fs:List Fm}{vs:List V}(I:Inn X l d m H2 ns i fs vs)(hX:Lists (l::X) H2)(hp:p∈X)(hlp:l≠p)(g:Grow p H2 H')(hv:Tld (l::X) H' f v e k)(he:e≤d)(hT:H' T=none)(hn:ns[i]?=some n)(hn2:n.length≤100) :
  Inn X l d (m+k) (upd (upd H' T (.tup [.str n,v])) l (.lst (vs++[V.ref T]))) ns (i+1) (fs++[f]) (vs++[V.ref T])∧Lists (l::X) (upd (upd H' T (.tup [.str n,v])) l (.lst (vs++[V.ref T])))∧
  (∀ b u,b∉l::X→H' b=some u→upd (upd H' T (.tup [.str n,v])) l (.lst (vs++[V.ref T])) b=some u):=by
 have hX':=hX.grow g
 have k2:∀ b u,b∉l::X→H' b=some u→upd (upd H' T (.tup [.str n,v])) l (.lst (vs++[V.ref T])) b=some u:=fun b u nb e=>by
  rw[Zn (fun z=>nb (by rw[z];exact Ux ..)),Zn (Xa e hT)];exact e
 have nTX:T∉l::X:=fun z=>by
  obtain⟨y,hy⟩:=hX' T z
  rw[hT] at hy;cases hy
 have nTl:T≠l:=fun z=>nTX (by rw[z];exact Ux ..)
 have hi:i<ns.length:=by
  rcases UZ i ns.length with z | z
  ·exact z
  ·rw[Vh z] at hn;cases hn
 refine⟨⟨Zb,?_,by rw[Uo,I.ln];rfl,Zmj hv.o I.ok,Zqt (by have:=hv.h;omega) I.ht,?_⟩,?_,k2⟩
 ·rw[UX,hn]
  show DsX _ _ (dscs (fs++[f]) (ns.take i++[n])) _
  rw[Zmu n f fs _ (by rw[US,I.ln];omega)]
  have eT:upd (upd H' T (.tup [.str n,v])) l (.lst (vs++[V.ref T])) T=some (.tup [.str n,v]):=by rw[Zn nTl,Zb]
  have hd:DX (l::X) (upd (upd H' T (.tup [.str n,v])) l (.lst (vs++[V.ref T]))) (.tup [.str n,dsc f]) (.ref T):=⟨T,_,rfl,nTX,eT,⟨_,_,rfl,⟨rfl,by omega⟩,_,_,rfl,DX.keep k2 _ hv.d,rfl⟩,by simp⟩
  exact DsX.snoc hd _ (DsX.keep k2 _ (DsX.keep (fun b u nb e=>g.k b u (fun z=>nb (by rw[z];exact Ul _ hp)) e) _ I.ds))
 ·rw[Zdg];have:=hv.s;have:=I.sz;omega
 ·intro x hx
  by_cases z:x=l
  ·subst z;exact⟨_,Zb⟩
  ·obtain⟨y,hy⟩:=hX' x hx
   exact⟨y,by rw[Zn z,Zn (Xa hy hT)];exact hy⟩
set_option maxHeartbeats 4000000 in
theorem Zim{d:Nat}(nb:NB mg)(F:FunAt K mg "_law_form" Zcq ["_law_pool_here","_law_deep"] f fd)(D_law_next:DefOk P w K mg base 1 "_law_next" ["_law_pool_here"] spNext)(D_law_names:DefOk P w K mg base 1 "_law_names" ["_law_cell","_law_many"] spNames)(D_law_simple:DefOk P w K mg base 2 "_law_simple" ["_law_pool_here","_law_way"] spSimple)
  (D_law_form:DefOk P w K mg base (d+3) "_law_form" ["_law_pool_here","_law_deep"] (spForm d)):DefOk P w K mg base (d+3+1) "_law_form" ["_law_pool_here","_law_deep"] (spForm (d+1)):=by
 refine F.ok Xv (fun vs H Q E h=>?_) (fun cdv A outer s H vs Q E hr h=>?_)
 ·obtain⟨_,_,_,rfl,_⟩:=h;rfl
 obtain⟨p,deep,X,rfl,hd,hP,hpX,hX,q⟩:=h
 refine⟨_,(Zc (Zp (i:=2) Xv.nd rfl (by exact Or.inl rfl) (Zi D_law_next hr (Za (pv 0) Ze) (hk:=by omega)))
  (Zc (Zp (i:=3) Xv.nd rfl (by exact Or.inl rfl) (Zh Xc (pv 2) Zd))
  (Zc (Zz (Zl oEq (pv 1) Zd (Zk _)) (Zf (Zp (i:=3) Xv.nd rfl (by exact Or.inl rfl) (Zh Xc (pv 2) Zd))) Zo)
  (Zc (Zz (Zl oLt (pv 3) Zd (Zk _)) (Zf (Zj (Zi D_law_simple hr (Za (pv 0) (Za (pv 3) Ze)) (hk:=by omega)))) Zo)
  (Zc (Zz (PW.pt (Zae (Zl oEq (pv 3) Zd (Zk _)) (Ju (Zl oEq (pv 3) Zd (Zk _))))) (Zc (Zp (i:=4) Xv.nd rfl (by exact Or.inl rfl) (Zh oAdd Zd (Zh Xc (Zh Xu (pv 2) Zd) Zd)))
   (Zjc (Zz (PW.pt (Zcv (Zl oEq (pv 1) Zd (Zk _)) (Zan (Zl oEq (Zh Xc (Zh Xu (pv 2) Zd) Zd) Zd (Zk _))))) (Zf (Zp (i:=4) Xv.nd rfl (by exact Or.inl rfl) (Zh oAdd Zd (Zh Xc (Zh Xu (pv 2) Zd) Zd)))) Zo)
   (Zc (Zp (i:=5) Xv.nd rfl (by exact Or.inl rfl) (Zi D_law_names hr (Za (Zi D_law_next hr (Za (pv 0) Ze) (hk:=by omega)) (Za (pv 4) Ze)) (hk:=by omega)))
   (Zc (Zp (i:=6) Xv.nd rfl (by exact Or.inl rfl) (Yp Ze))
   (Zjc (Zp (i:=7) Xv.nd rfl (by exact Or.inl rfl) (Yu (Xj oLt (pv 4) Zd (Zk _)) (Wl (Xj oEq (Zh Xc (Zh Xu (pv 2) Zd) Zd) Zd (Zk _)))))
   (Zc (Zp (i:=8) Xv.nd rfl (by exact Or.inl rfl) Zfk)
   (Zc (Jg PassesOwn.never rfl (Yk rfl nb.range_ (Za (pv 4) Ze)) (Zy (i:=9) Xv.nd rfl (by exact Or.inl rfl))
    (Zc (Zp (i:=10) Xv.nd rfl (by exact Or.inl rfl) (Zh oMul (Zh oSub (pv 1) Zd) (Wc Jj rfl nb.int_ Zba (Za (Xj oEq (pv 9) (Zh Xc (Zh Xu (pv 2) Zd) (pv 4)) (Zk _)) Ze))))
    (Zc (Zp (i:=11) Xv.nd rfl (by exact Or.inl rfl) (pv 8))
    (Zjc (Zz (PW.pt (Zae (Zl oGt (pv 10) Zd (Zk _)) (Zae (Zl Zoc (pv 8) Zfk (Zk _)) (Ju (Yt (Xm (pv 7) (fun _=>rfl))))))) (Zf (Zp (i:=11) Xv.nd rfl (by exact Or.inl rfl) (Zi D_law_form hr (Za (pv 0) (Za (pv 10) Ze)) (hk:=by omega)))) Zo)
    (Zjc (Zz (Zl oEq (pv 10) Zd (Zk _)) (Zf (Zp (i:=8) Xv.nd rfl (by exact Or.inl rfl) (pv 11))) Zo)
    (Zf (Yj (Wb PySem.F.plainAttrs_list PySem.F.slot_list_append PySem.F.type_list_append Ji (pv 6) (Za (Yz (Za (Zs iAll (pv 5) (pv 9) (fun _ _=>rfl)) (Za (pv 11) Ze))) Ze)))))))))
   (Zf (Zj (Yz (Za (Zs iAll (Yp (Za Zu (Za Zu Ze))) (Zh oSub (pv 3) Zd) (fun _ _=>rfl)) (Za (pv 6) Ze)))))))))))) Zo)
  (Zf (Zj (Yz (Za (Zs iAll (Yp (Za Zu (Za Zu (Za Zu (Za Zu (Za Zu Ze)))))) (Zh oSub (pv 3) Zd) (fun _ _=>rfl)) (Za (Zi D_law_form hr (Za (pv 0) (Za (Zh oSub (pv 1) Zd) Ze)) (hk:=by omega)) Ze)))))))))),?_⟩
 try dsimp only[cxK0,cxK1,cxK2,cxK3]
 refine⟨_,rfl,p,rfl,hP,fun c n1 hn1=>?_⟩
 have G1:=Grow.pop hP hn1
 generalize upd H p (.lst (n1.map V.int))=H1 at G1 ⊢
 have sim:∀ way:Nat,way<6→spSimple [.ref p,.int ((way:Nat):Int)] H1 (fun v H'=>∃ H'',L2.Sub H H'' H'∧Q v H'') E0:=fun way hw=>⟨p,way,rfl,hw,G1.l,fun v H' g hs=>by
  obtain⟨f,h1,h2,h3,h4⟩:=Simp.dx (hX.grow (G1.trans g)) hs
  exact⟨_,(G1.trans g).sub,q v H' f (G1.trans g) ⟨h1,h2,by omega,by omega⟩⟩⟩
 obtain⟨w0,hw0,ew0'⟩:=Wa c 11 (by decide)
 have ew0:c%11=((w0:Nat):Int):=ew0'
 refine⟨_,rfl,_,_,rfl,rfl,(by show (0:Int)<11;decide),?_⟩
 dsimp only
 rw[ew0]
 refine⟨_,rfl,rfl,_,rfl,iteD (fun c0=>?_) (fun c0=>?_)⟩
 ·obtain⟨w6,hw6,ew6'⟩:=Wa c 6 (by decide)
  have ew6:c%6=((w6:Nat):Int):=ew6'
  refine⟨_,rfl,_,_,rfl,rfl,(by show (0:Int)<6;decide),?_⟩
  dsimp only
  rw[ew6]
  exact⟨_,rfl,.inl ⟨_,_,rfl,rfl,_,rfl,iteY (by omega) ⟨_,rfl,_,rfl,sim w6 hw6⟩⟩⟩
 have hd0:deep≠0:=fun z=>c0 (by rw[z];rfl)
 refine⟨_,rfl,.inl ⟨_,_,rfl,rfl,_,rfl,iteD (fun c6=>?_) (fun c6=>?_)⟩⟩
 ·exact⟨_,rfl,_,rfl,sim w0 (by omega)⟩
 refine⟨_,rfl,rfl,_,rfl,(fun(hA:(w0=8∨w0=9)→_)=>iteD (fun c8=>hA (.inl (by have:=V.int.inj c8;omega))) (fun c8=>⟨_,rfl,rfl,_,rfl,iteD (fun c9=>hA (.inr (by have:=V.int.inj c9;omega))) (fun c9=>?_)⟩)) (fun hw89=>?_)⟩
 ·obtain⟨m4,hm4,em4'⟩:=Wa (c/11) 4 (by decide)
  have em4:c/11%4=((m4:Nat):Int):=em4'
  have e1:(1:Int)+((m4:Nat):Int)=((m4+1:Nat):Int):=by omega
  refine⟨_,rfl,_,_,rfl,rfl,⟨by decide,by decide⟩,_,_,rfl,rfl,(by show (0:Int)<4;decide),.inl ⟨_,_,rfl,rfl,?_⟩⟩
  dsimp only
  rw[em4,e1]
  refine⟨fun σ' H'=>H1=H'∧∃ mN:Nat,0<mN∧mN≤20∧σ'=[some (.ref p),some (.int ((deep:Nat):Int)),some (.int c),some (.int ((w0:Nat):Int)),some (.int ((mN:Nat):Int)),none,none,none,none,none,none,none],?_,?_⟩
  ·refine⟨_,rfl,rfl,_,rfl,iteD (fun k1=>?_) (fun k1=>⟨rfl,m4+1,by omega,by omega,rfl⟩)⟩
   refine⟨_,rfl,_,_,rfl,rfl,⟨by decide,by decide⟩,_,_,rfl,rfl,(by show (0:Int)<6;decide),rfl,_,rfl,iteD (fun k2=>?_) (fun k2=>⟨rfl,m4+1,by omega,by omega,rfl⟩)⟩
   obtain⟨m20,h20,em20'⟩:=Wa (c/264) 20 (by decide)
   have em20:c/264%20=((m20:Nat):Int):=em20'
   refine⟨_,rfl,_,_,rfl,rfl,⟨by decide,by decide⟩,_,_,rfl,rfl,(by show (0:Int)<20;decide),.inl ⟨_,_,rfl,rfl,rfl,m20+1,by omega,by omega,?_⟩⟩
   dsimp only
   rw[em20,show (1:Int)+((m20:Nat):Int)=((m20+1:Nat):Int) by omega]
   rfl
  rintro σ1 H1' ⟨rfl,mN,hm0,hm20,rfl⟩
  refine⟨_,rfl,p,rfl,G1.l,fun c2 n2 hn2=>⟨_,rfl,c2,mN,rfl,hm0,hm20,fun D ns hD hnl hgn=>?_⟩⟩
  have G2:=G1.trans (Grow.pop G1.l hn2)
  have G3:=G2.ext (Ext.lst (xs:=ns.map V.str) hD)
  refine⟨UF _,fun l hl=>?_⟩
  have E4:=Ext.lst (xs:=[]) hl
  have G4:=G3.ext E4
  have hl0:H l=none:=G3.free hl
  have hD0:H D=none:=G2.free hD
  have hlp:l≠p:=G3.ne hl
  have hDl:D≠l:=fun z=>by rw[← z,Zb] at hl;cases hl
  have hlX:l∉X:=fun z=>by obtain⟨y,hy⟩:=hX l z;rw[hl0] at hy;cases hy
  have hDX:D∉l::X:=fun z=>by
   rcases Um.mp z with z | z
   ·exact hDl z
   ·obtain⟨y,hy⟩:=hX D z;rw[hD0] at hy;cases hy
  have hDv:upd (upd (upd H1 p (.lst (n2.map V.int))) D (.lst (ns.map V.str))) l (.lst []) D=some (.lst (ns.map V.str)):=E4.s _ _ Zb
  have hLv:=Zb (H:=upd (upd H1 p (.lst (n2.map V.int))) D (.lst (ns.map V.str))) (a:=l) (o:=HO.lst [])
  generalize upd (upd (upd H1 p (.lst (n2.map V.int))) D (.lst (ns.map V.str))) l (.lst [])=H4 at G4 hDv hLv ⊢
  refine⟨fun σ' H'=>H4=H'∧∃ al:Bool,σ'=[some (.ref p),some (.int ((deep:Nat):Int)),some (.int c),some (.int ((w0:Nat):Int)),some (.int ((mN:Nat):Int)),some (.ref D),some (.ref l),some (.bl al),none,none,none,none],?_,?_⟩
  ·refine⟨_,rfl,.inl ⟨_,_,rfl,rfl,_,rfl,iteD (fun k1=>?_) (fun k1=>⟨rfl,_,rfl⟩)⟩⟩
   exact⟨_,rfl,_,_,rfl,rfl,⟨by decide,by decide⟩,_,_,rfl,rfl,(by show (0:Int)<3;decide),rfl,rfl,_,rfl⟩
  rintro σ2 H4' ⟨rfl,al,rfl⟩
  obtain⟨kk,hkk,ekk⟩:=Wa (c/264) mN hm0
  refine⟨_,rfl,_,rfl,by omega,by omega,?_⟩
  have en:(((mN:Nat):Int)).toNat=mN:=by omega
  rw[en]
  refine Wd (fun i σ H2=>Grow p H H2∧Lists (l::X) H2∧H2 D=some (.lst (ns.map V.str))∧∃ fs vs vb z9 z10 z11,σ=[some (.ref p),some (.int ((deep:Nat):Int)),some (.int c),some (.int ((w0:Nat):Int)),some (.int ((mN:Nat):Int)),some (.ref D),some (.ref l),some (.bl al),some vb,z9,z10,z11]∧Inn X l deep (i+if kk<i then 20*(deep - 1) else 0) H2 ns i fs vs∧(vb = .non∨∃ g,Tld (l::X) H2 g vb 1 1)) ?_ ?_ ?_
  ·refine⟨G4,?_,hDv,[],[],.non,none,none,none,rfl,⟨hLv,by rw[List.take_zero,dscs];rfl,rfl,by rw[okGs];trivial,by rw[hts];omega,by rw[szs];omega⟩,.inl rfl⟩
   intro x hx
   rcases Um.mp hx with z | z
   ·subst z;exact⟨_,hLv⟩
   ·exact(hX.grow G4) x z
  ·rintro i σ H2 hi ⟨g2,hX2,hD2,fs,vs,vb,z9,z10,z11,rfl,I,hvb⟩
   have hin:i<ns.length:=by omega
   have hni:ns[i]?=some ns[i]:=Ui hin
   have hat:atI (ns.map V.str) (0+((i:Nat):Int))=some (.str ns[i]):=by rw[Int.zero_add];exact Zx (by rw[Ur,hni];rfl)
   refine⟨_,rfl,_,_,rfl,rfl,_,rfl,_,rfl,_,_,rfl,rfl,⟨by decide,by decide⟩,_,rfl,_,_,rfl,rfl,(by omega),rfl,.inl (.inr ⟨_,rfl,?_⟩)⟩
   have ebb:decide (V.int (0+((i:Nat):Int))=V.int (c/264%((mN:Nat):Int)))=decide (i=kk):=by
    rw[ekk];exact decide_eq_decide.mpr ⟨fun h=>by have:=V.int.inj h;omega,fun h=>by rw[h,Int.zero_add]⟩
   rw[ebb]
   refine .inl ⟨_,_,rfl,rfl,.inr (by split<;>exact⟨by decide,by decide⟩),?_⟩
   obtain⟨dp,hdp1,hdp2,ev,hdp3⟩:∃ dp:Nat,dp<d∧dp+1≤deep∧(((deep:Nat):Int) - 1)*(if decide (i=kk)=true then 1 else 0)=((dp:Nat):Int)∧(dp=if i=kk then deep - 1 else 0):=⟨if i=kk then deep - 1 else 0,by split<;>omega,by split<;>omega,by by_cases z:i=kk<;>simp only[z,decide_true,decide_false,if_true,if_false]<;>simp<;>omega,rfl⟩
   dsimp only
   rw[ev]
   refine⟨_,rfl,?_⟩
   refine⟨fun σ' H'=>∃ part g,Grow p H2 H'∧Tld (l::X) H' g part (dp+1) (20*dp+1)∧σ'=[some (.ref p),some (.int ((deep:Nat):Int)),some (.int c),some (.int ((w0:Nat):Int)),some (.int ((mN:Nat):Int)),some (.ref D),some (.ref l),some (.bl al),some vb,some (.int (0+((i:Nat):Int))),some (.int ((dp:Nat):Int)),some part],?_,?_⟩
   ·refine⟨_,rfl,_,_,rfl,rfl,_,rfl,(fun(hA:_)=>iteD (fun _=>hA) (fun k1=>⟨_,rfl,rfl,_,rfl,iteD (fun _=>hA) (fun k2=>⟨_,rfl,al,rfl,?_⟩)⟩)) ?_⟩
    ·exact⟨_,rfl,_,rfl,p,dp,l::X,rfl,hdp1,g2.l,Ul _ hpX,hX2,fun v H' f g hv=>⟨v,f,g,hv,rfl⟩⟩
    cases al
    ·exact iteT hA
    ·obtain⟨g,hg⟩:=hvb.resolve_left k2
     exact iteF ⟨vb,g,Grow.refl g2.l,⟨hg.d,hg.o,by have:=hg.h;omega,by have:=hg.s;omega⟩,rfl⟩
   rintro σ3 H3 ⟨part,gf,g3,hpart,rfl⟩
   refine⟨fun σ' H'=>H3=H'∧∃ vb',(vb' = .non∨∃ g,Tld (l::X) H3 g vb' 1 1)∧σ'=[some (.ref p),some (.int ((deep:Nat):Int)),some (.int c),some (.int ((w0:Nat):Int)),some (.int ((mN:Nat):Int)),some (.ref D),some (.ref l),some (.bl al),some vb',some (.int (0+((i:Nat):Int))),some (.int ((dp:Nat):Int)),some part],?_,?_⟩
   ·refine⟨_,rfl,rfl,_,rfl,iteD (fun k1=>⟨_,rfl,rfl,part,.inr ?_,rfl⟩) (fun k1=>⟨rfl,vb,?_,rfl⟩)⟩
    ·have z0:dp=0:=by have:=V.int.inj k1;omega
     rw[z0] at hpart
     exact⟨gf,hpart⟩
    ·exact hvb.imp id fun⟨g,hg⟩=>⟨g,DX.grow (Ul _ hpX) g3 hg.d,hg.o,hg.h,hg.s⟩
   rintro σ4 H3' ⟨rfl,vb',hvb',rfl⟩
   have hl3:H3 l=some (.lst vs):=g3.k _ _ hlp I.ls
   refine⟨_,rfl,.inl ⟨rfl,_,Uy hl3⟩,_,rfl,_,rfl,.inl (.inl ⟨_,_,_,_,rfl,rfl,Uy (g3.k _ _ (fun z=>hDX (by rw[z];exact Ul _ hpX)) hD2),hat,_,rfl,Jd,fun T hT=>?_⟩)⟩
   have E5:=Ext.tup (xs:=[V.str ns[i],part]) hT
   have hlen:vs.length=i:=by
    rw[DsAt.len _ (DsX.at _ I.ds),Zch,I.ln]
   refine⟨l,_,_,rfl,rfl,E5.s _ _ hl3,(by rw[hlen];exact UA (show i<100000 by omega) (by decide)),?_⟩
   obtain⟨I',L',k'⟩:=I.step hX2 hpX hlp g3 hpart hdp2 hT hni (by have:=(Ya hgn).2 _ (List.getElem_mem hin);omega)
   refine⟨((g2.trans g3).ext E5).set hl0 (E5.s _ _ hl3) hlp,L',k' _ _ hDX (g3.k _ _ (fun z=>hDX (by rw[z];exact Ul _ hpX)) hD2),_,_,vb',_,_,_,rfl,⟨I'.ls,I'.ds,I'.ln,I'.ok,I'.ht,?_⟩,hvb'.imp id fun⟨g,hg⟩=>⟨g,DX.keep k' _ hg.d,hg.o,hg.h,hg.s⟩⟩
   refine UC I'.sz ?_
   rw[hdp3]
   by_cases z:i=kk
   ·rw[if_pos z,if_neg (by omega),if_pos (by omega)];omega
   ·rw[if_neg z]
    by_cases z2:kk<i
    ·rw[if_pos z2,if_pos (by omega)];omega
    ·rw[if_neg z2];omega
  ·rintro σ H2 ⟨g2,hX2,hD2,fs,vs,vb,z9,z10,z11,rfl,I,_⟩
   obtain⟨ww,hw2⟩:∃ ww:Fin 2,atI ([wRe,wCh].map V.str) (((w0:Nat):Int) - 8)=some (.str (wdT ww)):=by
    rcases hw89 with rfl | rfl
    ·exact⟨0,Zx (j:=0) rfl⟩
    ·exact⟨1,Zx (j:=1) rfl⟩
   refine⟨Jd,fun g hg=>⟨_,rfl,_,_,rfl,rfl,.inl (.inl ⟨_,_,_,_,rfl,rfl,Uy Zb,hw2,_,rfl,Jd,fun T hT=>?_⟩)⟩⟩
   have E6:=(Ext.lst hg).trans (Ext.tup (xs:=[V.str (wdT ww),V.ref l]) hT)
   have g6:=g2.ext E6
   have ns_all:ns.take mN=ns:=UV (by omega)
   have hds:=I.ds
   rw[ns_all] at hds
   have hvl:vs.length=mN:=by rw[DsAt.len _ (DsX.at _ I.ds),Zch,I.ln]
   have hTX:T∉X:=(hX.grow g6).no Zb
   refine⟨_,g6.sub,q _ _ (.two ww ns fs) g6 ⟨?_,?_,?_,?_⟩⟩
   ·rw[dsc]
    exact⟨T,_,rfl,hTX,Zb,⟨_,_,rfl,⟨rfl,Zyn ww⟩,_,_,rfl,⟨l,vs,rfl,hlX,E6.s _ _ I.ls,DsX.weak (fun y hy=>Ul _ hy) _ (DsX.same E6.s hds),by omega⟩,rfl⟩,by simp⟩
   ·rw[okG];exact⟨hgn,by rw[I.ln,hnl],I.ok⟩
   ·rw[ht];have:=I.ht;omega
   ·rw[sz]
    have:=I.sz
    rw[if_pos hkk] at this
    omega
 have hw:w0=6∨w0=7∨w0=10:=by
  have h8:w0≠8:=fun z=>c8 (by rw[z];rfl)
  have h9:w0≠9:=fun z=>c9 (by rw[z];rfl)
  omega
 obtain⟨ww,hw2⟩:∃ ww:Fin 3,atI ([wMa,wMy,Str.ofString "",Str.ofString "",wTu].map V.str) (((w0:Nat):Int) - 6)=some (.str (wdO ww)):=by
  rcases hw with rfl | rfl | rfl
  ·exact⟨0,Zx (j:=0) rfl⟩
  ·exact⟨1,Zx (j:=1) rfl⟩
  ·exact⟨2,Zx (j:=4) rfl⟩
 refine⟨(by show 5≤sizeLine;decide),fun g hg=>⟨_,rfl,_,_,rfl,rfl,.inl (.inl ⟨_,_,_,_,rfl,rfl,Uy Zb,hw2,?_⟩)⟩⟩
 have Gg:=G1.ext (Ext.lst (xs:=[wMa,wMy,Str.ofString "",Str.ofString "",wTu].map V.str) hg)
 have ev:((deep:Nat):Int) - 1=((deep - 1:Nat):Int):=by omega
 refine⟨_,rfl,_,rfl,_,_,rfl,rfl,p,deep - 1,X,(by rw[← ev];rfl),by omega,Gg.l,hpX,hX.grow Gg,fun v H' f g' hv=>⟨Jd,fun T hT=>?_⟩⟩
 have E5:=Ext.tup (xs:=[V.str (wdO ww),v]) hT
 have g6:=(Gg.trans g').ext E5
 have hTX:T∉X:=(hX.grow g6).no Zb
 refine⟨_,g6.sub,q _ _ (.one ww f) g6 ⟨?_,?_,?_,?_⟩⟩
 ·rw[dsc];exact⟨T,_,rfl,hTX,Zb,⟨_,_,rfl,⟨rfl,Zyp ww⟩,_,_,rfl,hv.d.same E5.s,rfl⟩,by simp⟩
 ·rw[okG];exact hv.o
 ·rw[ht];have:=hv.h;omega
 ·rw[sz];have:=hv.s;omega
theorem Zef(nb:NB mg)(F:FunAt K mg "_law_form" Zcq ["_law_pool_here","_law_deep"] f fd)(D_law_next:DefOk P w K mg base 1 "_law_next" ["_law_pool_here"] spNext)(D_law_names:DefOk P w K mg base 1 "_law_names" ["_law_cell","_law_many"] spNames)(D_law_simple:DefOk P w K mg base 2 "_law_simple" ["_law_pool_here","_law_way"] spSimple):∀ d:Nat,DefOk P w K mg base (d+3) "_law_form" ["_law_pool_here","_law_deep"] (spForm d)
 | 0=>DefOk.none F fun vs H Q E h=>by obtain⟨_,_,_,_,h,_⟩:=h;omega
 | d+1=>Zim nb F D_law_next D_law_names D_law_simple (Zef nb F D_law_next D_law_names D_law_simple d)
theorem Zys:∀ k j:Fin 4,wdB k=wdB j→k=j:=by decide +kernel
theorem Zyq:∀ k j:Fin 3,wdO k=wdO j→k=j:=by decide +kernel
theorem Zyo:∀ k j:Fin 2,wdT k=wdT j→k=j:=by decide +kernel
theorem Zfu:(∀ k:Fin 3,wdO k≠wLe)∧(∀ k:Fin 2,wdT k≠wLe)∧∀ (k:Fin 3) (j:Fin 2),wdO k≠wdT j:=by decide +kernel
mutual
theorem Zsp:∀ (f g:Fm),okG f→okG g→eqDD (dsc f) (dsc g)=true→f=g
 | .bare k,g,_,_,h=>by
  cases g with
  | bare j =>
   simp[dsc,eqDD,eqTu,eqDs,eqSt] at h
   rw[Zys k j h]
  | _=>simp[dsc,eqDD,eqTu,eqDs,eqSt] at h
 | .sp a b,g,_,_,h=>by
  cases g with
  | sp i j =>
   simp[dsc,eqDD,eqTu,eqDs,eqSt,eqIn] at h
   rw[h.1,h.2]
  | _=>simp[dsc,eqDD,eqTu,eqDs,eqSt] at h
 | .le s,g,_,_,h=>by
  cases g with
  | le t =>
   simp[dsc,eqDD,eqTu,eqDs,eqSt] at h
   rw[h]
  | one k f =>
   simp[dsc,eqDD,eqTu,eqDs,eqSt] at h
   exact absurd h.1.symm (Zfu.1 k)
  | two k ns fs =>
   simp[dsc,eqDD,eqTu,eqDs,eqSt] at h
  | _=>simp[dsc,eqDD,eqTu,eqDs,eqSt] at h
 | .one k f,g,hf,hg,h=>by
  cases g with
  | le t =>
   simp[dsc,eqDD,eqTu,eqDs,eqSt] at h
   exact absurd h.1 (Zfu.1 k)
  | one j g =>
   simp[dsc,eqDD,eqTu,eqDs,eqSt] at h
   rw[okG] at hf hg
   rw[Zyq k j h.1,Zsp f g hf hg h.2]
  | two j ns fs =>
   simp[dsc,eqDD,eqTu,eqDs,eqSt] at h
   exact absurd h.1 (Zfu.2.2 k j)
  | _=>simp[dsc,eqDD,eqTu,eqDs,eqSt] at h
 | .two k ns fs,g,hf,hg,h=>by
  cases g with
  | le t=>simp[dsc,eqDD,eqTu,eqDs,eqSt,eqLi] at h
  | one j g =>
   simp[dsc,eqDD,eqTu,eqDs,eqSt] at h
   exact absurd h.1.symm (Zfu.2.2 j k)
  | two j ms gs =>
   simp[dsc,eqDD,eqTu,eqDs,eqSt,eqLi] at h
   rw[okG] at hf hg
   obtain⟨e1,e2⟩:=Zti fs gs ns ms hf.2.1 hg.2.1 hf.2.2 hg.2.2 h.2
   rw[Zyo k j h.1,e1,e2]
  | _=>simp[dsc,eqDD,eqTu,eqDs,eqSt] at h
theorem Zti:∀ (fs gs:List Fm) (ns ms:List Str),ns.length=fs.length→ms.length=gs.length→okGs fs→okGs gs→eqDs (dscs fs ns) (dscs gs ms)=true→ns=ms∧fs=gs
 | [],[],ns,ms,h1,h2,_,_,_=>by
  rw[List.eq_nil_of_length_eq_zero h1,List.eq_nil_of_length_eq_zero h2];exact⟨rfl,rfl⟩
 | [],g::gs,_,_,_,_,_,_,h=>by simp[dscs,eqDs] at h
 | f::fs,[],_,_,_,_,_,_,h=>by simp[dscs,eqDs] at h
 | f::fs,g::gs,[],ms,h1,_,_,_,_=>by cases h1
 | f::fs,g::gs,n::ns,[],_,h2,_,_,_=>by cases h2
 | f::fs,g::gs,n::ns,m::ms,h1,h2,h3,h4,h=>by
  rw[okGs] at h3 h4
  simp[dscs,eqDD,eqTu,eqDs,eqSt] at h
  obtain⟨e1,e2⟩:=Zti fs gs ns ms (by simpa using h1) (by simpa using h2) h3.2 h4.2 h.2
  rw[h.1.1,e1,e2,Zsp f g h3.1 h4.1 h.1.2];exact⟨rfl,rfl⟩
end
mutual
theorem Zos:∀ f:Fm,dht (dsc f)≤3*ht f
 | .bare k=>by simp only[dsc,dht,dhts,ht];omega
 | .sp a b=>by simp only[dsc,dht,dhts,ht];omega
 | .le s=>by simp only[dsc,dht,dhts,ht];omega
 | .one k f=>by
  have:=Zos f
  simp only[dsc,dht,dhts,ht];omega
 | .two k ns fs=>by
  have:=Zth fs ns
  simp only[dsc,dht,dhts,ht];omega
theorem Zth:∀ (fs:List Fm) (ns:List Str),dhts (dscs fs ns)≤3*hts fs+1
 | [],ns=>by simp only[dscs,dhts];omega
 | f::fs,ns=>by
  have:=Zos f
  have:=Zth fs ns.tail
  have:=Zfr f
  simp only[dscs,dhts,dht,hts];omega
end
theorem Qy{X:List Addr}{H:Hp}:∀ (fs:List Fm) (ns:List Str) {vs:List V} {i:Nat} {y:V},ns.length=fs.length→DsX X H (dscs fs ns) vs→vs[i]?=some y→∃ f n T v,fs[i]?=some f∧ns[i]?=some n∧y = .ref T∧T∉X∧H T=some (.tup [.str n,v])∧DX X H (dsc f) v
 | [],ns,vs,i,y,h0,h,e=>by
  rw[dscs] at h
  obtain rfl:vs=[]:=h
  cases e
 | f::fs,[],vs,i,y,h0,h,e=>by cases h0
 | f::fs,n::ns,vs,0,y,h0,h,e=>by
  rw[dscs] at h
  obtain⟨v,r,rfl,⟨T,ws,rfl,hT,eT,⟨_,_,rfl,⟨rfl,_⟩,v',_,rfl,hv,rfl⟩,_⟩,q2⟩:=h
  cases e
  exact⟨f,n,T,v',rfl,rfl,rfl,hT,eT,hv⟩
 | f::fs,n::ns,vs,i+1,y,h0,h,e=>by
  rw[dscs] at h
  obtain⟨v,r,rfl,q,q2⟩:=h
  exact Qy fs ns (by simpa using h0) q2 e
theorem Zay:∀ {fs:List Fm} {i:Nat} {f:Fm},okGs fs→fs[i]?=some f→okG f∧ht f≤hts fs
 | g::fs,0,f,h,e=>by
  cases e
  rw[okGs] at h
  rw[hts]
  exact⟨h.1,by omega⟩
 | g::fs,i+1,f,h,e=>by
  rw[okGs] at h
  obtain⟨a,b⟩:=Zay h.2 (show fs[i]?=some f from e)
  rw[hts]
  exact⟨a,by omega⟩
theorem Zro(f:Fm):1≤sz f:=by cases f<;>simp only[sz]<;>omega
structure Kpt(c:FC)(X:List Addr)(kp:Addr)(H:Hp)(n:Nat):Prop where
 e:∃ es:List (Addr×V×Fm×Addr),H kp=some (.lst (es.map fun e=>V.ref e.1))∧es.length≤n∧∀ e,e∈es→e.1∉X∧H e.1=some (.tup [e.2.1,.ref e.2.2.2])∧DX X H (dsc e.2.2.1) e.2.1∧(okG e.2.2.1∧ht e.2.2.1≤15)∧FAt c X H e.2.2.1 e.2.2.2
theorem Kpt.le{c:FC}{X:List Addr}{kp:Addr}{H:Hp}{n m:Nat}(k:Kpt c X kp H n)(h:n≤m):Kpt c X kp H m:=by
 obtain⟨es,h1,h2,h3⟩:=k.e
 exact⟨es,h1,by omega,h3⟩
theorem Kpt.keep{c:FC}{X:List Addr}{kp:Addr}{H H':Hp}{n:Nat}(k:Kpt c X kp H n)(s:∀ b u,b∉X→H b=some u→H' b=some u)(h:H' kp=H kp):Kpt c X kp H' n:=by
 obtain⟨es,h1,h2,h3⟩:=k.e
 refine⟨es,by rw[h];exact h1,h2,fun e he=>?_⟩
 obtain⟨a1,a2,a3,a4,a5⟩:=h3 e he
 exact⟨a1,s _ _ a1 a2,DX.keep s _ a3,a4,FAt.keep s _ a5⟩
theorem Kpt.add{c:FC}{X:List Addr}{kp D:Addr}{H:Hp}{n:Nat}(k:Kpt c X kp H n)(hD:H D=none):Kpt c (D::X) kp H n:=by
 obtain⟨es,h1,h2,h3⟩:=k.e
 refine⟨es,h1,h2,fun e he=>?_⟩
 obtain⟨a1,a2,a3,a4,a5⟩:=h3 e he
 exact⟨fun z=>(Um.mp z).elim (fun z=>by rw[z,hD] at a2;cases a2) a1,a2,DX.add hD _ a3,a4,FAt.add hD _ a5⟩
theorem Kpt.weak{c:FC}{X:List Addr}{kp D:Addr}{H:Hp}{n:Nat}(k:Kpt c (D::X) kp H n):Kpt c X kp H n:=by
 obtain⟨es,h1,h2,h3⟩:=k.e
 refine⟨es,h1,h2,fun e he=>?_⟩
 obtain⟨a1,a2,a3,a4,a5⟩:=h3 e he
 exact⟨fun z=>a1 (Ul _ z),a2,DX.weak (fun x hx=>Ul _ hx) _ a3,a4,FAt.weak (fun x hx=>Ul _ hx) _ a5⟩
def Has(X:List Addr)(H:Hp):Prop:=∀ x,x∈X→∃ o,H x=some o
theorem Has.no{X:List Addr}{H:Hp}(h:Has X H){t:Addr}(e:H t=none):t∉X:=fun z=>by
 obtain⟨o,q⟩:=h t z
 rw[e] at q;cases q
theorem Has.mv{X:List Addr}{p:Addr}{o:HO}{H H':Hp}(h:Has X H)(m:Mv p H H')(e:H' p=some o):Has X H':=fun x hx=>by
 by_cases z:x=p
 ·subst z;exact⟨_,e⟩
 ·obtain⟨u,q⟩:=h x hx
  exact⟨u,m.k _ _ z q⟩
theorem Has.ext{X:List Addr}{H H':Hp}(h:Has X H)(m:Same H H'):Has X H':=fun x hx=>by
 obtain⟨u,q⟩:=h x hx
 exact⟨u,m _ _ q⟩
theorem Has.add{X:List Addr}{D:Addr}{o:HO}{H:Hp}(h:Has X H)(e:H D=some o):Has (D::X) H:=fun x hx=>by
 rcases Um.mp hx with rfl | z
 ·exact⟨o,e⟩
 ·exact h x z
theorem DX.mv{X:List Addr}{p:Addr}{H H':Hp}(hp:p∈X)(m:Mv p H H'){d:D}{v:V}(h:DX X H d v):DX X H' d v :=
 DX.keep (fun b u nb e=>m.k b u (fun z=>nb (by rw[z];exact hp)) e) d h
def spObj(c:FC)(d:Nat):Sp:=fun vs H Q _=>∃ (vf:V) (kp:Addr) (f:Fm) (n:Nat) (X:List Addr),vs=[vf,.ref kp]∧kp∈X∧Has X H∧DX X H (dsc f) vf∧okG f∧ht f≤d∧ht f≤15∧Kpt c X kp H n∧n+sz f≤1000∧∀ o H',Mv kp H H'→Kpt c X kp H' (n+sz f)→FAt c X H' f o→Q (.ref o) H'
def spNew(c:FC)(d:Nat):Sp:=fun vs H Q _=>∃ (vf:V) (kp:Addr) (f:Fm) (n:Nat) (X:List Addr),vs=[vf,.ref kp]∧kp∈X∧Has X H∧DX X H (dsc f) vf∧okG f∧ht f≤d∧ht f≤15∧Kpt c X kp H n∧n+sz f≤1000∧∀ o H',Mv kp H H'→Kpt c X kp H' (n+sz f - 1)→FAt c X H' f o→Q (.ref o) H'
theorem Zil{d:Nat}(F:FunAt K mg "_law_object" Zaf ["_law_form_here","_law_kept"] f fd)(D_law_new:DefOk P w K mg base (2*d+7) "_law_new" ["_law_form_here","_law_kept"] (spNew c d)):DefOk P w K mg base (2*d+8) "_law_object" ["_law_form_here","_law_kept"] (spObj c d):=by
 refine F.ok Qc (fun vs H Q E h=>?_) (fun cdv A outer s H vs Q E hr h=>?_)
 ·obtain⟨_,_,_,_,_,rfl,_⟩:=h;rfl
 obtain⟨vf,kp,g,n,X,rfl,hkX,hX,hv,hok,hht,h15,hK,hn,q⟩:=h
 refine⟨_,(Zc (Jg PassesOwn.never rfl (piAll (pv 1)) (Zbt rfl (Xz (Zy (i:=2) Qc.nd rfl (by exact Or.inl rfl)) (Xz (Zy (i:=3) Qc.nd rfl (by exact Or.inl rfl)) Qp)))
   (Zf (Zz (Zl (oEqD (room64 hr)) (pv 2) (pv 0) (Zk _)) (Zf (Zj (pv 3))) Zo)))
  (Zc (Zp (i:=3) Qc.nd rfl (by exact Or.inl rfl) (Zi D_law_new hr (Za (pv 0) (Za (pv 1) Ze)) (hk:=by omega)))
  (Zc (Yj (Wb PySem.F.plainAttrs_list PySem.F.slot_list_append PySem.F.type_list_append Ji (pv 1) (Za (Yz (Za (pv 0) (Za (pv 3) Ze))) Ze)))
  (Zf (Zj (pv 3)))))),?_⟩
 try dsimp only[cxK0,cxK1,cxK2,cxK3]
 obtain⟨es,he1,he2,he3⟩:=hK.e
 have h3:=Zos g
 have hsz:=Zro g
 refine .inl ⟨_,rfl,kp,rfl,⟨_,Uy he1⟩,?_⟩
 refine Zqx (xs:=es.map fun e=>V.ref e.1) (fun i σ H2=>H=H2∧∃ z2 z3,σ=[some vf,some (.ref kp),z2,z3]) ⟨rfl,_,_,rfl⟩ (fun i σ H2 _ h=>by obtain⟨rfl,_⟩:=h;exact Uy he1) ?_ ?_
 ·rintro i x σ H2 hx ⟨rfl,z2,z3,rfl⟩
  rw[Ur] at hx
  obtain⟨e,hee,rfl⟩:=Uf.mp hx
  obtain⟨a1,a2,a3,a4,a5⟩:=he3 e (Uv hee)
  refine⟨_,_,rfl,Uz a2,rfl,_,_,rfl,_,_,rfl,rfl,?_⟩
  refine⟨_,rfl,_,rfl,.inr ⟨dsc e.2.2.1,dsc g,DX.at _ a3,DX.at _ hv,?_,_,rfl,?_⟩⟩
  ·have:=Zos e.2.2.1
   have:=a4.2
   omega
  cases hq:eqDD (dsc e.2.2.1) (dsc g) with
  | true =>
   have:=Zsp _ _ a4.1 hok hq
   subst this
   exact iteT ⟨_,rfl,_,(Mv.refl kp H).sub he1,q _ _ (Mv.refl kp H) (hK.le (by omega)) a5⟩
  | false=>exact iteF ⟨rfl,_,_,rfl⟩
 rintro σ H2 ⟨rfl,z2,z3,rfl⟩
 refine⟨_,rfl,_,rfl,vf,kp,g,n,X,rfl,hkX,hX,hv,hok,hht,h15,hK,hn,fun o H1 M1 hK1 hF1=>?_⟩
 obtain⟨es1,hf1,hf2,hf3⟩:=hK1.e
 refine⟨_,rfl,.inl ⟨rfl,_,Uy hf1⟩,_,rfl,_,rfl,Jd,fun T hT=>?_⟩
 have E2:=Ext.tup (xs:=[vf,.ref o]) hT
 have hkT:kp≠T:=fun z=>by rw[← z,hf1] at hT;cases hT
 have hf1':=E2.s _ _ hf1
 refine⟨kp,_,_,rfl,rfl,hf1',UA (show _<100000 by rw[Uj];omega) (by decide),?_⟩
 have kk:∀ b u,b∉X→H1 b=some u→upd (upd H1 T (.tup [vf,.ref o])) kp (.lst ((es1.map fun e=>V.ref e.1)++[V.ref T])) b=some u:=fun b u nb e=>by
  rw[Zn (fun z=>nb (by rw[z];exact hkX))];exact E2.s _ _ e
 have M2:Mv kp H (upd (upd H1 T (.tup [vf,.ref o])) kp (.lst ((es1.map fun e=>V.ref e.1)++[V.ref T]))):=⟨fun b u nb e=>by rw[Zn nb];exact E2.s _ _ (M1.k b u nb e),fun cl=>Qb hf1' (E2.c (M1.c cl))⟩
 have hTX:T∉X:=(hX.mv M1 hf1).no hT
 refine⟨_,rfl,_,M2.sub Zb,q _ _ M2 ⟨es1++[(T,vf,g,o)],by rw[Zb,UE];rfl,by rw[Uo,UQ];omega,fun e he=>?_⟩ (FAt.keep kk _ hF1)⟩
 rcases List.mem_append.mp he with z | z
 ·obtain⟨a1,a2,a3,a4,a5⟩:=hf3 e z
  exact⟨a1,kk _ _ a1 a2,DX.keep kk _ a3,a4,FAt.keep kk _ a5⟩
 ·rw[UD.mp z]
  exact⟨hTX,by show upd _ kp _ T=_;rw[Zn (Uh hkT),Zb],DX.keep kk _ (DX.mv hkX M1 hv),⟨hok,h15⟩,FAt.keep kk _ hF1⟩
theorem Zjk:∀ (fs:List Fm) (i:Nat),szs (fs.take i)≤szs fs
 | [],i=>by rw[List.take_nil];exact Up _
 | f::fs,0=>by show szs []≤_;rw[szs];exact UF _
 | f::fs,i+1=>by
  show szs (f::fs.take i)≤_
  have:=Zjk fs i
  rw[szs,szs];omega
theorem FsAt.snoc{c:FC}{X:List Addr}{H:Hp}{f:Fm}{o:Addr}(hf:FAt c X H f o):∀ (fs:List Fm) {os:List Addr},FsAt c X H fs os→FsAt c X H (fs++[f]) (os++[o])
 | [],os,h=>by
  obtain rfl:os=[]:=h
  exact⟨o,[],rfl,hf,rfl⟩
 | g::fs,os,h=>by
  obtain⟨a,r,rfl,q,q2⟩:=h
  exact⟨a,r++[o],rfl,q,FsAt.snoc hf fs q2⟩
set_option maxHeartbeats 4000000 in
theorem Znl{f:Addr}{fd:FuncData}{d:Nat}{c:FC}(nb:NB mg)(F:FunAt K mg "_law_new" Zei ["_law_form_here","_law_kept"] f fd)
  (M0_Nothing:Mk0 K (c.b 0)) (m_Nothing:mg "Nothing"=some (.ref (c.b 0))) (M0_Truth:Mk0 K (c.b 1)) (m_Truth:mg "Truth"=some (.ref (c.b 1))) (M0_Whole:Mk0 K (c.b 2)) (m_Whole:mg "Whole"=some (.ref (c.b 2))) (M0_Fraction:Mk0 K (c.b 3)) (m_Fraction:mg "Fraction"=some (.ref (c.b 3)))
  (M_Span:MakeOk P w K mg base 1 "Span" c.s ["self","low","high"] (spSpanInit c.s)) (M_Letters:MakeOk P w K mg base 2 "Letters" c.l ["self","signs"] (spLetInit c.l)) (M_Record:MakeOk P w K mg base 4 "Record" (c.t 0) ["self","parts"] (spTwoInit (c.t 0))) (M_Choice:MakeOk P w K mg base 4 "Choice" (c.t 1) ["self","cases"] (spTwoInit (c.t 1)))
  (M_Maybe:MakeOk P w K mg base 1 "Maybe" (c.o 0) ["self","inner"] (spOneInit (c.o 0))) (M_Many:MakeOk P w K mg base 1 "Many" (c.o 1) ["self","inner"] (spOneInit (c.o 1))) (M_Turned:MakeOk P w K mg base 1 "Turned" (c.o 2) ["self","inner"] (spOneInit (c.o 2)))
  (D_law_object:DefOk P w K mg base (2*d+8) "_law_object" ["_law_form_here","_law_kept"] (spObj c d)):DefOk P w K mg base (2*d+9) "_law_new" ["_law_form_here","_law_kept"] (spNew c (d+1)):=by
 refine F.ok Zjo (fun vs H Q E h=>?_) (fun cdv A outer s H vs Q E hr h=>?_)
 ·obtain⟨_,_,_,_,_,rfl,_⟩:=h;rfl
 obtain⟨vf,kp,g,n,X,rfl,hkX,hX,hv,hok,hht,h15,hK,hn,q⟩:=h
 refine useT _ (Zc (Zp (i:=2) Zjo.nd rfl (by exact Or.inl rfl) (Zs iAll (pv 0) Zd (fun _ _=>rfl)))
  (Zc (Zz (Zl oEq (pv 2) Zu (Zk _)) (Zf (Zj (Zel M0_Nothing rfl m_Nothing))) Zo)
  (Zc (Zz (Zl oEq (pv 2) Zu (Zk _)) (Zf (Zj (Zel M0_Truth rfl m_Truth))) Zo)
  (Zc (Zz (Zl oEq (pv 2) Zu (Zk _)) (Zf (Zj (Zel M0_Whole rfl m_Whole))) Zo)
  (Zc (Zz (Zl oEq (pv 2) Zu (Zk _)) (Zf (Zj (Zel M0_Fraction rfl m_Fraction))) Zo)
  (Zc (Zz (Zl oEq (pv 2) Zu (Zk _)) (Zf (Zj (Jv M_Span hr (Za (Zs iAll (pv 0) Zd (fun _ _=>rfl)) (Za (Zs iAll (pv 0) Zd (fun _ _=>rfl)) Ze)) (hk:=by omega)))) Zo)
  (Zc (Zz (Zl oEq (pv 2) Zu (Zk _)) (Zf (Zj (Jv M_Letters hr (Za (Zs iAll (pv 0) Zd (fun _ _=>rfl)) Ze) (hk:=by omega)))) Zo)
  (Zc (Zz (Zl oEq (pv 2) Zu (Zk _)) (Zf (Zj (Jv M_Record hr (Za (Yd ["_law_name","_law_inner"] [(1,"_law_kept")] rfl (by decide +kernel) ⟨rfl,.inl rfl,trivial⟩ (piAll (Zs iAll (pv 0) Zd (fun _ _=>rfl))) (fun _ _ _ _ _=>(Zbt rfl (Xz (Zy (i:=0) (show (["_law_name","_law_inner","_law_kept"]:List Str).Nodup by decide +kernel) rfl (by first | exact Or.inl rfl | exact Or.inr rfl)) (Xz (Zy (i:=1) (show (["_law_name","_law_inner","_law_kept"]:List Str).Nodup by decide +kernel) rfl (by first | exact Or.inl rfl | exact Or.inr rfl)) Qp)))) (fun _ _ _ _ _=>Xs) (fun _ _ _ _ _=>(Yz (Za (pv 0) (Za (Zi D_law_object hr (Za (pv 1) (Za (pv 2) Ze)) (hk:=by omega)) Ze))))) Ze) (hk:=by omega)))) Zo)
  (Zc (Zz (Zl oEq (pv 2) Zu (Zk _)) (Zf (Zj (Jv M_Choice hr (Za (Yd ["_law_name","_law_inner"] [(1,"_law_kept")] rfl (by decide +kernel) ⟨rfl,.inl rfl,trivial⟩ (piAll (Zs iAll (pv 0) Zd (fun _ _=>rfl))) (fun _ _ _ _ _=>(Zbt rfl (Xz (Zy (i:=0) (show (["_law_name","_law_inner","_law_kept"]:List Str).Nodup by decide +kernel) rfl (by first | exact Or.inl rfl | exact Or.inr rfl)) (Xz (Zy (i:=1) (show (["_law_name","_law_inner","_law_kept"]:List Str).Nodup by decide +kernel) rfl (by first | exact Or.inl rfl | exact Or.inr rfl)) Qp)))) (fun _ _ _ _ _=>Xs) (fun _ _ _ _ _=>(Yz (Za (pv 0) (Za (Zi D_law_object hr (Za (pv 1) (Za (pv 2) Ze)) (hk:=by omega)) Ze))))) Ze) (hk:=by omega)))) Zo)
  (Zc (Zz (Zl oEq (pv 2) Zu (Zk _)) (Zf (Zj (Jv M_Maybe hr (Za (Zi D_law_object hr (Za (Zs iAll (pv 0) Zd (fun _ _=>rfl)) (Za (pv 1) Ze)) (hk:=by omega)) Ze) (hk:=by omega)))) Zo)
  (Zc (Zz (Zl oEq (pv 2) Zu (Zk _)) (Zf (Zj (Jv M_Many hr (Za (Zi D_law_object hr (Za (Zs iAll (pv 0) Zd (fun _ _=>rfl)) (Za (pv 1) Ze)) (hk:=by omega)) Ze) (hk:=by omega)))) Zo)
  (Zf (Zj (Jv M_Turned hr (Za (Zi D_law_object hr (Za (Zs iAll (pv 0) Zd (fun _ _=>rfl)) (Za (pv 1) Ze)) (hk:=by omega)) Ze) (hk:=by omega))))))))))))))) fun G σ0 hσ go=>?_
 try dsimp only[cxK0,cxK1,cxK2,cxK3] at go
 obtain⟨es,ek,_⟩:=hK.e
 have a0:∀ (x:V) (r:List V),atI (x::r) 0=some x:=fun x r=>Zx (j:=0) rfl
 have a1:∀ (x y:V) (r:List V),atI (x::y::r) 1=some y:=fun x y r=>Zx (j:=1) rfl
 cases g with
 | bare k =>
  rw[dsc] at hv
  obtain⟨T,_,rfl,hTX,e,⟨_,_,rfl,⟨rfl,_⟩,rfl⟩,_⟩:=hv
  obtain⟨CC,hCC⟩:∃ CC,CC=c.b k:=⟨_,rfl⟩
  rcases fin4 k with rfl | rfl | rfl | rfl
  ·skip
   subst hσ
   refine go (setW rfl e ?_)
   refine Wh rfl fun N=>?_
   rw[← hCC]
   intro x dx h1 h2 h12
   have E:=Ext.made (C:=CC) (fs:=[]) h1 h2 h12
   have M:Mv kp H _:=⟨fun b u _ e=>E.s b u e,E.c⟩
   exact⟨_,E.sub,q _ _ M ((hK.keep (fun b u _ e=>E.s b u e) (by rw[E.s _ _ ek,ek])).le (by rw[sz];omega)) ⟨hX.no h1,dx,by rw[← hCC];exact Zb⟩⟩
  ·skip
   subst hσ
   refine go (setW rfl e ?_)
   refine Xr rfl (by decide +kernel) ?_
   refine Wh rfl fun N=>?_
   rw[← hCC]
   intro x dx h1 h2 h12
   have E:=Ext.made (C:=CC) (fs:=[]) h1 h2 h12
   have M:Mv kp H _:=⟨fun b u _ e=>E.s b u e,E.c⟩
   exact⟨_,E.sub,q _ _ M ((hK.keep (fun b u _ e=>E.s b u e) (by rw[E.s _ _ ek,ek])).le (by rw[sz];omega)) ⟨hX.no h1,dx,by rw[← hCC];exact Zb⟩⟩
  ·skip
   subst hσ
   refine go (setW rfl e ?_)
   refine Xr rfl (by decide +kernel) ?_
   refine Xr rfl (by decide +kernel) ?_
   refine Wh rfl fun N=>?_
   rw[← hCC]
   intro x dx h1 h2 h12
   have E:=Ext.made (C:=CC) (fs:=[]) h1 h2 h12
   have M:Mv kp H _:=⟨fun b u _ e=>E.s b u e,E.c⟩
   exact⟨_,E.sub,q _ _ M ((hK.keep (fun b u _ e=>E.s b u e) (by rw[E.s _ _ ek,ek])).le (by rw[sz];omega)) ⟨hX.no h1,dx,by rw[← hCC];exact Zb⟩⟩
  ·skip
   subst hσ
   refine go (setW rfl e ?_)
   refine Xr rfl (by decide +kernel) ?_
   refine Xr rfl (by decide +kernel) ?_
   refine Xr rfl (by decide +kernel) ?_
   refine Wh rfl fun N=>?_
   rw[← hCC]
   intro x dx h1 h2 h12
   have E:=Ext.made (C:=CC) (fs:=[]) h1 h2 h12
   have M:Mv kp H _:=⟨fun b u _ e=>E.s b u e,E.c⟩
   exact⟨_,E.sub,q _ _ M ((hK.keep (fun b u _ e=>E.s b u e) (by rw[E.s _ _ ek,ek])).le (by rw[sz];omega)) ⟨hX.no h1,dx,by rw[← hCC];exact Zb⟩⟩
 | sp lo hi =>
  rw[dsc] at hv
  rw[okG] at hok
  obtain⟨T,_,rfl,hTX,e,⟨_,_,rfl,⟨rfl,_⟩,_,_,rfl,rfl,_,_,rfl,rfl,rfl⟩,_⟩:=hv
  subst hσ
  refine go (setW rfl e ?_)
  iterate 4 refine Xr rfl (by decide +kernel) ?_
  have a2:atI [V.str wSp,V.int lo,V.int hi] 2=some (.int hi):=Zx (j:=2) rfl
  refine Wh rfl fun N=>⟨_,rfl,.inl (.inr ⟨_,_,_,_,rfl,rfl,Uz e,a1 _ _ _,_,rfl,.inl (.inr ⟨_,_,_,_,rfl,rfl,Uz e,a2,?_⟩)⟩)⟩
  intro x dx h1 h2 h12
  refine⟨x,dx,lo,hi,rfl,Zb,hok.1,rfl,?_⟩
  rw[Xf]
  have E:=Ext.made (C:=c.s) (fs:=spanF lo hi) h1 h2 h12
  have M:Mv kp H _:=⟨fun b u _ e=>E.s b u e,E.c⟩
  exact⟨_,E.sub,q _ _ M ((hK.keep (fun b u _ e=>E.s b u e) (by rw[E.s _ _ ek,ek])).le (by rw[sz];omega)) ⟨hX.no h1,dx,Zb⟩⟩
 | le sg =>
  rw[dsc] at hv
  rw[okG] at hok
  obtain⟨T,_,rfl,hTX,e,⟨_,_,rfl,⟨rfl,_⟩,_,_,rfl,⟨rfl,_⟩,rfl⟩,_⟩:=hv
  subst hσ
  refine go (setW rfl e ?_)
  iterate 5 refine Xr rfl (by decide +kernel) ?_
  refine Wh rfl fun N=>⟨_,rfl,.inl (.inr ⟨_,_,_,_,rfl,rfl,Uz e,a1 _ _ _,?_⟩)⟩
  intro x dx h1 h2 h12
  refine⟨x,dx,sg,rfl,Zb,by omega,hok.1,rfl,?_⟩
  rw[Xf]
  have E:=Ext.made (C:=c.l) (fs:=letF sg) h1 h2 h12
  have M:Mv kp H _:=⟨fun b u _ e=>E.s b u e,E.c⟩
  exact⟨_,E.sub,q _ _ M ((hK.keep (fun b u _ e=>E.s b u e) (by rw[E.s _ _ ek,ek])).le (by rw[sz];omega)) ⟨hX.no h1,dx,Zb⟩⟩
 | one k g =>
  rw[dsc] at hv
  rw[okG] at hok
  rw[ht] at hht h15
  rw[sz] at hn
  rw[sz] at q
  obtain⟨T,_,rfl,hTX,e,⟨_,_,rfl,⟨rfl,_⟩,v',_,rfl,hd,rfl⟩,_⟩:=hv
  have a1:=a1 (.str (wdO k)) v' []
  obtain⟨CC,hCC⟩:∃ CC,CC=c.o k:=⟨_,rfl⟩
  rcases fin3 k with rfl | rfl | rfl
  ·skip
   subst hσ
   refine go (setW rfl e ?_)
   iterate 8 refine Xr rfl (by decide +kernel) ?_
   refine Wh rfl fun N=>?_
   rw[← hCC]
   refine⟨_,rfl,.inl (.inr ⟨_,_,_,_,rfl,rfl,Uz e,a1,_,rfl,v',kp,g,n,X,rfl,hkX,hX,hd,hok,by omega,by omega,hK,by omega,fun o H' M1 hK1 hF1=>?_⟩)⟩
   intro x dx h1 h2 h12
   refine⟨x,dx,o,rfl,Zb,rfl,?_⟩
   rw[Xf]
   have E:=Ext.made (C:=CC) (fs:=[("inner",V.ref o)]) h1 h2 h12
   have M:=M1.ext E
   obtain⟨es1,ek1,_⟩:=hK1.e
   exact⟨_,M.sub (E.s _ _ ek1),q _ _ M ((hK1.keep (fun b u _ e=>E.s b u e) (by rw[E.s _ _ ek1,ek1])).le (by omega)) ⟨(hX.mv M1 ek1).no h1,dx,o,by rw[← hCC];exact Zb,FAt.keep (fun b u _ e=>E.s b u e) g hF1⟩⟩
  ·skip
   subst hσ
   refine go (setW rfl e ?_)
   iterate 9 refine Xr rfl (by decide +kernel) ?_
   refine Wh rfl fun N=>?_
   rw[← hCC]
   refine⟨_,rfl,.inl (.inr ⟨_,_,_,_,rfl,rfl,Uz e,a1,_,rfl,v',kp,g,n,X,rfl,hkX,hX,hd,hok,by omega,by omega,hK,by omega,fun o H' M1 hK1 hF1=>?_⟩)⟩
   intro x dx h1 h2 h12
   refine⟨x,dx,o,rfl,Zb,rfl,?_⟩
   rw[Xf]
   have E:=Ext.made (C:=CC) (fs:=[("inner",V.ref o)]) h1 h2 h12
   have M:=M1.ext E
   obtain⟨es1,ek1,_⟩:=hK1.e
   exact⟨_,M.sub (E.s _ _ ek1),q _ _ M ((hK1.keep (fun b u _ e=>E.s b u e) (by rw[E.s _ _ ek1,ek1])).le (by omega)) ⟨(hX.mv M1 ek1).no h1,dx,o,by rw[← hCC];exact Zb,FAt.keep (fun b u _ e=>E.s b u e) g hF1⟩⟩
  ·skip
   subst hσ
   refine go (setW rfl e ?_)
   iterate 10 refine Xr rfl (by decide +kernel) ?_
   rw[← hCC]
   refine⟨_,rfl,.inl (.inr ⟨_,_,_,_,rfl,rfl,Uz e,a1,_,rfl,v',kp,g,n,X,rfl,hkX,hX,hd,hok,by omega,by omega,hK,by omega,fun o H' M1 hK1 hF1=>?_⟩)⟩
   intro x dx h1 h2 h12
   refine⟨x,dx,o,rfl,Zb,rfl,?_⟩
   rw[Xf]
   have E:=Ext.made (C:=CC) (fs:=[("inner",V.ref o)]) h1 h2 h12
   have M:=M1.ext E
   obtain⟨es1,ek1,_⟩:=hK1.e
   exact⟨_,M.sub (E.s _ _ ek1),q _ _ M ((hK1.keep (fun b u _ e=>E.s b u e) (by rw[E.s _ _ ek1,ek1])).le (by omega)) ⟨(hX.mv M1 ek1).no h1,dx,o,by rw[← hCC];exact Zb,FAt.keep (fun b u _ e=>E.s b u e) g hF1⟩⟩
 | two k ns fs =>
  rw[dsc] at hv
  rw[okG] at hok
  rw[ht] at hht h15
  rw[sz] at hn
  obtain⟨hgn,hlen,hoks⟩:=hok
  obtain⟨T,_,rfl,hTX,e,⟨_,_,rfl,⟨rfl,_⟩,_,_,rfl,⟨l,lvs,rfl,hlX,el,hds,hl1000⟩,rfl⟩,_⟩:=hv
  have hvl:lvs.length=fs.length:=by rw[DsAt.len _ (DsX.at _ hds),Zch]
  have a1:=a1 (.str (wdT k)) (.ref l) []
  obtain⟨CC,hCC⟩:∃ CC,CC=c.t k:=⟨_,rfl⟩
  rcases fin2 k with rfl | rfl
  ·skip
   subst hσ
   refine go (setW rfl e ?_)
   iterate 6 refine Xr rfl (by decide +kernel) ?_
   refine Wh rfl fun N=>?_
   rw[← hCC]
   have hgm:=Ya hgn
   refine .inl ⟨_,rfl,.inl (.inr ⟨_,_,_,_,rfl,rfl,Uz e,a1,l,rfl,⟨_,Uy el⟩,fun D hD=>?_⟩)⟩
   have hDX:D∉X:=hX.no hD
   have hkD:kp≠D:=fun z=>by rw[← z,ek] at hD;cases hD
   refine Jz (K:=K) (a:=l) (xs:=lvs) (fun i ys H2=>Mv kp H H2∧∃ ps:List (Addr×Str×Addr),ys=ps.map (fun x=>V.ref x.1)∧nms ps=ns.take i∧(∀ x,x∈ps→x.1∉D::X∧H2 x.1=some (.tup [.str x.2.1,.ref x.2.2]))∧FsAt c (D::X) H2 (fs.take i) (fms ps)∧Kpt c (D::X) kp H2 (n+szs (fs.take i))) (fun σ=>∃ z1 z2,σ=[z1,z2,some (.ref kp)]) (by omega) ⟨_,_,rfl⟩ ?_ ?_ ?_ ?_
   ·rintro i ys H2 ⟨M2,_⟩
    exact Uy (M2.k _ _ (fun z=>hlX (by rw[z];exact hkX)) el)
   ·have E0:=Ext.lst (xs:=[]) hD
    refine⟨⟨fun b u _ e=>E0.s b u e,E0.c⟩,[],rfl,rfl,(fun x hx=>nomatch hx),rfl,?_⟩
    show Kpt c (D::X) kp _ (n+szs [])
    exact((hK.add hD).keep (fun b u _ e=>E0.s b u e) (by rw[E0.s _ _ ek,ek])).le (Nat.le_add_right _ _)
   ·rintro i x hx ys σ1 H1 ⟨z1,z2,rfl⟩ ⟨M1,ps,rfl,hnm,hps,hFs,hK1⟩ hD1 hyl R hR
    obtain⟨g,nm,T',v',hg,hn',rfl,hT'X,eT',hd⟩:=Qy fs ns hlen hds hx
    obtain⟨og,hg2⟩:=Zay hoks hg
    have hT'k:T'≠kp:=fun z=>hT'X (by rw[z];exact hkX)
    obtain⟨es1,ek1,_⟩:=hK1.e
    have hX1:Has (D::X) H1:=(hX.mv M1 ek1).add hD1
    have hil:i<fs.length:=by
     rcases UZ i fs.length with z | z
     ·exact z
     ·rw[Vh z] at hg;cases hg
    have etk:fs.take (i+1)=fs.take i++[g]:=by rw[UX,hg];rfl
    have esz:szs (fs.take (i+1))=szs (fs.take i)+sz g:=by rw[etk,Zdg]
    have hle:szs (fs.take (i+1))≤szs fs:=Zjk fs (i+1)
    refine⟨_,_,rfl,Uz (M1.k _ _ hT'k eT'),rfl,_,_,rfl,_,_,rfl,rfl,?_⟩
    refine⟨_,rfl,_,rfl,_,rfl,v',kp,g,n+szs (fs.take i),D::X,rfl,Ul _ hkX,hX1,DX.mv (Ul _ hkX) M1 (DX.add hD _ hd),og,by omega,by omega,hK1,by omega,fun o H3 M3 hK3 hF3=>⟨Jd,fun T2 hT2=>?_⟩⟩
    have E3:=Ext.tup (xs:=[V.str nm,.ref o]) hT2
    obtain⟨es3,ek3,_⟩:=hK3.e
    have hX3:=hX1.mv M3 ek3
    have hT2X:T2∉D::X:=hX3.no hT2
    have hD3:H3 D=some (.lst (ps.map fun x=>V.ref x.1)):=M3.k _ _ (Uh hkD) hD1
    have hD4:=E3.s _ _ hD3
    have hT2D:T2≠D:=fun z=>hT2X (by rw[z];exact Ux ..)
    have kk:∀ b u,b∉D::X→H3 b=some u→upd (upd H3 T2 (.tup [.str nm,.ref o])) D (.lst ((ps.map fun x=>V.ref x.1)++[V.ref T2])) b=some u:=fun b u nb e=>by
     rw[Zn (fun z=>nb (by rw[z];exact Ux ..))];exact E3.s _ _ e
    have k3:∀ b u,b∉D::X→H1 b=some u→H3 b=some u:=fun b u nb e=>M3.k b u (fun z=>nb (by rw[z];exact Ul _ hkX)) e
    refine hR _ _ _ ⟨_,_,rfl⟩ hD4 ⟨⟨fun b u nb e=>?_,fun cl=>Qb hD4 (E3.c (M3.c (M1.c cl)))⟩,ps++[(T2,nm,o)],by rw[UE];rfl,?_,fun y hy=>?_,?_,?_⟩
    ·rw[Zn (Xa e hD)]
     exact E3.s _ _ (M3.k b u nb (M1.k b u nb e))
    ·unfold nms at hnm ⊢
     rw[UE,hnm,UX,hn'];rfl
    ·rcases List.mem_append.mp hy with z | z
     ·obtain⟨b1,b2⟩:=hps y z
      exact⟨b1,kk _ _ b1 (k3 _ _ b1 b2)⟩
     ·rw[UD.mp z]
      exact⟨hT2X,by show upd _ D _ T2=_;rw[Zn hT2D,Zb]⟩
    ·rw[etk,show fms (ps++[(T2,nm,o)])=fms ps++[o] by unfold fms;rw[UE];rfl]
     exact FsAt.snoc (FAt.keep kk _ hF3) _ (FsAt.keep kk _ (FsAt.keep k3 _ hFs))
    ·rw[esz,← Nat.add_assoc]
     exact hK3.keep kk (by rw[Zn hkD];exact E3.s _ _ ek3 ▸ ek3.symm)
   ·rintro ys H' hyl hD' ⟨M',ps,rfl,hnm,hps,hFs,hK'⟩
    rw[hvl,UV (by omega)] at hnm
    rw[hvl,UV (Up _)] at hFs hK'
    rw[Uj] at hyl
    obtain⟨es',ek',_⟩:=hK'.e
    have hP:Parts H' D ps:=⟨hD',fun x hx=>(hps x hx).2,by omega,fun x hx=>UC (hgm.2 _ (by rw[← hnm];exact List.mem_map.mpr ⟨x,hx,rfl⟩)) (by decide)⟩
    intro y dx hy hdx hne
    have E1:=Ext.made (C:=CC) (fs:=[]) hy hdx hne
    refine⟨y,dx,D,ps,rfl,Zb,hP.same E1.s,by rw[hnm];exact hgn,fun l1 l2 h1 h2 h12=>⟨rfl,?_⟩⟩
    have n1:l1≠y:=fun z=>by rw[z,Zb] at h1;cases h1
    have n2:l2≠y:=fun z=>by rw[z,Zb] at h2;cases h2
    rw[Zbw n2,Zbw n1,Xf]
    have F1:=Ext.made (C:=CC) (fs:=twoF l1 l2) hy hdx hne
    have g1:upd (upd H' dx (.own y)) y (.ins CC dx (twoF l1 l2)) l1=none:=by rw[Zn n1] at h1 ⊢;exact h1
    have F2:=Ext.lst (xs:=(nms ps).map V.str) g1
    have g2:upd (upd (upd H' dx (.own y)) y (.ins CC dx (twoF l1 l2))) l1 (.lst ((nms ps).map V.str)) l2=none:=by rw[Zn (Uh h12)];rw[Zn n2] at h2 ⊢;exact h2
    have F3:=Ext.lst (xs:=(fms ps).map V.ref) g2
    have E:=(F1.trans F2).trans F3
    have M:=M'.ext E
    have hX':=hX.mv M' ek'
    refine⟨_,M.sub (E.s _ _ ek'),q _ _ M ((hK'.weak.keep (fun b u _ e=>E.s b u e) (by rw[E.s _ _ ek',ek'])).le (by rw[sz];omega)) ⟨hX'.no hy,dx,l1,l2,fms ps,by rw[← hCC];exact(F2.trans F3).s _ _ Zb,hX'.no (F1.s.free g1),hX'.no ((F1.trans F2).s.free g2),by rw[← hnm];exact F3.s _ _ Zb,Zb,FsAt.keep (fun b u _ e=>E.s b u e) _ (FsAt.weak (fun x hx=>Ul _ hx) _ hFs)⟩⟩
  ·skip
   subst hσ
   refine go (setW rfl e ?_)
   iterate 7 refine Xr rfl (by decide +kernel) ?_
   refine Wh rfl fun N=>?_
   rw[← hCC]
   have hgm:=Ya hgn
   refine .inl ⟨_,rfl,.inl (.inr ⟨_,_,_,_,rfl,rfl,Uz e,a1,l,rfl,⟨_,Uy el⟩,fun D hD=>?_⟩)⟩
   have hDX:D∉X:=hX.no hD
   have hkD:kp≠D:=fun z=>by rw[← z,ek] at hD;cases hD
   refine Jz (K:=K) (a:=l) (xs:=lvs) (fun i ys H2=>Mv kp H H2∧∃ ps:List (Addr×Str×Addr),ys=ps.map (fun x=>V.ref x.1)∧nms ps=ns.take i∧(∀ x,x∈ps→x.1∉D::X∧H2 x.1=some (.tup [.str x.2.1,.ref x.2.2]))∧FsAt c (D::X) H2 (fs.take i) (fms ps)∧Kpt c (D::X) kp H2 (n+szs (fs.take i))) (fun σ=>∃ z1 z2,σ=[z1,z2,some (.ref kp)]) (by omega) ⟨_,_,rfl⟩ ?_ ?_ ?_ ?_
   ·rintro i ys H2 ⟨M2,_⟩
    exact Uy (M2.k _ _ (fun z=>hlX (by rw[z];exact hkX)) el)
   ·have E0:=Ext.lst (xs:=[]) hD
    refine⟨⟨fun b u _ e=>E0.s b u e,E0.c⟩,[],rfl,rfl,(fun x hx=>nomatch hx),rfl,?_⟩
    show Kpt c (D::X) kp _ (n+szs [])
    exact((hK.add hD).keep (fun b u _ e=>E0.s b u e) (by rw[E0.s _ _ ek,ek])).le (Nat.le_add_right _ _)
   ·rintro i x hx ys σ1 H1 ⟨z1,z2,rfl⟩ ⟨M1,ps,rfl,hnm,hps,hFs,hK1⟩ hD1 hyl R hR
    obtain⟨g,nm,T',v',hg,hn',rfl,hT'X,eT',hd⟩:=Qy fs ns hlen hds hx
    obtain⟨og,hg2⟩:=Zay hoks hg
    have hT'k:T'≠kp:=fun z=>hT'X (by rw[z];exact hkX)
    obtain⟨es1,ek1,_⟩:=hK1.e
    have hX1:Has (D::X) H1:=(hX.mv M1 ek1).add hD1
    have hil:i<fs.length:=by
     rcases UZ i fs.length with z | z
     ·exact z
     ·rw[Vh z] at hg;cases hg
    have etk:fs.take (i+1)=fs.take i++[g]:=by rw[UX,hg];rfl
    have esz:szs (fs.take (i+1))=szs (fs.take i)+sz g:=by rw[etk,Zdg]
    have hle:szs (fs.take (i+1))≤szs fs:=Zjk fs (i+1)
    refine⟨_,_,rfl,Uz (M1.k _ _ hT'k eT'),rfl,_,_,rfl,_,_,rfl,rfl,?_⟩
    refine⟨_,rfl,_,rfl,_,rfl,v',kp,g,n+szs (fs.take i),D::X,rfl,Ul _ hkX,hX1,DX.mv (Ul _ hkX) M1 (DX.add hD _ hd),og,by omega,by omega,hK1,by omega,fun o H3 M3 hK3 hF3=>⟨Jd,fun T2 hT2=>?_⟩⟩
    have E3:=Ext.tup (xs:=[V.str nm,.ref o]) hT2
    obtain⟨es3,ek3,_⟩:=hK3.e
    have hX3:=hX1.mv M3 ek3
    have hT2X:T2∉D::X:=hX3.no hT2
    have hD3:H3 D=some (.lst (ps.map fun x=>V.ref x.1)):=M3.k _ _ (Uh hkD) hD1
    have hD4:=E3.s _ _ hD3
    have hT2D:T2≠D:=fun z=>hT2X (by rw[z];exact Ux ..)
    have kk:∀ b u,b∉D::X→H3 b=some u→upd (upd H3 T2 (.tup [.str nm,.ref o])) D (.lst ((ps.map fun x=>V.ref x.1)++[V.ref T2])) b=some u:=fun b u nb e=>by
     rw[Zn (fun z=>nb (by rw[z];exact Ux ..))];exact E3.s _ _ e
    have k3:∀ b u,b∉D::X→H1 b=some u→H3 b=some u:=fun b u nb e=>M3.k b u (fun z=>nb (by rw[z];exact Ul _ hkX)) e
    refine hR _ _ _ ⟨_,_,rfl⟩ hD4 ⟨⟨fun b u nb e=>?_,fun cl=>Qb hD4 (E3.c (M3.c (M1.c cl)))⟩,ps++[(T2,nm,o)],by rw[UE];rfl,?_,fun y hy=>?_,?_,?_⟩
    ·rw[Zn (Xa e hD)]
     exact E3.s _ _ (M3.k b u nb (M1.k b u nb e))
    ·unfold nms at hnm ⊢
     rw[UE,hnm,UX,hn'];rfl
    ·rcases List.mem_append.mp hy with z | z
     ·obtain⟨b1,b2⟩:=hps y z
      exact⟨b1,kk _ _ b1 (k3 _ _ b1 b2)⟩
     ·rw[UD.mp z]
      exact⟨hT2X,by show upd _ D _ T2=_;rw[Zn hT2D,Zb]⟩
    ·rw[etk,show fms (ps++[(T2,nm,o)])=fms ps++[o] by unfold fms;rw[UE];rfl]
     exact FsAt.snoc (FAt.keep kk _ hF3) _ (FsAt.keep kk _ (FsAt.keep k3 _ hFs))
    ·rw[esz,← Nat.add_assoc]
     exact hK3.keep kk (by rw[Zn hkD];exact E3.s _ _ ek3 ▸ ek3.symm)
   ·rintro ys H' hyl hD' ⟨M',ps,rfl,hnm,hps,hFs,hK'⟩
    rw[hvl,UV (by omega)] at hnm
    rw[hvl,UV (Up _)] at hFs hK'
    rw[Uj] at hyl
    obtain⟨es',ek',_⟩:=hK'.e
    have hP:Parts H' D ps:=⟨hD',fun x hx=>(hps x hx).2,by omega,fun x hx=>UC (hgm.2 _ (by rw[← hnm];exact List.mem_map.mpr ⟨x,hx,rfl⟩)) (by decide)⟩
    intro y dx hy hdx hne
    have E1:=Ext.made (C:=CC) (fs:=[]) hy hdx hne
    refine⟨y,dx,D,ps,rfl,Zb,hP.same E1.s,by rw[hnm];exact hgn,fun l1 l2 h1 h2 h12=>⟨rfl,?_⟩⟩
    have n1:l1≠y:=fun z=>by rw[z,Zb] at h1;cases h1
    have n2:l2≠y:=fun z=>by rw[z,Zb] at h2;cases h2
    rw[Zbw n2,Zbw n1,Xf]
    have F1:=Ext.made (C:=CC) (fs:=twoF l1 l2) hy hdx hne
    have g1:upd (upd H' dx (.own y)) y (.ins CC dx (twoF l1 l2)) l1=none:=by rw[Zn n1] at h1 ⊢;exact h1
    have F2:=Ext.lst (xs:=(nms ps).map V.str) g1
    have g2:upd (upd (upd H' dx (.own y)) y (.ins CC dx (twoF l1 l2))) l1 (.lst ((nms ps).map V.str)) l2=none:=by rw[Zn (Uh h12)];rw[Zn n2] at h2 ⊢;exact h2
    have F3:=Ext.lst (xs:=(fms ps).map V.ref) g2
    have E:=(F1.trans F2).trans F3
    have M:=M'.ext E
    have hX':=hX.mv M' ek'
    refine⟨_,M.sub (E.s _ _ ek'),q _ _ M ((hK'.weak.keep (fun b u _ e=>E.s b u e) (by rw[E.s _ _ ek',ek'])).le (by rw[sz];omega)) ⟨hX'.no hy,dx,l1,l2,fms ps,by rw[← hCC];exact(F2.trans F3).s _ _ Zb,hX'.no (F1.s.free g1),hX'.no ((F1.trans F2).s.free g2),by rw[← hnm];exact F3.s _ _ Zb,Zb,FsAt.keep (fun b u _ e=>E.s b u e) _ (FsAt.weak (fun x hx=>Ul _ hx) _ hFs)⟩⟩
theorem Zee{f f':Addr}{fd fd':FuncData}{c:FC}(nb:NB mg)(F:FunAt K mg "_law_new" Zei ["_law_form_here","_law_kept"] f fd)(F':FunAt K mg "_law_object" Zaf ["_law_form_here","_law_kept"] f' fd')
  (M0_Nothing:Mk0 K (c.b 0)) (m_Nothing:mg "Nothing"=some (.ref (c.b 0))) (M0_Truth:Mk0 K (c.b 1)) (m_Truth:mg "Truth"=some (.ref (c.b 1))) (M0_Whole:Mk0 K (c.b 2)) (m_Whole:mg "Whole"=some (.ref (c.b 2))) (M0_Fraction:Mk0 K (c.b 3)) (m_Fraction:mg "Fraction"=some (.ref (c.b 3)))
  (M_Span:MakeOk P w K mg base 1 "Span" c.s ["self","low","high"] (spSpanInit c.s)) (M_Letters:MakeOk P w K mg base 2 "Letters" c.l ["self","signs"] (spLetInit c.l)) (M_Record:MakeOk P w K mg base 4 "Record" (c.t 0) ["self","parts"] (spTwoInit (c.t 0))) (M_Choice:MakeOk P w K mg base 4 "Choice" (c.t 1) ["self","cases"] (spTwoInit (c.t 1)))
  (M_Maybe:MakeOk P w K mg base 1 "Maybe" (c.o 0) ["self","inner"] (spOneInit (c.o 0))) (M_Many:MakeOk P w K mg base 1 "Many" (c.o 1) ["self","inner"] (spOneInit (c.o 1))) (M_Turned:MakeOk P w K mg base 1 "Turned" (c.o 2) ["self","inner"] (spOneInit (c.o 2))):∀ d,DefOk P w K mg base (2*d+8) "_law_object" ["_law_form_here","_law_kept"] (spObj c d)
 | 0=>DefOk.none F' fun vs H Q E z=>by obtain⟨_,_,g,_,_,_,_,_,_,_,h,_⟩:=z;have:=Zfr g;omega
 | d+1=>Zil F' (Znl nb F M0_Nothing m_Nothing M0_Truth m_Truth M0_Whole m_Whole M0_Fraction m_Fraction M_Span M_Letters M_Record M_Choice M_Maybe M_Many M_Turned (Zee nb F F' M0_Nothing m_Nothing M0_Truth m_Truth M0_Whole m_Whole M0_Fraction m_Fraction M_Span M_Letters M_Record M_Choice M_Maybe M_Many M_Turned d))
def spMade(c:FC)(d:Nat):Sp:=fun vs H Q _=>∃ (vf:V) (f:Fm) (X:List Addr),vs=[vf]∧Has X H∧DX X H (dsc f) vf∧okG f∧ht f≤d∧ht f≤15∧sz f≤1000∧∀ o H',Ext H H'→FAt c X H' f o→Q (.ref o) H'
theorem Zlp{d:Nat}(F:FunAt K mg "_law_made" Zfi ["_law_form_here"] f fd)(D_law_object:DefOk P w K mg base (2*d+8) "_law_object" ["_law_form_here","_law_kept"] (spObj c d)):DefOk P w K mg base (2*d+9) "_law_made" ["_law_form_here"] (spMade c d):=by
 refine F.ok Zpp (fun vs H Q E h=>?_) (fun cdv A outer s H vs Q E hr h=>?_)
 ·obtain⟨_,_,_,rfl,_⟩:=h;rfl
 obtain⟨vf,g,X,rfl,hX,hv,hok,hht,h15,hsz,q⟩:=h
 refine⟨_,(Zf (Zj (Zi D_law_object hr (Za (pv 0) (Za (Yp Ze) Ze)) (hk:=by omega)))),?_⟩
 try dsimp only[cxK0,cxK1,cxK2,cxK3]
 refine⟨_,rfl,UF _,fun kp hkp=>?_⟩
 have E0:=Ext.lst (xs:=[]) hkp
 refine⟨vf,kp,g,0,kp::X,rfl,Ux ..,(hX.ext E0.s).add Zb,(DX.add hkp _ hv).same E0.s,hok,hht,h15,⟨[],Zb,Up _,fun e he=>nomatch he⟩,by omega,fun o H' M hK hF=>?_⟩
 have E1:Ext H H':=⟨fun b u e=>M.k b u (Xa e hkp) (E0.s _ _ e),fun cl=>M.c (E0.c cl)⟩
 exact⟨_,E1.sub,q o H' E1 (FAt.weak (fun x hx=>Ul _ hx) _ hF)⟩
def spFrac:Sp:=fun vs H Q _=>∃ a b:Int,vs=[.int a,.int b]∧∀ (p q:Int) (t:Addr) (H':Hp),Ext H H'→H t=none→H' t=some (.tup [.int p,.int q])→Zv (.tup [.int p,.int q])=true→(a=0∧b=0→p=0∧q=1)→Q (.ref t) H'
theorem Zph:3≤sizeLine:=by decide
theorem Zix(nb:NB mg)(F:FunAt K mg "_law_fraction" Zav ["_law_one","_law_other"] f fd):DefOk P w K mg base 1 "_law_fraction" ["_law_one","_law_other"] spFrac:=by
 refine F.ok Yc (fun vs H Q E h=>?_) (fun cdv A outer s H vs Q E hr h=>?_)
 ·obtain⟨_,_,rfl,_⟩:=h;rfl
 obtain⟨a,b,rfl,q⟩:=h
 refine⟨_,(Zc (Zp (i:=2) Yc.nd rfl (by exact Or.inl rfl) (Zh oMul (Zh Xc (Zh Zcd (pv 0) Zd) (Zs iAll (Yp (Za Zd (Za Zd (Za (Zh Zkh Zd Zd) Ze)))) (Zh Xc (pv 0) Zd) (fun _ _=>rfl))) (Zs iAll (Yp (Za Zd (Za (Zbk Jk Zd) Ze))) (Zh Xc (pv 1) Zd) (fun _ _=>rfl))))
  (Zc (Zp (i:=3) Yc.nd rfl (by exact Or.inl rfl) (Zh oAdd Zd (Zh Xc (Zh Zcd (pv 1) Zd) (Zs iAll (Yp (Za Zd (Za Zd (Za (Zh Zkh Zd Zd) Ze)))) (Zh Xc (Zh Zcd (pv 1) Zd) Zd) (fun _ _=>rfl)))))
  (Zc (Zp (i:=4) Yc.nd rfl (by exact Or.inl rfl) (Zm Zyd rfl nb.abs_ Xca (Za (pv 2) Ze)))
  (Zc (Zp (i:=5) Yc.nd rfl (by exact Or.inl rfl) (pv 3))
  (Zc (Qu PassesOwn.never (Zl oGt (pv 4) Zd (Zk _))
   (Zc (Zp (i:=6) Yc.nd rfl (by exact Or.inl rfl) (Zh Xc (pv 5) (pv 4)))
   (Zc (Zp (i:=5) Yc.nd rfl (by exact Or.inl rfl) (pv 4))
   (Zf (Zp (i:=4) Yc.nd rfl (by exact Or.inl rfl) (pv 6))))))
  (Zf (Zj (Yz (Za (Zh Zcd (pv 2) (pv 5)) (Za (Zh Zcd (pv 3) (pv 5)) Ze)))))))))),?_⟩
 try dsimp only[cxK0,cxK1,cxK2,cxK3]
 have pw:CPow 10 38:=by refine⟨?_,?_,?_⟩<;>decide
 obtain⟨M,hM,hM1⟩:=Zbb V.int [10,1000,10 ^ Int.toNat 38] a 3 rfl (by show 0<3;decide)
 have hMb:0<M∧M≤10 ^ 38:=by
  have:∀ y∈([10,1000,10 ^ Int.toNat 38]:List Int),0<y∧y≤10 ^ 38:=by decide +kernel
  exact this M hM
 obtain⟨S,hS,hS1⟩:=Zbb V.int [1,-1] b 2 rfl (by show 0<2;decide)
 have hSb:S=1∨S = -1:=by simpa using hS
 obtain⟨N,hN,hN1⟩:=Zbb V.int [6,1000,10 ^ Int.toNat 38] (b/2) 3 rfl (by show 0<3;decide)
 have hNb:0<N∧N≤10 ^ 38:=by
  have:∀ y∈([6,1000,10 ^ Int.toNat 38]:List Int),0<y∧y≤10 ^ 38:=by decide +kernel
  exact this N hN
 have hcm:CMul (a/3%M) S:=by rcases hSb with rfl | rfl<;>exact .inr ⟨by decide,by decide⟩
 have m0:=UO (a/3) (show M≠0 by omega)
 have m1:=UK (a/3) hMb.1
 have n0:=UO (b/6) (show N≠0 by omega)
 have n1:=UK (b/6) hNb.1
 refine⟨_,rfl,_,_,rfl,rfl,⟨by decide,.inl (by decide)⟩,_,_,rfl,rfl,pw,Zph,fun g1 hg1=>⟨_,rfl,_,_,rfl,rfl,(by show (0:Int)<3;decide),.inl (.inl ⟨_,_,_,_,rfl,rfl,Uy Zb,hM1,_,_,rfl,rfl,hMb.1,_,rfl,Jd,fun g2 hg2=>⟨_,rfl,_,_,rfl,rfl,(by show (0:Int)<2;decide),.inl (.inl ⟨_,_,_,_,rfl,rfl,Uy Zb,hS1,.inl ⟨_,_,rfl,rfl,hcm,?_⟩⟩)⟩⟩)⟩⟩
 have X2:=(Ext.lst (xs:=[V.int 10,.int 1000,.int (10 ^ Int.toNat 38)]) hg1).trans (Ext.lst (xs:=[V.int 1,.int (-1)]) hg2)
 have hT:(a/3%M*S).natAbs≤10 ^ 38:=by rcases hSb with rfl | rfl<;>omega
 have hT0:a=0→a/3%M*S=0:=by rintro rfl;rw[Int.zero_ediv,Int.zero_emod,Int.zero_mul]
 dsimp only
 generalize a/3%M*S=T at hT hT0 ⊢
 refine⟨_,rfl,_,_,rfl,rfl,⟨by decide,.inl (by decide)⟩,_,_,rfl,rfl,pw,Zph,fun g3 hg3=>⟨_,rfl,_,_,rfl,rfl,⟨by decide,.inl (by decide)⟩,_,_,rfl,rfl,(by show (0:Int)<3;decide),.inl (.inl ⟨_,_,_,_,rfl,rfl,Uy Zb,hN1,_,_,rfl,rfl,hNb.1,.inl ⟨_,_,rfl,rfl,?_⟩⟩)⟩⟩
 have X3:=X2.trans (Ext.lst (xs:=[V.int 6,.int 1000,.int (10 ^ Int.toNat 38)]) hg3)
 have hB:0<1+b/6%N∧1+b/6%N≤10 ^ 38:=by omega
 have hB0:b=0→1+b/6%N=1:=by rintro rfl;rw[Int.zero_ediv,Int.zero_emod];rfl
 dsimp only
 generalize 1+b/6%N=B at hB hB0 ⊢
 generalize upd (upd (upd H g1 _) g2 _) g3 _=H3 at X3 ⊢
 refine⟨_,rfl,_,rfl,_,rfl,?_⟩
 obtain⟨B,rfl⟩:∃ n:Nat,B=n:=⟨B.toNat,by omega⟩
 refine⟨fun m σ H2=>H3=H2∧∃ (y:Nat) (z6:Option V),σ=[some (.int a),some (.int b),some (.int T),some (.int (B:Int)),some (.int (m:Nat)),some (.int (y:Nat)),z6]∧Nat.gcd y m=Nat.gcd B T.natAbs∧0<y,⟨T.natAbs,rfl,B,none,?_,rfl,by omega⟩,?_⟩
 ·rw[show (if T<0 then -T else T)=((T.natAbs:Nat):Int) by split<;>omega];rfl
 rintro m σ H2 ⟨rfl,y,z6,rfl,hg,hy⟩
 refine⟨_,rfl,_,_,rfl,rfl,_,rfl,?_⟩
 refine iteD (fun c=>?_) (fun c=>?_)
 ·have hm:0<m:=by omega
  refine⟨fun σ' H'=>∃ m',m'<m∧(H3=H'∧∃ (y:Nat) (z6:Option V),σ'=[some (.int a),some (.int b),some (.int T),some (.int (B:Int)),some (.int (m':Nat)),some (.int (y:Nat)),z6]∧Nat.gcd y m'=Nat.gcd B T.natAbs∧0<y),fun _ _ h=>h,?_⟩
  refine⟨_,rfl,_,rfl,_,_,rfl,rfl,(by omega),_,rfl,_,rfl,y%m,Nat.mod_lt _ hm,rfl,m,some (.int ((y%m:Nat):Int)),?_,?_,hm⟩
  ·dsimp only
   rw[← Int.natCast_emod];rfl
  ·rw[Nat.gcd_comm,← Nat.gcd_rec,Nat.gcd_comm];exact hg
 ·have hm:m=0:=by omega
  subst hm
  rw[Nat.gcd_zero_right] at hg
  have hyB:y≤B:=by rw[hg];exact Nat.gcd_le_left _ (by omega)
  have dvT:(y:Int)∣T:=by rw[hg];exact Int.ofNat_dvd_left.mpr (Nat.gcd_dvd_right _ _)
  have dvB:(y:Int)∣(B:Int):=by rw[hg];exact Int.natCast_dvd_natCast.mpr (Nat.gcd_dvd_left _ _)
  have hbl:Builtin.Int.intBits (y:Int)≤9000:=by
   rw[Zeq]
   have h38:(10:Nat) ^ 38<2 ^ 200:=by decide +kernel
   exact UC (Yh (show y<2 ^ 200 by omega)) (by decide)
  refine⟨_,rfl,_,rfl,_,_,rfl,rfl,⟨by omega,.inl hbl⟩,_,rfl,_,rfl,_,_,rfl,rfl,⟨by omega,.inl hbl⟩,Jd,fun t ht=>?_⟩
  have X4:=X3.trans (Ext.tup (xs:=[V.int (T/(y:Int)),.int ((B:Int)/(y:Int))]) ht)
  refine⟨_,X4.sub,q _ _ t _ X4 (X3.s.free ht) Zb (Ut ⟨?_,?_,?_,?_⟩) (fun z=>?_)⟩
  ·exact Int.ediv_pos_of_pos_of_dvd (by omega) (by omega) dvB
  ·have:Int.gcd T (B:Int)=y:=by rw[hg,Nat.gcd_comm];rfl
   rw[← this]
   exact Int.gcd_ediv_gcd_ediv_gcd (by rw[this];exact hy)
  ·have:=Int.natAbs_ediv_le_natAbs T (y:Int)
   omega
  ·have:=Int.ediv_le_self (a:=(B:Int)) (y:Int) (by omega)
   omega
  ·have h1:=hT0 z.1
   have h2:=hB0 z.2
   have h3:y=1:=by omega
   rw[h1,h2,h3];exact⟨rfl,rfl⟩
def spSize:Sp:=fun vs H Q _=>∃ (vf:V) (c:Int) (p:Addr) (f:Fm) (X:List Addr),vs=[vf,.int c,.ref p]∧DX X H (dsc f) vf∧Pool p H∧okG f∧((∃ s,f = .le s∧∀ n:Nat,n≤200→(c=0→n=0)→Q (.int ((n:Nat):Int)) H)∨(∃ g,f = .one 1 g∧∀ n:Nat,n≤60→(n≤3∨sz g=1)→(c=0→n=0)→Q (.int ((n:Nat):Int)) H))
theorem iteBC{b:Bool}{A B:Prop}(h1:b=true→A)(h2:b=false→B):if b=true then A else B:=by
 cases b
 ·exact iteF (h2 rfl)
 ·exact iteT (h1 rfl)
theorem Xbu{w a b:Str}(h1:w≠a)(h2:w≠b):inV (.str w) [.str a,.str b]=false:=by
 have e1:eqV (.str a) (.str w)=false:=by simp[eqV,Uh h1]
 have e2:eqV (.str b) (.str w)=false:=by simp[eqV,Uh h2]
 unfold inV
 rw[List.any_cons,List.any_cons,e1,e2];rfl
theorem Zsw:(∀ k:Fin 3,wdO k≠Str.ofString "truth"∧wdO k≠Str.ofString "nothing")∧(∀ k:Fin 2,wdT k≠Str.ofString "truth"∧wdT k≠Str.ofString "nothing")∧(wSp≠Str.ofString "truth"∧wSp≠Str.ofString "nothing")∧wLe≠Str.ofString "truth"∧wLe≠Str.ofString "nothing":=by decide +kernel
theorem Xan:∀ f:Fm,∃ w r,dsc f = .tup (.str w::r)∧(r=[]∧sz f=1∨r≠[]∧w≠Str.ofString "truth"∧w≠Str.ofString "nothing")
 | .bare k=>⟨_,_,by rw[dsc],.inl ⟨rfl,by rw[sz]⟩⟩
 | .sp a b=>⟨_,_,by rw[dsc],.inr ⟨Vd _ _,Zsw.2.2.1⟩⟩
 | .le s=>⟨_,_,by rw[dsc],.inr ⟨Vd _ _,Zsw.2.2.2⟩⟩
 | .one k f=>⟨_,_,by rw[dsc],.inr ⟨Vd _ _,Zsw.1 k⟩⟩
 | .two k ns fs=>⟨_,_,by rw[dsc],.inr ⟨Vd _ _,Zsw.2.1 k⟩⟩
theorem Zqe(nb:NB mg)(F:FunAt K mg "_law_size" Zfe ["_law_form_here","_law_cell","_law_pool_here"] f fd):DefOk P w K mg base 1 "_law_size" ["_law_form_here","_law_cell","_law_pool_here"] spSize:=by
 refine F.ok Zpm (fun vs H Q E h=>?_) (fun cdv A outer s H vs Q E hr h=>?_)
 ·obtain⟨_,_,_,_,_,rfl,_⟩:=h;rfl
 obtain⟨vf,c,p,g,X,rfl,hv,⟨ms,hp,hpl⟩,hok,hc⟩:=h
 refine useT _ (Zc (Zz (PW.pt (Zcv (Zl oEq (Zs iAll (pv 0) Zd (fun _ _=>rfl)) Zu (Zk _)) (Zan (Zl oEq (Zh Xc (Zh Xu (pv 1) Zd) Zd) Zd (Zk _))))) (Zf (Zj (Zh Xc (Zh Xu (pv 1) Zd) Zd))) Zo)
  (Zc (Zz (Zl oEq (Zs iAll (pv 0) Zd (fun _ _=>rfl)) Zu (Zk _)) (Zf (Zj (Zs iAll (Yp (Za (Zh Xc (pv 1) Zd) (Za Zd Ze))) (Wc Jj rfl nb.int_ Zba (Za (Yu (Xj oEq (Zh Xc (pv 1) Zd) Zd (Zk _)) (Yu (Xj oLt (Zm Zt rfl nb.len_ Xg (Za (Zs iAll (pv 0) Zd (fun _ _=>rfl)) Ze)) Zd (Zk _)) (Wl (Xj oGt (Zm Zt rfl nb.len_ Xg (Za (pv 2) Ze)) Zd (Zk _))))) Ze)) (fun _ _=>rfl)))) Zo)
  (Zc (Zz (Zl Zun (Zs iAll (Zs iAll (pv 0) Zd (fun _ _=>rfl)) Zd (fun _ _=>rfl)) (Yp (Za Zu (Za Zu Ze))) (by with_unfolding_all rfl)) (Zf (Zj (Zh Xc (Zh Xu (pv 1) Zd) Zd))) Zo)
  (Zc (Zz (PW.pt (Zcv (Zl oEq (Zm Zt rfl nb.len_ Xg (Za (Zs iAll (pv 0) Zd (fun _ _=>rfl)) Ze)) Zd (Zk _)) (Zan (Zl oEq (Zh Xc (Zh Xu (pv 1) Zd) Zd) Zd (Zk _))))) (Zf (Zj (Zh Xc (Zh Xu (pv 1) Zd) Zd))) Zo)
  (Zf (Zj (Zh Xc (pv 1) (Zs iAll (Yp (Za Zd (Za Zd Ze))) (Wc Jj rfl nb.int_ Zba (Za (Xj oGt (Zm Zt rfl nb.len_ Xg (Za (pv 2) Ze)) Zd (Zk _)) Ze)) (fun _ _=>rfl))))))))) fun G σ0 hσ go=>?_
 try dsimp only[cxK0,cxK1,cxK2,cxK3] at go
 have a0:∀ (x:V) (r:List V),atI (x::r) 0=some x:=fun x r=>Zx (j:=0) rfl
 have a1:∀ (x y:V) (r:List V),atI (x::y::r) 1=some y:=fun x y r=>Zx (j:=1) rfl
 rcases hc with⟨sg,rfl,q⟩ | ⟨g,rfl,q⟩
 ·rw[dsc] at hv
  rw[okG] at hok
  obtain⟨T,_,rfl,hTX,e,⟨_,_,rfl,⟨rfl,_⟩,_,_,rfl,⟨rfl,hsl⟩,rfl⟩,_⟩:=hv
  obtain⟨n,hn,en⟩:=Wa c 7 (by decide)
  have en:c%7=((n:Nat):Int):=en
  obtain⟨n',hn',en'⟩:=Wa (c/56) 41 (by decide)
  subst hσ
  refine go ?_
  refine⟨_,rfl,.inl (.inr ⟨_,_,_,_,rfl,rfl,Uz e,a0 _ _,rfl,_,rfl,iteY rfl ?_⟩)⟩
  refine⟨_,rfl,_,_,rfl,rfl,⟨by decide,by decide⟩,_,_,rfl,rfl,(by show (0:Int)<8;decide),rfl,_,rfl,iteD (fun c1=>?_) (fun c1=>?_)⟩
  ·have en:c/56%41=((n':Nat):Int):=en'
   refine⟨_,rfl,_,_,rfl,rfl,⟨by decide,by decide⟩,_,_,rfl,rfl,(by show (0:Int)<41;decide),H,.refl (Vy _),?_⟩
   dsimp only
   rw[en];exact q n' (by omega) (by rintro rfl;omega)
  refine⟨_,rfl,.inl (.inr ⟨_,_,_,_,rfl,rfl,Uz e,a0 _ _,rfl,_,rfl,iteY rfl ?_⟩)⟩
  refine⟨_,rfl,_,_,rfl,rfl,(by show (0:Int)<7;decide),Jd,fun g1 hg1=>?_⟩
  have X1:=Ext.lst (xs:=[V.int (c%7),.int 200]) hg1
  have fin:∀ b:Bool,(b=true→c%41=40)→∃ v:Nat,(v≤200∧(c=0→v=0))∧atI [V.int (c%7),.int 200] (if b=true then 1 else 0)=some (.int ((v:Nat):Int)):=fun b hb=>by
   cases b
   ·exact⟨n,⟨by omega,by rintro rfl;omega⟩,by rw[en];exact Zx (j:=0) rfl⟩
   ·exact⟨200,⟨by omega,by rintro rfl;exact absurd (hb rfl) (by decide)⟩,Zx (j:=1) rfl⟩
  have hsl60:sg.length≤sizeLine:=Xo (by omega)
  refine⟨_,rfl,_,_,rfl,rfl,(by show (0:Int)<41;decide),rfl,_,rfl,iteD (fun c2=>?_) (fun c2=>?_)⟩
  ·refine⟨_,rfl,.inl (.inr ⟨_,_,_,_,rfl,rfl,Uz (X1.s _ _ e),a1 _ _ _,_,_,rfl,⟨hsl60,rfl⟩,.inl ⟨_,_,rfl,rfl,_,rfl,iteD (fun c3=>?_) (fun c3=>?_)⟩⟩)⟩
   ·refine⟨_,rfl,_,_,rfl,.inl ⟨_,Uy (X1.s _ _ hp),rfl⟩,_,_,rfl,rfl,?_⟩
    obtain⟨v,hv1,hv2⟩:=fin (decide (70<(((ms.map V.int).length:Nat):Int))) (fun _=>V.int.inj c2)
    exact .inl (.inr ⟨_,rfl,.inl (.inl ⟨_,_,_,_,rfl,rfl,Uy Zb,hv2,H,.refl X1.s,q v hv1.1 hv1.2⟩)⟩)
   ·obtain⟨v,hv1,hv2⟩:=fin false (fun z=>nomatch z)
    exact .inl (.inr ⟨_,rfl,.inl (.inl ⟨_,_,_,_,rfl,rfl,Uy Zb,hv2,H,.refl X1.s,q v hv1.1 hv1.2⟩)⟩)
  ·obtain⟨v,hv1,hv2⟩:=fin false (fun z=>nomatch z)
   exact .inl (.inr ⟨_,rfl,.inl (.inl ⟨_,_,_,_,rfl,rfl,Uy Zb,hv2,H,.refl X1.s,q v hv1.1 hv1.2⟩)⟩)
 ·rw[dsc] at hv
  rw[okG] at hok
  obtain⟨T,_,rfl,hTX,e,⟨_,_,rfl,⟨rfl,_⟩,v',_,rfl,hd,rfl⟩,_⟩:=hv
  obtain⟨w',r',er,ew⟩:=Xan g
  rw[er] at hd
  obtain⟨T',ws,rfl,hT'X,e',⟨_,ws',rfl,⟨rfl,hw'⟩,hr'⟩,hwl⟩:=hd
  subst hσ
  refine go ?_
  refine⟨_,rfl,.inl (.inr ⟨_,_,_,_,rfl,rfl,Uz e,a0 _ _,rfl,_,rfl,iteN (by decide +kernel) ?_⟩)⟩
  refine⟨_,rfl,.inl (.inr ⟨_,_,_,_,rfl,rfl,Uz e,a0 _ _,rfl,_,rfl,iteN (by decide +kernel) ?_⟩)⟩
  refine⟨_,rfl,.inl (.inr ⟨_,_,_,_,rfl,rfl,Uz e,a1 _ _ _,.inl (.inr ⟨_,_,_,_,rfl,rfl,Uz e',a0 _ _,Jd,fun g1 hg1=>?_⟩)⟩)⟩
  have X1:=Ext.lst (xs:=[V.str (Str.ofString "truth"),.str (Str.ofString "nothing")]) hg1
  have cl:∀ (m:Nat) (x:Int),0<m→m≤61→(m≤4∨sz g=1)→(c=0→x=0)→∀ H',Same H H'→∃ H'',L2.Sub H H'' H'∧Q (.int (x%((m:Nat):Int))) H'':=fun m x h1 h2 h3 h4 H' hs=>by
   obtain⟨n,hn,en⟩:=Wa x m h1
   have h5:c=0→n=0:=fun z=>by rw[h4 z,Int.zero_emod] at en;omega
   rw[en]
   exact⟨H,.refl hs,q n (by omega) (by omega) h5⟩
  refine⟨_,_,rfl,.inl (Uy Zb),rfl,rfl,_,rfl,iteBC (fun cb=>?_) (fun _=>?_)⟩
  ·have sz1:sz g=1:=by
    rcases ew with⟨_,z⟩ | ⟨_,z1,z2⟩
    ·exact z
    ·exfalso
     exact absurd (cb.symm.trans (Xbu z1 z2)) (by decide)
   exact⟨_,rfl,_,_,rfl,rfl,⟨by decide,by decide⟩,_,_,rfl,rfl,(by show (0:Int)<61;decide),cl 61 _ (by decide) (by decide) (.inr sz1) (by rintro rfl;rfl) _ X1.s⟩
  have fin:∀ H',Same H H'→∀ b:Bool,∃ v:Nat,(0<v∧v≤4)∧atI [V.int 2,.int 4] (if b=true then 1 else 0)=some (.int ((v:Nat):Int)):=fun _ _ b=>by
   cases b
   ·exact⟨2,by omega,Zx (j:=0) rfl⟩
   ·exact⟨4,by omega,Zx (j:=1) rfl⟩
  refine⟨_,rfl,.inl (.inr ⟨_,_,_,_,rfl,rfl,Uz (X1.s _ _ e),a1 _ _ _,_,_,rfl,.inr ⟨_,Uz (X1.s _ _ e'),rfl⟩,rfl,_,rfl,(fun(hA:_)=>iteD (fun c2=>⟨_,rfl,_,_,rfl,rfl,⟨by decide,by decide⟩,_,_,rfl,rfl,(by show (0:Int)<8;decide),rfl,_,rfl,iteD (fun c3=>?_) (fun c3=>hA)⟩) (fun c2=>hA)) ?_⟩)⟩
  ·refine⟨_,rfl,Jd,fun g2 hg2=>?_⟩
   have X2:=X1.trans (Ext.lst (xs:=[V.int 2,.int 4]) hg2)
   obtain⟨v,⟨hv0,hv1⟩,hv2⟩:=fin _ X2.s (decide (50<(((ms.map V.int).length:Nat):Int)))
   exact⟨_,rfl,_,_,rfl,.inl ⟨_,Uy (X2.s _ _ hp),rfl⟩,_,_,rfl,rfl,.inl (.inr ⟨_,rfl,.inl (.inl ⟨_,_,_,_,rfl,rfl,Uy Zb,hv2,_,_,rfl,rfl,(by omega),cl v _ hv0 (by omega) (.inl hv1) id _ X2.s⟩)⟩)⟩
  ·have sz2:sz g=1:=by
    rcases ew with⟨_,z⟩ | ⟨z,_⟩
    ·exact z
    ·exfalso
     have:=V.int.inj c2
     rw[Uq] at this
     have h2:=DsAt.len _ (DsX.at _ hr')
     exact z (List.length_eq_zero_iff.mp (by omega))
   exact⟨_,rfl,_,_,rfl,rfl,⟨by decide,by decide⟩,_,_,rfl,rfl,(by show (0:Int)<13;decide),cl 13 _ (by decide) (by decide) (.inr sz2) (by rintro rfl;rfl) _ X1.s⟩
theorem Znh{n:Int}(h:WholeIn n):(whl n).length≤270:=by
 obtain⟨h1,h2⟩:=h
 have key:∀ m:Nat,m+1<2 ^ 255→(cnt m).length≤269:=fun m hm=>by
  have:=Zde hm
  have:=Yh hm
  omega
 unfold whl
 split
 ·rw[Uq,Uj]
  have:=key (-1 - n).toNat (by omega)
  omega
 ·rw[Uq]
  have:=key n.toNat (by omega)
  omega
theorem Zql:∀ (s:List Int),(∀ x∈s,CountIn (x - 1))→(more s).length≤271*s.length+1
 | [],_=>by rw[more];exact Up _
 | b::r,h=>by
  obtain⟨h1,h2⟩:=h b (Ux ..)
  have hm:(b - 1).toNat+1<2 ^ 255:=by omega
  have a1:=Zde hm
  have a2:=Yh hm
  have:=Zql r fun x hx=>h x (Ul _ hx)
  rw[more,Uq,Uj,Uo,Uq]
  omega
theorem Zve{d:D}(h:Zv d=true):(Xk d).length≤100000:=by
 obtain⟨p,q,rfl,h1,h2,h3,h4,h5,h6⟩:=Zdc h
 show (frow (euc p q)).length≤_
 rw[Jc h1] at h4 h5 h6 ⊢
 rw[frow,Uo]
 have a1:=Znh (h5 _ (Ux ..))
 have a2:=Zql _ h6
 have a3:((p/q::euc q (p%q)).drop 1).length=(euc q (p%q)).length:=rfl
 rw[Uq] at h4
 rw[a3] at a2
 have a4:(more ((p/q::euc q (p%q)).drop 1)).length=(more (euc q (p%q))).length:=rfl
 omega
theorem Zvd:(Xk (.tup [.int 0,.int 1])).length≤300:=by
 show (frow (euc 0 1)).length≤_
 rw[Jc (by decide)]
 show (frow (0::euc 1 0)).length≤_
 rw[Qx];decide +kernel
theorem Xaa{s t:Str}(h:s.length≤60):(letRow s (.str t)).length≤7*t.length+1:=by
 have hb:blen (s.length - 1)≤6:=Yh (w:=6) (by omega)
 have key:∀ l:List Nat,((l.map fun c=>true::Xh (s.cps.toList.idxOf c) (blen (s.length - 1))).flatten).length≤7*l.length:=by
  intro l
  induction l with
  | nil=>exact Up _
  | cons c l ih =>
   rw[UP,Vf,Uo,Uq,Xe,Uq]
   omega
 show (_++[false]).length≤_
 rw[Uo]
 have:=key t.cps.toList
 rw[UM] at this
 exact Nat.succ_le_succ this
theorem Zmb{fw:D→List Bool}{f:Fm}{d:D}:∀ (fs:List Fm) (ds:List D),ds.length=fs.length→rowL fw (fs++[f]) (ds++[d])=rowL fw fs ds++rowB fw f d
 | [],[],_=>by
  show rowL fw (f::[]) (d::[])=rowL fw [] []++_
  rw[rowL,rowL,rowL]
  show rowB fw f d++[]=[]++_
  rw[List.append_nil,List.nil_append]
 | [],_::_,h=>by cases h
 | _::_,[],h=>by cases h
 | g::fs,e::ds,h=>by
  have:=Zmb fs ds (by simpa using h) (fw:=fw) (f:=f) (d:=d)
  show rowL fw (g::(fs++[f])) (e::(ds++[d]))=rowL fw (g::fs) (e::ds)++_
  rw[rowL,rowL]
  show rowB fw g e++rowL fw (fs++[f]) (ds++[d])=rowB fw g e++rowL fw fs ds++_
  rw[this,UH]
def Rb(m m' L s:Nat):Prop:=m'≤m∧(L≤150000*(m - m')∨m=0∧L≤300*s)
def Nx(m m1:Nat)(c:Int):Prop:=m=m1+1∨m=0∧m1=0∧c=0
theorem Rb.leaf{m m1 L s:Nat}{c:Int}(hc:Nx m m1 c)(hs:1≤s)(hL:L≤150000)(hz:c=0→L≤300):Rb m m1 L s:=by
 rcases hc with z | ⟨z1,z2,z3⟩
 ·exact⟨by omega,.inl (by omega)⟩
 ·have:=hz z3
  exact⟨by omega,.inr ⟨z1,by omega⟩⟩
theorem Rb.wrap{m m1 m' L L' s s':Nat}{c:Int}(hc:Nx m m1 c)(h:Rb m1 m' L s)(hs:s+1≤s')(hs':s'≤150)(hL:L'≤L+300):Rb m m' L' s':=by
 obtain⟨h1,h2⟩:=h
 rcases hc with z | ⟨z1,z2,z3⟩
 ·exact⟨by omega,.inl (by omega)⟩
 ·exact⟨by omega,.inr ⟨z1,by omega⟩⟩
theorem Zhm{p:Addr}{H H':Hp}(X:Ext H H')(h:Pool p H):pl H' p=pl H p:=by
 obtain⟨ns,e,_⟩:=h
 rw[Zme e,Zme (X.s _ _ e)]
theorem Zmf{p D:Addr}{o:HO}{H:Hp}(h:D≠p):pl (upd H D o) p=pl H p:=by
 unfold pl
 rw[Zn (Uh h)]
theorem nextWP{i j:Nat}{R:TS}{D:Ends}{σ:St}{H:Hp}{p:Addr}(hx:σ[i]?=some (some (.ref p)))(hP:Pool p H)(h:∀ c H1,Grow p H H1→Nx (pl H p) (pl H1 p) c→R D (σ.set j (some (.int c))) H1):tSeq (tAsg (tCall spNextP [] E0 (tCons (tVar i) tNil)) (gName j)) R D σ H:=⟨_,hx,p,rfl,hP,fun c ns hn1 hc=>h c _ (Grow.pop hP hn1) (by
 rw[Zme Zb,Uj]
 rcases hc with z | ⟨z1,z2,z3⟩
 ·exact .inl z
 ·exact .inr ⟨z1,by rw[z2];rfl,z3⟩)⟩
theorem Zrf{J:It}{g:TG}{te:TE}{Q:VK}{H:Hp}{D:Addr}{σ0:St}(n:Nat)(xs:Nat→V)(Inv:Nat→List V→Hp→Prop)(S:St→Prop)(hz:n≤100000)(h0:S σ0)
  (hgo:∀ i H,i<n→J.go i H) (hstop:∀ H,J.stop n H) (hy:∀ i H x H',i<n→J.yld i H x H'→H'=H∧x=xs i) (h1:Inv 0 [] (upd H D (.lst [])))
  (ht:∀ i,i<n→∀ ys σ1 H1,S σ1→Inv i ys H1→H1 D=some (.lst ys)→ys.length=i→∀ R:St→V→Hp→Prop,(∀ σ2 y H3,S σ2→H3 D=some (.lst ys)→Inv (i+1) (ys++[y]) (upd H3 D (.lst (ys++[y])))→R σ2 y H3)→g (xs i) σ1 H1 fun σ2 H2=>te σ2 H2 fun y H3=>R σ2 y H3)
  (hq:∀ (ys:List V) (H':Hp),ys.length=n→H' D=some (.lst ys)→Inv n ys H'→Q (.ref D) H') :
  CompGo J g tYes te Q σ0 H D:=by
 refine⟨fun i m σ1 H2=>i≤n∧m=n - i∧S σ1∧∃ ys:List V,ys.length=i∧H2 D=some (.lst ys)∧Inv i ys H2,⟨n,UF _,rfl,h0,[],rfl,Zb,h1⟩,?_⟩
 rintro i m σ1 H2 ⟨hi,rfl,h2,ys,hyl,hDv,hP⟩
 rcases UZ i n with z | z
 ·refine .inr ⟨hgo i _ z,fun x H3 y=>?_⟩
  obtain⟨rfl,rfl⟩:=hy i _ x H3 z y
  refine ht i z ys σ1 _ h2 hP hDv hyl (fun σ2 y H6=>∃ zs m',H6 D=some (.lst zs)∧zs.length<sizeLine∧m'<n - i∧(i+1≤n∧m'=n - (i+1)∧S σ2∧∃ ws:List V,ws.length=i+1∧upd H6 D (.lst (zs++[y])) D=some (.lst ws)∧Inv (i+1) ws (upd H6 D (.lst (zs++[y]))))) fun σ2 y H6 q3 hD6 hI6=>?_
  exact⟨ys,n - (i+1),hD6,UA (show ys.length<100000 by omega) (by decide),by omega,by omega,rfl,q3,ys++[y],by rw[Uo,hyl];rfl,Zb,hI6⟩
 ·have e:i=n:=by omega
  subst e
  exact .inl ⟨hstop _,hq ys H2 hyl hDv hP⟩
theorem Has.grow{X:List Addr}{p:Addr}{H H':Hp}(h:Has X H)(g:Grow p H H'):Has X H':=fun x hx=>by
 by_cases z:x=p
 ·subst z
  obtain⟨ns,e,_⟩:=g.l
  exact⟨_,e⟩
 ·obtain⟨l,e⟩:=h x hx
  exact⟨l,g.k _ _ z e⟩
theorem Zmt{ff:D→Bool}{f:Fm}{d:D}(h:fitB ff f d=true):∀ (fs:List Fm) (ds:List D),fitL ff fs ds=true→fitL ff (fs++[f]) (ds++[d])=true
 | [],[],_=>by show fitL ff [f] [d]=true;rw[fitL,fitL];simp[h]
 | [],e::ds,h=>by rw[fitL] at h;cases h
 | g::fs,[],h=>by rw[fitL] at h;cases h
 | g::fs,e::ds,hs=>by
  rw[fitL] at hs
  show fitL ff (g::(fs++[f])) (e::(ds++[d]))=true
  rw[fitL]
  have hs:(fitB ff g e&&fitL ff fs ds)=true:=hs
  show (fitB ff g e&&fitL ff (fs++[f]) (ds++[d]))=true
  rw[UN] at hs ⊢
  exact⟨hs.1,Zmt h fs ds hs.2⟩
theorem Zmv{d:D}{n:Nat}(h:dht d≤n):∀ {ds:List D},dhts ds≤n→dhts (ds++[d])≤n
 | [],_=>by show dhts [d]≤n;rw[dhts,dhts];omega
 | g::fs,hs=>by
  rw[dhts] at hs
  show dhts (g::(fs++[d]))≤n
  rw[dhts]
  have:=Zmv h (ds:=fs) (by omega)
  omega
theorem Znk:∀ {fs:List Fm} {i:Nat} {g:Fm},fs[i]?=some g→sz g≤szs fs
 | [],i,g,h=>by cases h
 | f::fs,0,g,h=>by cases h;rw[szs];omega
 | f::fs,i+1,g,h=>by have:=Znk (fs:=fs) (i:=i) h;rw[szs];omega
def spValP(d:Nat):Sp:=fun vs H Q _=>∃ (p:Addr) (vf:V) (f:Fm) (X:List Addr),vs=[.ref p,vf]∧p∈X∧Pool p H∧Has X H∧DX X H (dsc f) vf∧okG f∧ht f≤d∧sz f≤150∧∀ v dv H',Grow p H H'→DX X H' dv v→fitB Zv f dv=true→dht dv≤ht f+1→Rb (pl H p) (pl H' p) (rowB Xk f dv).length (sz f)→Q v H'
theorem Zrb{n:Nat}:∀ (ds:List D),(∀ d,d∈ds→dht d≤n)→dhts ds≤n
 | [],_=>by rw[dhts];omega
 | d::ds,h=>by
  rw[dhts]
  have:=h d (Ux ..)
  have:=Zrb ds fun e he=>h e (Ul _ he)
  omega
theorem Zyi(t:Str)(c:Nat):(t++(⟨#[c]⟩:Str)).cps.toList=t.cps.toList++[c]:=by rw[Zer]
set_option maxHeartbeats 4000000 in
theorem Zjl{d:Nat}(nb:NB mg)(F:FunAt K mg "_law_value" Zbd ["_law_pool_here","_law_form_here"] f fd)(D_law_next:DefOk P w K mg base 1 "_law_next" ["_law_pool_here"] spNextP)(D_law_signed:DefOk P w K mg base 2 "_law_signed" ["_law_cell"] spSigned)(D_law_fraction:DefOk P w K mg base 1 "_law_fraction" ["_law_one","_law_other"] spFrac)(D_law_size:DefOk P w K mg base 1 "_law_size" ["_law_form_here","_law_cell","_law_pool_here"] spSize)
  (D_law_value:DefOk P w K mg base (d+3) "_law_value" ["_law_pool_here","_law_form_here"] (spValP d)):DefOk P w K mg base (d+3+1) "_law_value" ["_law_pool_here","_law_form_here"] (spValP (d+1)):=by
 refine F.ok Ym (fun vs H Q E h=>?_) (fun cdv A outer s H vs Q E hr h=>?_)
 ·obtain⟨_,_,_,_,rfl,_⟩:=h;rfl
 obtain⟨p,vf,g,X,rfl,hpX,hP,hX,hv,hok,hht,hsz,q⟩:=h
 refine useT _ (Zc (Zp (i:=2) Ym.nd rfl (by exact Or.inl rfl) (Zs iAll (pv 1) Zd (fun _ _=>rfl)))
  (Zc (Zz (Zl oEq (pv 2) Zu (Zk _)) (Zf (Zj Zfk)) Zo)
  (Zc (Zp (i:=3) Ym.nd rfl (by first | exact Or.inl rfl | exact Or.inr rfl) (Zi D_law_next hr (Za (pv 0) Ze) (hk:=by omega)))
  (Zc (Zz (Zl oEq (pv 2) Zu (Zk _)) (Zf (Zj (Xj oEq (Zh Xc (pv 3) Zd) Zd (Zk _)))) Zo)
  (Zc (Zz (PW.pt (Zcv (Zl oEq (pv 2) Zu (Zk _)) (Zan (Zl oGt (Zm Zt rfl nb.len_ Xg (Za (pv 0) Ze)) Zd (Zk _))))) (Zf (Zj (Zi D_law_signed hr (Za (pv 3) Ze) (hk:=by omega)))) Zo)
  (Zc (Zz (Zl oEq (pv 2) Zu (Zk _)) (Zf (Zj (Zi D_law_signed hr (Za (Zh Xc (pv 3) Zd) Ze) (hk:=by omega)))) Zo)
  (Zc (Zz (Zl oEq (pv 2) Zu (Zk _)) (Zf (Zj (Zh oAdd (Zs iAll (pv 1) Zd (fun _ _=>rfl)) (Zh Xc (pv 3) (Zh oAdd (Zh oSub (Zs iAll (pv 1) Zd (fun _ _=>rfl)) (Zs iAll (pv 1) Zd (fun _ _=>rfl))) Zd))))) Zo)
  (Zc (Zz (Zl oEq (pv 2) Zu (Zk _)) (Zf (Zj (Zi D_law_fraction hr (Za (pv 3) (Za (Zi D_law_next hr (Za (pv 0) Ze) (hk:=by omega)) Ze)) (hk:=by omega)))) Zo)
  (Zc (Zz (Zl oEq (pv 2) Zu (Zk _)) (Zc (Zp (i:=4) Ym.nd rfl (by exact Or.inl rfl) Zu)
   (Zc (Jg PassesOwn.never rfl (Yk rfl nb.range_ (Za (Zi D_law_size hr (Za (pv 1) (Za (pv 3) (Za (pv 0) Ze))) (hk:=by omega)) Ze)) (Zy (i:=5) Ym.nd rfl (by first | exact Or.inl rfl | exact Or.inr rfl))
    (Zc (Zp (i:=4) Ym.nd rfl (by exact Or.inl rfl) (Zh oAdd (pv 4) (Zs iAll (Zs iAll (pv 1) Zd (fun _ _=>rfl)) (Zh Xc (Zh Xu (pv 3) Zd) (Zm Zt rfl nb.len_ Xg (Za (Zs iAll (pv 1) Zd (fun _ _=>rfl)) Ze))) (fun _ _=>rfl))))
    (Zf (Zp (i:=3) Ym.nd rfl (by first | exact Or.inl rfl | exact Or.inr rfl) (Zh Xu (pv 3) (Zm Zt rfl nb.len_ Xg (Za (Zs iAll (pv 1) Zd (fun _ _=>rfl)) Ze)))))))
   (Zf (Zj (pv 4))))) Zo)
  (Zc (Zz (PW.pt (Zcv (Zl oEq (pv 2) Zu (Zk _)) (Zan (Zl oEq (Zh Xc (pv 3) Zd) Zd (Zk _))))) (Zf (Zj (Yz Ze))) Zo)
  (Zc (Zz (Zl oEq (pv 2) Zu (Zk _)) (Zf (Zj (Yz (Za (Zi D_law_value hr (Za (pv 0) (Za (Zs iAll (pv 1) Zd (fun _ _=>rfl)) Ze)) (hk:=by omega)) Ze)))) Zo)
  (Zc (Zz (Zl oEq (pv 2) Zu (Zk _)) (Zf (Zj (Yd ["_law_k"] [(0,"_law_pool_here"),(1,"_law_form_here")] rfl (by decide +kernel) ⟨rfl,.inl rfl,rfl,.inl rfl,trivial⟩ (Yk rfl nb.range_ (Za (Zi D_law_size hr (Za (pv 1) (Za (pv 3) (Za (pv 0) Ze))) (hk:=by omega)) Ze)) (fun _ _ _ _ _=>(Zy (i:=0) (show (["_law_k","_law_pool_here","_law_form_here"]:List Str).Nodup by decide +kernel) rfl (by first | exact Or.inl rfl | exact Or.inr rfl))) (fun _ _ _ _ _=>Xs) (fun _ _ _ _ _=>(Zi D_law_value hr (Za (pv 1) (Za (Zs iAll (pv 2) Zd (fun _ _=>rfl)) Ze)) (hk:=by omega)))))) Zo)
  (Zc (Zz (Zl oEq (pv 2) Zu (Zk _)) (Zf (Zj (Wc Zex rfl nb.tuple_ Qz (Za (Yd ["_law_name","_law_inner"] [(0,"_law_pool_here")] rfl (by decide +kernel) ⟨rfl,.inl rfl,trivial⟩ (piAll (Zs iAll (pv 1) Zd (fun _ _=>rfl))) (fun _ _ _ _ _=>(Zbt rfl (Xz (Zy (i:=0) (show (["_law_name","_law_inner","_law_pool_here"]:List Str).Nodup by decide +kernel) rfl (by first | exact Or.inl rfl | exact Or.inr rfl)) (Xz (Zy (i:=1) (show (["_law_name","_law_inner","_law_pool_here"]:List Str).Nodup by decide +kernel) rfl (by first | exact Or.inl rfl | exact Or.inr rfl)) Qp)))) (fun _ _ _ _ _=>Xs) (fun _ _ _ _ _=>(Zi D_law_value hr (Za (pv 2) (Za (pv 1) Ze)) (hk:=by omega)))) Ze)))) Zo)
  (Zc (Zz (Zl oEq (pv 2) Zu (Zk _)) (Zc (Xbb (Zs iAll (Zs iAll (pv 1) Zd (fun _ _=>rfl)) (Zh Xc (pv 3) (Zm Zt rfl nb.len_ Xg (Za (Zs iAll (pv 1) Zd (fun _ _=>rfl)) Ze))) (fun _ _=>rfl)) (Zbt rfl (Xz (Zy (i:=6) Ym.nd rfl (by first | exact Or.inl rfl | exact Or.inr rfl)) (Xz (Zy (i:=7) Ym.nd rfl (by first | exact Or.inl rfl | exact Or.inr rfl)) Qp))))
   (Zf (Zj (Yz (Za (pv 6) (Za (Zi D_law_value hr (Za (pv 0) (Za (pv 7) Ze)) (hk:=by omega)) Ze)))))) Zo)
  (Zf (Zj (Zi D_law_value hr (Za (pv 0) (Za (Zs iAll (pv 1) Zd (fun _ _=>rfl)) Ze)) (hk:=by omega)))))))))))))))))) fun G σ0 hσ go=>?_
 try dsimp only[cxK0,cxK1,cxK2,cxK3] at go
 have a0:∀ (x:V) (r:List V),atI (x::r) 0=some x:=fun x r=>Zx (j:=0) rfl
 have a1:∀ (x y:V) (r:List V),atI (x::y::r) 1=some y:=fun x y r=>Zx (j:=1) rfl
 have hTp:∀ {T:Addr},T∉X→T≠p:=fun h z=>h (by rw[z];exact hpX)
 cases g with
 | bare k =>
  rw[dsc] at hv
  rw[ht] at q
  obtain⟨T,_,rfl,hTX,e,⟨_,_,rfl,⟨rfl,_⟩,rfl⟩,_⟩:=hv
  rcases fin4 k with rfl | rfl | rfl | rfl
  ·skip
   subst hσ
   refine go (setW rfl e ?_)
   refine Wh rfl fun N=>⟨_,(Grow.refl hP).sub,q _ .non _ (Grow.refl hP) rfl (by rw[fitB];rfl) (by rw[dht];omega) (by rw[rowB];exact⟨Up _,.inl (UF _)⟩)⟩
  ·skip
   subst hσ
   refine go (setW rfl e ?_)
   refine Xr rfl (by decide +kernel) ?_
   refine nextWP rfl hP fun cl H1 G1 hc=>?_
   refine Wh rfl fun N=>⟨_,rfl,_,_,rfl,rfl,(by show (0:Int)<2;decide),rfl,_,G1.sub,q _ (.bl _) _ G1 rfl (by rw[fitB];rfl) (by rw[dht];omega) (by rw[rowB,sz];exact Rb.leaf hc (Up _) (show 1≤150000 by decide) (fun _=>show 1≤300 by decide))⟩
  ·skip
   subst hσ
   refine go (setW rfl e ?_)
   refine Xr rfl (by decide +kernel) ?_
   refine nextWP rfl hP fun cl H1 G1 hc=>?_
   refine Xr rfl (by decide +kernel) ?_
   obtain⟨m1,hp1,hm1⟩:=G1.l
   have fin:∀ n:Int,WholeIn n→∃ H'',L2.Sub H H'' H1∧Q (.int n) H'':=fun n hn=>⟨_,G1.sub,q _ (.int n) _ G1 rfl (by rw[fitB];exact Ut hn) (by rw[dht];omega) (by rw[rowB,sz];exact Rb.leaf hc (Up _) (UC (Znh hn) (by decide)) (fun _=>UC (Znh hn) (by decide)))⟩
   refine⟨_,rfl,rfl,_,rfl,iteY rfl ⟨_,rfl,_,_,rfl,.inl ⟨_,Uy hp1,rfl⟩,_,_,rfl,rfl,_,rfl,iteD (fun c1=>⟨_,rfl,cl,rfl,fin⟩) (fun c1=>?_)⟩⟩
   exact Wh rfl fun N=>⟨_,rfl,_,_,rfl,rfl,(by show (0:Int)<1000;decide),_,rfl,fin⟩
  ·skip
   subst hσ
   refine go (setW rfl e ?_)
   refine Xr rfl (by decide +kernel) ?_
   refine nextWP rfl hP fun cl H1 G1 hc=>?_
   iterate 4 (first | refine Xr rfl (by decide +kernel) ?_ | refine skipA rfl (by decide +kernel) ?_)
   refine Wh rfl fun N=>⟨_,rfl,_,rfl,p,rfl,G1.l,fun c2 n2 hn2 hc2=>⟨cl,c2,rfl,fun pp qq t H' X' ht0 ht1 hf hz=>?_⟩⟩
   have G2:=(G1.trans (Grow.pop G1.l hn2)).ext X'
   have htX:t∉X:=(hX.grow (G1.trans (Grow.pop G1.l hn2))).no ht0
   refine⟨_,G2.sub,q _ (.tup [.int pp,.int qq]) _ G2 ⟨t,_,rfl,htX,ht1,⟨_,_,rfl,rfl,_,_,rfl,rfl,rfl⟩,by simp⟩ (by rw[fitB];exact hf) (by rw[dht,dhts,dhts,dhts,dht,dht];omega) ?_⟩
   rw[Zme (X'.s p (.lst (n2.map V.int)) Zb),Uj,rowB,sz]
   have hL:=Zve hf
   have h2:n2.length≤pl H1 p:=by
    rcases hc2 with y | ⟨_,y2,_⟩
    ·omega
    ·rw[y2];exact UF _
   rcases hc with z | ⟨z1,z2,z3⟩
   ·exact⟨by omega,.inl (UC hL (by omega))⟩
   ·rcases hc2 with y | ⟨y1,y2,y3⟩
    ·omega
    ·obtain⟨rfl,rfl⟩:=hz ⟨z3,y3⟩
     exact⟨by rw[y2];exact UF _,.inr ⟨z1,Zvd⟩⟩
 | sp lo hi =>
  rw[dsc] at hv
  rw[okG] at hok
  rw[ht] at q
  obtain⟨T,_,rfl,hTX,e,⟨_,_,rfl,⟨rfl,_⟩,_,_,rfl,rfl,_,_,rfl,rfl,rfl⟩,_⟩:=hv
  subst hσ
  refine go (setW rfl e ?_)
  refine Xr rfl (by decide +kernel) ?_
  refine nextWP rfl hP fun cl H1 G1 hc=>?_
  iterate 3 (first | refine Xr rfl (by decide +kernel) ?_ | refine skipA rfl (by decide +kernel) ?_)
  have e1:=G1.k _ _ (hTp hTX) e
  have a2:atI [V.str wSp,V.int lo,V.int hi] 2=some (.int hi):=Zx (j:=2) rfl
  have m0:=UO cl (show hi - lo+1≠0 by omega)
  have m1:=UK cl (show 0<hi - lo+1 by omega)
  refine Wh rfl fun N=>⟨_,rfl,.inl (.inr ⟨_,_,_,_,rfl,rfl,Uz e1,a1 _ _ _,_,rfl,_,rfl,.inl (.inr ⟨_,_,_,_,rfl,rfl,Uz e1,a2,_,rfl,.inl (.inr ⟨_,_,_,_,rfl,rfl,Uz e1,a1 _ _ _,_,_,rfl,rfl,.inl ⟨_,_,rfl,rfl,_,_,rfl,rfl,(by omega),.inl ⟨_,_,rfl,rfl,?_⟩⟩⟩)⟩)⟩)⟩
  refine⟨_,G1.sub,q _ (.int _) _ G1 rfl (by rw[fitB];exact Ut ⟨by omega,by omega⟩) (by rw[dht];omega) ?_⟩
  have hb:blen (hi - lo).toNat≤190:=Yh (by omega)
  rw[rowB,sz]
  have hL:(Xh (lo+cl%(hi - lo+1) - lo).toNat (blen (hi - lo).toNat)).length≤190:=by rw[Xe];exact hb
  exact Rb.leaf hc (Up _) (UC hL (by decide)) (fun _=>UC hL (by decide))
 | le sg =>
  have hv0:=hv
  rw[dsc] at hv
  rw[ht] at q
  have hgt:=hok
  rw[okG] at hgt
  obtain⟨T,_,rfl,hTX,e,⟨_,_,rfl,⟨rfl,_⟩,_,_,rfl,⟨rfl,hsl⟩,rfl⟩,_⟩:=hv
  have hs0:0<sg.length:=by
   have:=hgt.1
   unfold goodText at this
   simp only[UN,UW] at this
   omega
  subst hσ
  refine go (setW rfl e ?_)
  refine Xr rfl (by decide +kernel) ?_
  refine nextWP rfl hP fun cl H1 G1 hc=>?_
  iterate 5 (first | refine Xr rfl (by decide +kernel) ?_ | refine skipA rfl (by decide +kernel) ?_)
  have e1:=G1.k _ _ (hTp hTX) e
  have lsg:sg.length≤sizeLine:=Xo (by omega)
  refine Wh rfl fun N=>⟨_,rfl,_,rfl,_,rfl,.ref T,cl,p,.le sg,X,rfl,DX.grow hpX G1 hv0,G1.l,hok,.inl ⟨sg,rfl,fun n hn hn0=>⟨_,rfl,by omega,by omega,?_⟩⟩⟩
  rw[show (((n:Nat):Int)).toNat=n by omega]
  refine Wd (fun i σ H2=>H1=H2∧∃ (t:Str) (c:Int) (z5:Option V),σ=[some (.ref p),some (.ref T),some (.str wLe),some (.int c),some (.str t),z5,none,none]∧t.length=i∧madeOf t sg=true) ⟨rfl,Str.ofString "",cl,none,rfl,by decide +kernel,rfl⟩ ?_ ?_
  ·rintro i σ H2 hi ⟨rfl,t,c,z5,rfl,htl,hmd⟩
   obtain⟨k,hk,ek⟩:=Wa (c/287) sg.length hs0
   have hk':k<sg.cps.toList.length:=by rw[UM];exact hk
   have hat:atI sg.cps.toList (c/287%((sg.length:Nat):Int))=some sg.cps.toList[k]:=by rw[ek];exact Zx (Ui hk')
   refine⟨_,rfl,_,rfl,.inl (.inr ⟨_,_,_,_,rfl,rfl,Uz e1,a1 _ _ _,_,rfl,_,_,rfl,rfl,⟨by decide,by decide⟩,_,rfl,.inl (.inr ⟨_,_,_,_,rfl,rfl,Uz e1,a1 _ _ _,_,_,rfl,⟨lsg,rfl⟩,_,_,rfl,rfl,(by omega),.inr ⟨_,_,_,rfl,rfl,lsg,hat,.inr ⟨_,_,rfl,rfl,?_,?_⟩⟩⟩)⟩)⟩
   ·show t.length+1≤sizeLine
    exact Xo (by omega)
   refine⟨_,rfl,_,rfl,.inl (.inr ⟨_,_,_,_,rfl,rfl,Uz e1,a1 _ _ _,_,_,rfl,⟨lsg,rfl⟩,_,_,rfl,rfl,⟨by omega,by omega⟩,rfl,_,_,_,rfl,?_,?_⟩)⟩
   ·rw[Qr,htl];rfl
   ·unfold madeOf at hmd ⊢
    rw[Zyi,List.all_append,hmd]
    simp
  ·rintro σ H2 ⟨rfl,t,c,z5,rfl,htl,hmd⟩
   refine⟨_,rfl,_,G1.sub,q _ (.str t) _ G1 ⟨rfl,by omega⟩ (by rw[fitB];exact Ug.mpr ⟨Ut (by omega),hmd⟩) (by rw[dht];omega) ?_⟩
   have hL:=Xaa (t:=t) hgt.2
   rw[rowB,sz]
   exact Rb.leaf hc (Up _) (by omega) (fun z=>by have:=hn0 z;omega)
 | one k g =>
  have hsg:sz g+1≤150:=by rw[sz] at hsz;exact hsz
  have hv0:=hv
  have hok0:=hok
  rw[dsc] at hv
  rw[okG] at hok
  rw[ht] at hht
  rw[ht] at q
  obtain⟨T,_,rfl,hTX,e,⟨_,_,rfl,⟨rfl,_⟩,v',_,rfl,hd,rfl⟩,_⟩:=hv
  rcases fin3 k with rfl | rfl | rfl
  ·skip
   subst hσ
   refine go (setW rfl e ?_)
   refine Xr rfl (by decide +kernel) ?_
   refine nextWP rfl hP fun cl H1 G1 hc=>?_
   iterate 6 (first | refine Xr rfl (by decide +kernel) ?_ | refine skipA rfl (by decide +kernel) ?_)
   have e1:=G1.k _ _ (hTp hTX) e
   refine⟨_,rfl,rfl,_,rfl,iteY rfl ⟨_,rfl,_,_,rfl,rfl,(by show (0:Int)<2;decide),rfl,_,rfl,iteD (fun c1=>?_) (fun c1=>?_)⟩⟩
   ·refine⟨UF _,fun t ht0=>?_⟩
    have G2:=G1.ext (Ext.tup (xs:=[]) ht0)
    exact⟨_,G2.sub,q _ (.tup []) _ G2 ⟨t,[],rfl,(hX.grow G1).no ht0,Zb,rfl,by simp⟩ (by rw[fitB];rfl) (by rw[dht,dhts];omega) (by rw[Zhm (Ext.tup ht0) G1.l,rowB];exact Rb.leaf hc (Zro _) (show 1≤150000 by decide) (fun _=>show 1≤300 by decide))⟩
   refine Wh rfl fun N=>⟨_,rfl,_,rfl,.inl (.inr ⟨_,_,_,_,rfl,rfl,Uz e1,a1 _ _ _,p,v',g,X,rfl,hpX,G1.l,hX.grow G1,DX.grow hpX G1 hd,hok,by omega,by omega,fun v dv H' G hdv hfit hdh hrb=>⟨Zod,fun t ht0=>?_⟩⟩)⟩
   have E2:=Ext.tup (xs:=[v]) ht0
   have G2:=(G1.trans G).ext E2
   refine⟨_,G2.sub,q _ (.tup [dv]) _ G2 ⟨t,_,rfl,(hX.grow (G1.trans G)).no ht0,Zb,⟨_,_,rfl,hdv.same E2.s,rfl⟩,by simp⟩ ?_ (by rw[dht,dhts,dhts];omega) ?_⟩
   ·rw[fitB];exact hfit
   ·rw[Zhm E2 (G1.trans G).l,rowB,sz]
    exact hrb.wrap hc (Up _) (by omega) (show (rowB Xk g dv).length+1≤_ by omega)
  ·skip
   subst hσ
   refine go (setW rfl e ?_)
   refine Xr rfl (by decide +kernel) ?_
   refine nextWP rfl hP fun cl H1 G1 hc=>?_
   iterate 8 (first | refine Xr rfl (by decide +kernel) ?_ | refine skipA rfl (by decide +kernel) ?_)
   have e1:=G1.k _ _ (hTp hTX) e
   refine Wh rfl fun N=>⟨_,rfl,_,rfl,_,rfl,.ref T,cl,p,.one 1 g,X,rfl,DX.grow hpX G1 hv0,G1.l,hok0,.inr ⟨g,rfl,fun n hn hn3 hn0=>⟨_,rfl,by omega,by omega,fun D1 hD1=>?_⟩⟩⟩
   rw[show (((n:Nat):Int)).toNat=n by omega]
   have hX1:=hX.grow G1
   have hD1X:D1∉X:=hX1.no hD1
   have hDp:D1≠p:=fun z=>hD1X (by rw[z];exact hpX)
   have E0:=Ext.lst (xs:=[]) hD1
   have hT1:∀ {H2:Hp},Grow p H1 H2→H2 T=some (.tup [.str (wdO 1),v']):=fun G=>G.k _ _ (hTp hTX) e1
   refine Zrf n (fun i => .int (0+((i:Nat):Int))) (fun i ys H2=>Grow p H1 H2∧∃ ds,ds.length=i∧DsX (D1::X) H2 ds ys∧(∀ x,x∈ds→fitB Zv g x=true∧dht x≤ht g+1)∧pl H2 p≤pl H1 p∧((ds.map fun d=>true::rowB Xk g d).flatten).length≤150000*(pl H1 p - pl H2 p)+i*(1+300*sz g)) (fun σ=>∃ z,σ=[z,some (.ref p),some (.ref T)]) (by omega) ⟨_,rfl⟩ (fun i H hi=>hi) (fun H=>Up _) (fun i H x H' hi h=>⟨h.1,h.2⟩) ⟨(Grow.refl G1.l).ext E0,[],rfl,rfl,(fun x hx=>nomatch hx),by rw[Zhm E0 G1.l];exact Up _,UF _⟩ ?_ ?_
   ·rintro i hi ys σ1 H2 ⟨z,rfl⟩ ⟨G2,ds,hdl,hds,hall,hm2,hL2⟩ hDy hyl R hR
    have hX2:Has (D1::X) H2:=(hX1.grow G2).add hDy
    refine⟨_,rfl,_,rfl,.inl (.inr ⟨_,_,_,_,rfl,rfl,Uz (hT1 G2),a1 _ _ _,p,v',g,D1::X,rfl,Ul _ hpX,G2.l,hX2,DX.grow (Ul _ hpX) G2 (DX.add hD1 _ (DX.grow hpX G1 hd)),hok,by omega,by omega,fun v dv H3 G3 hdv hfit hdh hrb=>?_⟩)⟩
    have hD3:H3 D1=some (.lst ys):=G3.k _ _ hDp hDy
    have kk:∀ b u,b∉D1::X→H3 b=some u→upd H3 D1 (.lst (ys++[v])) b=some u:=fun b u nb e=>by rw[Zn (fun z=>nb (by rw[z];exact Ux ..))];exact e
    have k3:∀ b u,b∉D1::X→H2 b=some u→H3 b=some u:=fun b u nb e=>G3.k b u (fun z=>nb (by rw[z];exact Ul _ hpX)) e
    refine hR _ _ _ ⟨_,rfl⟩ hD3 ⟨(G2.trans G3).set hD1 hD3 hDp,ds++[dv],by rw[Uo,hdl];rfl,DsX.snoc (DX.keep kk _ hdv) _ (DsX.keep kk _ (DsX.keep k3 _ hds)),fun x hx=>?_,?_,?_⟩
    ·rcases List.mem_append.mp hx with z | z
     ·exact hall x z
     ·rw[UD.mp z];exact⟨hfit,hdh⟩
    ·rw[Zmf hDp];exact UC hrb.1 hm2
    ·rw[Zmf hDp,UE,List.flatten_append,Uo]
     have e1:(List.map (fun d=>true::rowB Xk g d) [dv]).flatten.length=(rowB Xk g dv).length+1:=by simp
     obtain⟨b1,b2⟩:=hrb
     have e2:(i+1)*(1+300*sz g)=i*(1+300*sz g)+(1+300*sz g):=Nat.succ_mul ..
     rw[e1,e2]
     generalize i*(1+300*sz g)=ia at hL2 ⊢
     omega
   ·rintro ys H' hyl hD' ⟨G2,ds,hdl,hds,hall,hm2,hL2⟩
    have G3:=G1.trans G2
    refine⟨_,G3.sub,q _ (.lst ds) _ G3 ⟨D1,ys,rfl,hD1X,hD',DsX.weak (fun x hx=>Ul _ hx) _ hds,by omega⟩ ?_ ?_ ?_⟩
    ·rw[fitB]
     exact Ug.mpr ⟨Ut (by omega),Ve.mpr fun x hx=>(hall x hx).1⟩
    ·have:=Zrb ds fun x hx=>(hall x hx).2
     rw[dht];omega
    ·rw[sz] at hsz
     have hna:n*(1+300*sz g)≤140000:=by
      rcases hn3 with z | z
      ·exact UC (Nat.mul_le_mul z (show 1+300*sz g≤45001 by omega)) (by decide)
      ·rw[z];exact UC (Nat.mul_le_mul hn (Up _)) (by decide)
     rw[rowB]
     have eL:(oneRow 1 (rowB Xk g) (.lst ds)).length=((ds.map fun d=>true::rowB Xk g d).flatten).length+1:=by
      show (_++[false]).length=_
      rw[Uo];rfl
     rw[eL]
     rcases hc with z | ⟨z1,z2,z3⟩
     ·exact⟨by omega,.inl (by omega)⟩
     ·have hds0:ds=[]:=List.length_eq_zero_iff.mp (by rw[hdl];exact hn0 z3)
      have:=Zro (.one 1 g)
      exact⟨by omega,.inr ⟨z1,by rw[hds0];show 0+1≤_;omega⟩⟩
  ·skip
   subst hσ
   refine go (setW rfl e ?_)
   refine Xr rfl (by decide +kernel) ?_
   refine nextWP rfl hP fun cl H1 G1 hc=>?_
   iterate 11 (first | refine Xr rfl (by decide +kernel) ?_ | refine skipA rfl (by decide +kernel) ?_)
   have e1:=G1.k _ _ (hTp hTX) e
   refine⟨_,rfl,_,rfl,.inl (.inr ⟨_,_,_,_,rfl,rfl,Uz e1,a1 _ _ _,p,v',g,X,rfl,hpX,G1.l,hX.grow G1,DX.grow hpX G1 hd,hok,by omega,by omega,fun v dv H' G hdv hfit hdh hrb=>?_⟩)⟩
   exact⟨_,(G1.trans G).sub,q _ dv _ (G1.trans G) hdv (by rw[fitB];exact hfit) (by omega) (by rw[rowB,sz];exact hrb.wrap hc (Up _) (by rw[sz] at hsz;exact hsz) (by show ((rowB Xk g dv).map (!·)).length≤_;rw[Uj];omega))⟩
 | two k ns fs =>
  have hsg:∀ {i:Nat} {g:Fm},fs[i]?=some g→sz g≤150:=fun h=>by
   have:=Znk h
   rw[sz] at hsz
   omega
  rw[dsc] at hv
  rw[okG] at hok
  rw[ht] at hht
  rw[ht] at q
  obtain⟨hgn,hlen,hoks⟩:=hok
  obtain⟨T,_,rfl,hTX,e,⟨_,_,rfl,⟨rfl,_⟩,_,_,rfl,⟨l,lvs,rfl,hlX,el,hds,hl1000⟩,rfl⟩,_⟩:=hv
  have hvl:lvs.length=fs.length:=by rw[DsAt.len _ (DsX.at _ hds),Zch]
  have hfl:0<fs.length∧fs.length≤20:=by
   have h:=hgn
   unfold goodNames at h
   simp only[UN,UW] at h
   omega
  rcases fin2 k with rfl | rfl
  ·skip
   subst hσ
   refine go (setW rfl e ?_)
   refine Xr rfl (by decide +kernel) ?_
   refine nextWP rfl hP fun cl H1 G1 hc=>?_
   iterate 9 (first | refine Xr rfl (by decide +kernel) ?_ | refine skipA rfl (by decide +kernel) ?_)
   have e1:=G1.k _ _ (hTp hTX) e
   have el1:=G1.k _ _ (hTp hlX) el
   have hX1:=hX.grow G1
   refine Wh rfl fun N=>?_
   refine .inl ⟨_,rfl,.inl (.inr ⟨_,_,_,_,rfl,rfl,Uz e1,a1 _ _ _,l,rfl,⟨_,Uy el1⟩,fun D1 hD1=>?_⟩)⟩
   have hD1X:D1∉X:=hX1.no hD1
   have hDp:D1≠p:=fun z=>hD1X (by rw[z];exact hpX)
   have E0:=Ext.lst (xs:=[]) hD1
   refine Jz (K:=K) (a:=l) (xs:=lvs) (fun i ys H2=>Grow p H1 H2∧∃ ds,ds.length=i∧DsX (D1::X) H2 ds ys∧fitL Zv (fs.take i) ds=true∧dhts ds≤hts fs+1∧pl H2 p≤pl H1 p∧(rowL Xk (fs.take i) ds).length≤150000*(pl H1 p - pl H2 p)+300*szs (fs.take i)) (fun σ=>∃ z1 z2,σ=[z1,z2,some (.ref p)]) (by omega) ⟨_,_,rfl⟩ ?_ ⟨(Grow.refl G1.l).ext E0,[],rfl,rfl,by rw[List.take_zero,fitL];rfl,by rw[dhts];omega,by rw[Zhm E0 G1.l];exact Up _,by rw[List.take_zero,rowL];exact UF _⟩ ?_ ?_
   ·rintro i ys H2 ⟨G2,_⟩
    exact Uy (G2.k _ _ (hTp hlX) el1)
   ·rintro i x hx ys σ1 H2 ⟨z1,z2,rfl⟩ ⟨G2,ds,hdl,hds2,hfs,hdd,hm2,hL2⟩ hDy hyl R hR
    obtain⟨g,nm,T',v',hg,hn',rfl,hT'X,eT',hd⟩:=Qy fs ns hlen hds hx
    obtain⟨og,hg2⟩:=Zay hoks hg
    have hX2:Has (D1::X) H2:=(hX1.grow G2).add hDy
    refine⟨_,_,rfl,Uz (G2.k _ _ (hTp hT'X) (G1.k _ _ (hTp hT'X) eT')),rfl,_,_,rfl,_,_,rfl,rfl,?_⟩
    refine⟨_,rfl,_,rfl,p,v',g,D1::X,rfl,Ul _ hpX,G2.l,hX2,DX.grow (Ul _ hpX) G2 (DX.add hD1 _ (DX.grow hpX G1 hd)),og,by omega,hsg hg,fun v dv H3 G3 hdv hfit hdh hrb=>?_⟩
    have hD3:H3 D1=some (.lst ys):=G3.k _ _ hDp hDy
    have kk:∀ b u,b∉D1::X→H3 b=some u→upd H3 D1 (.lst (ys++[v])) b=some u:=fun b u nb e=>by rw[Zn (fun z=>nb (by rw[z];exact Ux ..))];exact e
    have k3:∀ b u,b∉D1::X→H2 b=some u→H3 b=some u:=fun b u nb e=>G3.k b u (fun z=>nb (by rw[z];exact Ul _ hpX)) e
    refine hR _ _ _ ⟨_,_,rfl⟩ hD3 ⟨(G2.trans G3).set hD1 hD3 hDp,ds++[dv],by rw[Uo,hdl];rfl,DsX.snoc (DX.keep kk _ hdv) _ (DsX.keep kk _ (DsX.keep k3 _ hds2)),?_,Zmv (by omega) hdd,?_,?_⟩
    ·rw[UX,hg]
     exact Zmt hfit _ _ hfs
    ·rw[Zmf hDp];exact UC hrb.1 hm2
    ·have hil:i≤fs.length:=Nat.le_of_lt (Uw.mp hg).1
     rw[Zmf hDp,UX,hg]
     show (rowL Xk (fs.take i++[g]) (ds++[dv])).length≤150000*_+300*szs (fs.take i++[g])
     rw[Zmb _ _ (by rw[US,hdl];omega),Zdg,Uo]
     obtain⟨b1,b2⟩:=hrb
     omega
   ·rintro ys H' hyl hD' ⟨G2,ds,hdl,hds2,hfs,hdd,hm2,hL2⟩
    rw[hvl,UV (Up _)] at hfs hL2
    refine⟨_,_,rfl,.inl ⟨Uy hD',fun t ht0=>?_⟩⟩
    have E3:=Ext.tup (xs:=ys) ht0
    have G3:=(G1.trans G2).ext E3
    refine⟨_,G3.sub,q _ (.tup ds) _ G3 ⟨t,ys,rfl,(hX.grow (G1.trans G2)).no ht0,Zb,(DsX.weak (fun x hx=>Ul _ hx) _ hds2).same E3.s,by omega⟩ ?_ ?_ ?_⟩
    ·rw[fitB,if_pos rfl];exact hfs
    ·rw[dht];omega
    ·rw[Zhm E3 (G1.trans G2).l,rowB,if_pos rfl,sz]
     rw[sz] at hsz
     show Rb _ _ (rowL Xk fs ds).length _
     rcases hc with z | ⟨z1,z2,z3⟩
     ·exact⟨by omega,.inl (by omega)⟩
     ·exact⟨by omega,.inr ⟨z1,by omega⟩⟩
  ·skip
   subst hσ
   refine go (setW rfl e ?_)
   refine Xr rfl (by decide +kernel) ?_
   refine nextWP rfl hP fun cl H1 G1 hc=>?_
   iterate 10 (first | refine Xr rfl (by decide +kernel) ?_ | refine skipA rfl (by decide +kernel) ?_)
   have e1:=G1.k _ _ (hTp hTX) e
   have el1:=G1.k _ _ (hTp hlX) el
   refine Wh rfl fun N=>?_
   obtain⟨j,hj,ej⟩:=Wa cl lvs.length (by omega)
   obtain⟨y,hy⟩:∃ y,lvs[j]?=some y:=⟨_,Ui hj⟩
   obtain⟨g,nm,T',v',hg,hn',rfl,hT'X,eT',hd⟩:=Qy fs ns hlen hds hy
   obtain⟨og,hg2⟩:=Zay hoks hg
   refine⟨_,rfl,.inl (.inr ⟨_,_,_,_,rfl,rfl,Uz e1,a1 _ _ _,_,rfl,_,rfl,.inl (.inr ⟨_,_,_,_,rfl,rfl,Uz e1,a1 _ _ _,_,_,rfl,.inl ⟨_,Uy el1,rfl⟩,_,_,rfl,rfl,(by omega),.inl (.inl ⟨_,_,_,_,rfl,rfl,Uy el1,(by rw[ej];exact Zx hy),?_⟩)⟩)⟩)⟩
   refine⟨_,_,rfl,Uz (G1.k _ _ (hTp hT'X) eT'),rfl,_,_,rfl,_,_,rfl,rfl,?_⟩
   refine⟨_,rfl,_,rfl,_,rfl,p,v',g,X,rfl,hpX,G1.l,hX.grow G1,DX.grow hpX G1 hd,og,by omega,hsg hg,fun v dv H' G hdv hfit hdh hrb=>⟨Jd,fun t ht0=>?_⟩⟩
   have E2:=Ext.tup (xs:=[V.str nm,v]) ht0
   have G2:=(G1.trans G).ext E2
   have hnl:nm.length≤12:=(Ya hgn).2 nm (Uv hn')
   refine⟨_,G2.sub,q _ (.tup [.str nm,dv]) _ G2 ⟨t,_,rfl,(hX.grow (G1.trans G)).no ht0,Zb,⟨_,_,rfl,⟨rfl,by omega⟩,_,_,rfl,hdv.same E2.s,rfl⟩,by simp⟩ ?_ (by rw[dht,dhts,dhts,dhts,dht];omega) ?_⟩
   ·rw[fitB,if_neg (by decide)]
    show fitC Zv fs ns nm dv=true
    rw[Qw fs ns nm (Uv hn') hlen,Wv hgn hn',Uk,hg]
    exact hfit
   ·rw[Zhm E2 (G1.trans G).l,rowB,if_neg (by decide),sz]
    show Rb _ _ (rowC Xk fs ns 0 (fs.length - 1) nm dv).length _
    rw[Zcb fs ns 0 nm (Uv hn') hlen,Wv hgn hn',Uk,hg,Uo,Xe]
    have hb:blen (fs.length - 1)≤5:=Yh (w:=5) (by omega)
    exact hrb.wrap hc (Nat.succ_le_succ (Znk hg)) (by rw[sz] at hsz;exact hsz) (by show _+(rowB Xk g dv).length≤_;omega)
theorem Zey(nb:NB mg)(F:FunAt K mg "_law_value" Zbd ["_law_pool_here","_law_form_here"] f fd)(D_law_next:DefOk P w K mg base 1 "_law_next" ["_law_pool_here"] spNextP)(D_law_signed:DefOk P w K mg base 2 "_law_signed" ["_law_cell"] spSigned)(D_law_fraction:DefOk P w K mg base 1 "_law_fraction" ["_law_one","_law_other"] spFrac)(D_law_size:DefOk P w K mg base 1 "_law_size" ["_law_form_here","_law_cell","_law_pool_here"] spSize):∀ d:Nat,DefOk P w K mg base (d+3) "_law_value" ["_law_pool_here","_law_form_here"] (spValP d)
 | 0=>DefOk.none F fun vs H Q E z=>by obtain⟨_,_,g,_,_,_,_,_,_,_,h,_⟩:=z;have:=Zfr g;omega
 | d+1=>Zjl nb F D_law_next D_law_signed D_law_fraction D_law_size (Zey nb F D_law_next D_law_signed D_law_fraction D_law_size d)
noncomputable def sgn(a b:Int):Int:=(if b<a then 1 else 0) - (if a<b then 1 else 0)
noncomputable def items:D→List D
 | .tup ds=>ds
 | .lst ds=>ds
 | _=>[]
noncomputable def numD:D→Int
 | .int i=>i
 | .bl b=>PyProof.Rows.b2i b
 | _=>0
noncomputable def topD:D→Int
 | .tup (.int p::_)=>p
 | _=>0
noncomputable def botD:D→Int
 | .tup [_,.int q]=>q
 | _=>0
noncomputable def txtD:D→Str
 | .str t=>t
 | _=>Str.empty
noncomputable def nameD:D→Str
 | .tup (.str n::_)=>n
 | _=>Str.empty
noncomputable def partD:D→D
 | .tup [_,x]=>x
 | _ => .non
noncomputable def idxI(s t:Str):List Int:=t.cps.toList.map fun c=>((s.cps.toList.idxOf c:Nat):Int)
noncomputable def sgnL(a b:List Int):Int:=(if HT.lexLt b a=true then 1 else 0) - (if HT.lexLt a b=true then 1 else 0)
noncomputable def bareOrd(k:Fin 4)(a b:D):Int:=if k=0 then 0 else if k=3 then sgn (topD a*botD b) (topD b*botD a) else sgn (numD a) (numD b)
noncomputable def lsd(g:Nat→D→D→Int):List D→List D→Nat→Int
 | x::xs,y::ys,k=>if g k x y=0 then lsd g xs ys (k+1) else g k x y
 | xs,ys,_=>sgn xs.length ys.length
mutual
noncomputable def ordI:Fm→D→D→Int
 | .bare k,a,b=>bareOrd k a b
 | .sp _ _,a,b=>sgn (numD a) (numD b)
 | .le s,a,b=>sgnL (idxI s (txtD a)) (idxI s (txtD b))
 | .one k f,a,b=>if k=2 then 0 - ordI f a b else lsd (fun _=>ordI f) (items a) (items b) 0
 | .two k ns fs,a,b=>if k=0 then lsd (fun i=>(ordIs fs).getD (i%fs.length) fun _ _=>0) (items a) (items b) 0 else if nameD a=nameD b then (ordIs fs).getD (ns.idxOf (nameD a)) (fun _ _=>0) (partD a) (partD b) else sgn (ns.idxOf (nameD a)) (ns.idxOf (nameD b))
noncomputable def ordIs:List Fm→List (D→D→Int)
 | []=>[]
 | f::fs=>ordI f::ordIs fs
end
theorem Zcc:∀ (fs:List Fm) (i:Nat) (f:Fm),fs[i]?=some f→(ordIs fs).getD i (fun _ _=>0)=ordI f
 | [],i,f,h=>by cases h
 | g::fs,0,f,h=>by cases h;rw[ordIs];rfl
 | g::fs,i+1,f,h=>by rw[ordIs];exact Zcc fs i f h
theorem Zap(a b:Int):sgn b a = -sgn a b:=by unfold sgn;omega
theorem Zao{a b:Int}:sgn a b=0↔a=b:=by
 unfold sgn
 constructor
 ·intro h
  rcases Int.lt_trichotomy a b with z | z | z
  ·rw[if_neg (by omega),if_pos z] at h;omega
  ·exact z
  ·rw[if_pos z,if_neg (by omega)] at h;omega
 ·rintro rfl
  rw[if_neg (by omega)];rfl
theorem sgn_neg{a b:Int}:sgn a b<0↔a<b:=by
 unfold sgn
 constructor
 ·intro h
  rcases Int.lt_trichotomy a b with z | z | z
  ·exact z
  ·subst z;rw[if_neg (by omega)] at h;omega
  ·rw[if_pos z,if_neg (by omega)] at h;omega
 ·intro z
  rw[if_neg (by omega),if_pos z];omega
theorem Zop:∀ a:List Int,HT.lexLt a a=false
 | []=>rfl
 | x::a=>by rw[HT.lexLt_cons,if_pos rfl];exact Zop a
theorem Zoo:∀ a b:List Int,a≠b→(HT.lexLt a b=true∧HT.lexLt b a=false)∨(HT.lexLt b a=true∧HT.lexLt a b=false)
 | [],[],h=>absurd rfl h
 | [],y::b,_ => .inl ⟨rfl,rfl⟩
 | x::a,[],_ => .inr ⟨rfl,rfl⟩
 | x::a,y::b,h=>by
  rw[HT.lexLt_cons,HT.lexLt_cons]
  by_cases z:x=y
  ·subst z
   rw[if_pos rfl,if_pos rfl]
   exact Zoo a b fun e=>h (by rw[e])
  ·rw[if_neg z,if_neg (Uh z)]
   rcases Int.lt_or_gt_of_ne z with q | q
   ·exact .inl ⟨Ut q,UB (by omega)⟩
   ·exact .inr ⟨Ut q,UB (by omega)⟩
theorem Ztz(a b:List Int):sgnL b a = -sgnL a b:=by unfold sgnL;omega
theorem Zty{a b:List Int}:sgnL a b=0↔a=b:=by
 unfold sgnL
 constructor
 ·intro h
  by_cases z:a=b
  ·exact z
  ·rcases Zoo a b z with⟨q1,q2⟩ | ⟨q1,q2⟩<;>(rw[q1,q2] at h;simp at h)
 ·rintro rfl
  rw[Zop];rfl
theorem sgnL_neg{a b:List Int}:sgnL a b<0↔HT.lexLt a b=true:=by
 unfold sgnL
 by_cases z:a=b
 ·subst z;rw[Zop];simp
 ·rcases Zoo a b z with⟨q1,q2⟩ | ⟨q1,q2⟩<;>(rw[q1,q2];simp)
theorem Zks(g:Nat→D→D→Int)(h:∀ k x y,g k y x = -g k x y):∀ (xs ys:List D) (k:Nat),lsd g ys xs k = -lsd g xs ys k
 | [],[],k=>by show sgn _ _ = -sgn _ _;exact Zap _ _
 | [],y::ys,k=>by show sgn _ _ = -sgn _ _;exact Zap _ _
 | x::xs,[],k=>by show sgn _ _ = -sgn _ _;exact Zap _ _
 | x::xs,y::ys,k=>by
  show (if g k y x=0 then _ else _) = -(if g k x y=0 then _ else _)
  have e:=h k x y
  by_cases z:g k x y=0
  ·rw[if_pos z,if_pos (by omega)];exact Zks g h xs ys (k+1)
  ·rw[if_neg z,if_neg (by omega)];exact e
mutual
theorem Zdz:∀ (f:Fm) (a b:D),ordI f b a = -ordI f a b
 | .bare k,a,b=>by
  rw[ordI,ordI]
  unfold bareOrd
  split
  ·rfl
  ·split
   ·exact Zap _ _
   ·exact Zap _ _
 | .sp _ _,a,b=>by rw[ordI,ordI];exact Zap _ _
 | .le s,a,b=>by rw[ordI,ordI];exact Ztz _ _
 | .one k f,a,b=>by
  rw[ordI,ordI]
  split
  ·have:=Zdz f a b;omega
  ·exact Zks _ (fun _ x y=>Zdz f x y) _ _ 0
 | .two k ns fs,a,b=>by
  rw[ordI,ordI]
  split
  ·exact Zks (fun i=>(ordIs fs).getD (i%fs.length) fun _ _=>0) (fun i x y=>Zhn fs (i%fs.length) x y) _ _ 0
  ·by_cases z:nameD a=nameD b
   ·rw[if_pos z,if_pos z.symm,z];exact Zhn fs _ _ _
   ·rw[if_neg z,if_neg (Uh z)];exact Zap _ _
theorem Zhn:∀ (fs:List Fm) (i:Nat) (x y:D),(ordIs fs).getD i (fun _ _=>0) y x = -(ordIs fs).getD i (fun _ _=>0) x y
 | [],i,x,y=>by rw[ordIs];rfl
 | f::fs,0,x,y=>by rw[ordIs];exact Zdz f x y
 | f::fs,i+1,x,y=>by rw[ordIs];exact Zhn fs i x y
end
structure Good(g:D→D→Int)(x y:D):Prop where
 z:g x y=0↔x=y
 e:eqDD x y=true↔x=y
theorem Zgo(g:Nat→D→D→Int):∀ (xs ys:List D) (k:Nat),(∀ (i:Nat) (x y:D),xs[i]?=some x→ys[i]?=some y→Good (g (k+i)) x y)→(lsd g xs ys k=0↔xs=ys)
 | [],[],k,_=>⟨fun _=>rfl,fun _=>rfl⟩
 | [],y::ys,k,_=>by
  show sgn _ _=0↔_
  rw[Zao]
  constructor
  ·intro h;simp at h;omega
  ·intro h;cases h
 | x::xs,[],k,_=>by
  show sgn _ _=0↔_
  rw[Zao]
  constructor
  ·intro h;simp at h;omega
  ·intro h;cases h
 | x::xs,y::ys,k,h=>by
  have h0:=h 0 x y rfl rfl
  rw[Nat.add_zero] at h0
  rw[lsd]
  by_cases z:x=y
  ·rw[if_pos (h0.z.mpr z),Zgo g xs ys (k+1) fun i a b ha hb=>by
    have:=h (i+1) a b ha hb
    rwa [show k+1+i=k+(i+1) by omega],z]
   simp
  ·have zg:g k x y≠0:=fun q=>z (h0.z.mp q)
   rw[if_neg zg]
   exact⟨fun q=>absurd q zg,fun q=>absurd (List.head_eq_of_cons_eq q) z⟩
theorem Zgu:∀ (xs ys:List D),(∀ (i:Nat) (x y:D),xs[i]?=some x→ys[i]?=some y→(eqDD x y=true↔x=y))→(eqDs xs ys=true↔xs=ys)
 | [],[],_=>by rw[eqDs];simp
 | [],y::ys,_=>by rw[eqDs];simp
 | x::xs,[],_=>by rw[eqDs];simp
 | x::xs,y::ys,h=>by
  rw[eqDs]
  show (eqDD x y&&eqDs xs ys)=true↔_
  rw[UN,h 0 x y rfl rfl,Zgu xs ys fun i a b ha hb=>h (i+1) a b ha hb]
  simp
theorem Zgs{ff:D→Bool}:∀ {fs:List Fm} {ds:List D},fitL ff fs ds=true→ds.length=fs.length∧∀ (i:Nat) (f:Fm) (d:D),fs[i]?=some f→ds[i]?=some d→fitB ff f d=true
 | [],[],_=>⟨rfl,fun i f d h=>by cases h⟩
 | [],e::ds,h=>by rw[fitL] at h;cases h
 | g::fs,[],h=>by rw[fitL] at h;cases h
 | g::fs,e::ds,h=>by
  rw[fitL] at h
  have h:(fitB ff g e&&fitL ff fs ds)=true:=h
  rw[UN] at h
  obtain⟨a,b⟩:=Zgs h.2
  refine⟨by rw[Uq,Uq,a],fun i f d hf hd=>?_⟩
  cases i with
  | zero=>cases hf;cases hd;exact h.1
  | succ i=>exact b i f d hf hd
theorem Zqs{s:Str}:∀ (a b:List Nat),(∀ c,c∈a→c∈s.cps.toList)→(∀ c,c∈b→c∈s.cps.toList)→(a.map fun c=>((s.cps.toList.idxOf c:Nat):Int))=(b.map fun c=>((s.cps.toList.idxOf c:Nat):Int))→a=b
 | [],[],_,_,_=>rfl
 | [],y::b,_,_,h=>by cases h
 | x::a,[],_,_,h=>by cases h
 | x::a,y::b,h1,h2,h=>by
  rw[UP,UP] at h
  have e1:=List.head_eq_of_cons_eq h
  have e2:=List.tail_eq_of_cons_eq h
  have e1:s.cps.toList.idxOf x=s.cps.toList.idxOf y:=by omega
  have hx:=UT (h1 x (Ux ..))
  have hy:=UT (h2 y (Ux ..))
  have gx:s.cps.toList[s.cps.toList.idxOf x]=x:=List.getElem_idxOf hx
  have gy:s.cps.toList[s.cps.toList.idxOf y]=y:=List.getElem_idxOf hy
  have exy:x=y:=by rw[← gx,← gy];congr 1
  rw[exy,Zqs a b (fun c hc=>h1 c (Ul _ hc)) (fun c hc=>h2 c (Ul _ hc)) e2]
theorem Ztg{q p t:Int}(h:q∣p*t)(hc:Int.gcd p q=1):q∣t:=by
 have h':=Int.natAbs_dvd_natAbs.mpr h
 rw[Int.natAbs_mul] at h'
 have:Nat.Coprime q.natAbs p.natAbs:=by unfold Nat.Coprime;rw[Nat.gcd_comm];exact hc
 exact Int.natAbs_dvd_natAbs.mp (this.dvd_of_dvd_mul_left h')
theorem Xaj{p q r t:Int}(h1:0<q)(h2:Int.gcd p q=1)(h3:0<t)(h4:Int.gcd r t=1)(h:p*t=r*q):p=r∧q=t:=by
 have d1:q∣t:=Ztg (by rw[h];exact Int.dvd_mul_left r q) h2
 have d2:t∣q:=Ztg (by rw[← h];exact Int.dvd_mul_left p t) h4
 have e:q=t:=Int.dvd_antisymm (by omega) (by omega) d1 d2
 subst e
 exact⟨Int.eq_of_mul_eq_mul_right (by omega) h,rfl⟩
mutual
theorem Zaz:∀ (f:Fm) (a b:D),okG f→fitB Zv f a=true→fitB Zv f b=true→Good (ordI f) a b
 | .bare k,a,b,_,h1,h2=>by
  rw[fitB] at h1 h2
  rcases fin4 k with rfl | rfl | rfl | rfl
  ·cases a<;>first | cases h1 | skip
   cases b<;>first | cases h2 | skip
   exact⟨⟨fun _=>rfl,fun _=>by rw[ordI];rfl⟩,⟨fun _=>rfl,fun _=>by rw[eqDD];rfl⟩⟩
  ·cases a<;>first | cases h1 | skip
   rename_i x
   cases b<;>first | cases h2 | skip
   rename_i y
   refine⟨?_,?_⟩
   ·rw[ordI]
    show sgn (PyProof.Rows.b2i x) (PyProof.Rows.b2i y)=0↔_
    rw[Zao]
    cases x<;>cases y<;>simp[PyProof.Rows.b2i]
   ·rw[eqDD];cases x<;>cases y<;>simp[eqBl]
  ·cases a<;>first | cases h1 | skip
   rename_i x
   cases b<;>first | cases h2 | skip
   rename_i y
   refine⟨?_,?_⟩
   ·rw[ordI]
    show sgn x y=0↔_
    rw[Zao];simp
   ·rw[eqDD];simp[eqIn]
  ·replace h1:Zv a=true:=h1
   replace h2:Zv b=true:=h2
   unfold Zv at h1 h2
   split at h1
   ·rename_i p q
    split at h2
    ·rename_i r t
     have h1:=UJ h1
     have h2:=UJ h2
     refine⟨?_,?_⟩
     ·rw[ordI]
      show sgn (p*t) (r*q)=0↔_
      rw[Zao]
      constructor
      ·intro h
       obtain⟨e1,e2⟩:=Xaj h1.1 h1.2.1 h2.1 h2.2.1 h
       rw[e1,e2]
      ·intro h
       simp at h
       rw[h.1,h.2]
     ·rw[eqDD]
      show eqDs _ _=true↔_
      simp[eqDs,eqDD,eqIn]
    ·cases h2
   ·cases h1
 | .sp lo hi,a,b,_,h1,h2=>by
  rw[fitB] at h1 h2
  cases a<;>first | cases h1 | skip
  rename_i x
  cases b<;>first | cases h2 | skip
  rename_i y
  refine⟨?_,?_⟩
  ·rw[ordI]
   show sgn x y=0↔_
   rw[Zao];simp
  ·rw[eqDD];simp[eqIn]
 | .le s,a,b,_,h1,h2=>by
  rw[fitB] at h1 h2
  cases a<;>first | cases h1 | skip
  rename_i x
  cases b<;>first | cases h2 | skip
  rename_i y
  have h1:(decide (x.length≤200)&&madeOf x s)=true:=h1
  have h2:(decide (y.length≤200)&&madeOf y s)=true:=h2
  rw[UN] at h1 h2
  have g1:=h1.2
  have g2:=h2.2
  unfold madeOf at g1 g2
  rw[Ve] at g1 g2
  refine⟨?_,?_⟩
  ·rw[ordI]
   show sgnL (idxI s x) (idxI s y)=0↔_
   rw[Zty]
   constructor
   ·intro h
    have:=Zqs x.cps.toList y.cps.toList (fun c hc=>UJ (g1 c hc)) (fun c hc=>UJ (g2 c hc)) h
    have:x=y:=by
     cases x;cases y
     congr 1
     exact Array.toList_inj.mp this
    rw[this]
   ·intro h
    simp at h
    rw[h]
  ·rw[eqDD];simp[eqSt]
 | .one k f,a,b,hok,h1,h2=>by
  rw[okG] at hok
  rw[fitB] at h1 h2
  rcases fin3 k with rfl | rfl | rfl
  ·have ha:∃ xs,a = .tup xs∧∀ x,x∈xs→fitB Zv f x=true:=by
    have h1:maybeFit (fitB Zv f) a=true:=h1
    unfold maybeFit at h1
    split at h1
    ·exact⟨[],rfl,fun x hx=>nomatch hx⟩
    ·exact⟨[_],rfl,fun y hy=>by rw[UD.mp hy];exact h1⟩
    ·cases h1
   have hb:∃ xs,b = .tup xs∧∀ x,x∈xs→fitB Zv f x=true:=by
    have h2:maybeFit (fitB Zv f) b=true:=h2
    unfold maybeFit at h2
    split at h2
    ·exact⟨[],rfl,fun x hx=>nomatch hx⟩
    ·exact⟨[_],rfl,fun y hy=>by rw[UD.mp hy];exact h2⟩
    ·cases h2
   obtain⟨xs,rfl,hx⟩:=ha
   obtain⟨ys,rfl,hy⟩:=hb
   have all:∀ (i:Nat) (x y:D),xs[i]?=some x→ys[i]?=some y→Good (ordI f) x y:=fun i x y e1 e2=>Zaz f x y hok (hx x (Uv e1)) (hy y (Uv e2))
   refine⟨?_,?_⟩
   ·rw[ordI,if_neg (by decide)]
    show lsd _ xs ys 0=0↔_
    rw[Zgo _ xs ys 0 all];simp
   ·rw[eqDD]
    show eqDs xs ys=true↔_
    rw[Zgu xs ys fun i x y e1 e2=>(all i x y e1 e2).e];simp
  ·replace h1:manyFit (fitB Zv f) a=true:=h1
   replace h2:manyFit (fitB Zv f) b=true:=h2
   cases a<;>first | cases h1 | skip
   rename_i xs
   cases b<;>first | cases h2 | skip
   rename_i ys
   have h1:(decide (xs.length≤60)&&xs.all (fitB Zv f))=true:=h1
   have h2:(decide (ys.length≤60)&&ys.all (fitB Zv f))=true:=h2
   rw[UN,Ve] at h1 h2
   have all:∀ (i:Nat) (x y:D),xs[i]?=some x→ys[i]?=some y→Good (ordI f) x y:=fun i x y e1 e2=>Zaz f x y hok (h1.2 x (Uv e1)) (h2.2 y (Uv e2))
   refine⟨?_,?_⟩
   ·rw[ordI,if_neg (by decide)]
    show lsd _ xs ys 0=0↔_
    rw[Zgo _ xs ys 0 all];simp
   ·rw[eqDD]
    show eqDs xs ys=true↔_
    rw[Zgu xs ys fun i x y e1 e2=>(all i x y e1 e2).e];simp
  ·have g:=Zaz f a b hok h1 h2
   refine⟨?_,g.e⟩
   rw[ordI,if_pos rfl,← g.z]
   omega
 | .two k ns fs,a,b,hok,h1,h2=>by
  rw[okG] at hok
  rw[fitB] at h1 h2
  rcases fin2 k with rfl | rfl
  ·rw[if_pos rfl] at h1 h2
   cases a<;>first | cases h1 | skip
   rename_i xs
   cases b<;>first | cases h2 | skip
   rename_i ys
   obtain⟨l1,g1⟩:=Zgs (show fitL Zv fs xs=true from h1)
   obtain⟨l2,g2⟩:=Zgs (show fitL Zv fs ys=true from h2)
   have all:∀ (i:Nat) (x y:D),xs[i]?=some x→ys[i]?=some y→Good ((ordIs fs).getD ((0+i)%fs.length) fun _ _=>0) x y:=fun i x y e1 e2=>by
    have hi:i<fs.length:=by
     rcases UZ i xs.length with z | z
     ·omega
     ·rw[Vh z] at e1;cases e1
    rw[Nat.zero_add,Nat.mod_eq_of_lt hi]
    have hf:=Ui hi
    exact Zhw fs i x y _ hf hok.2.2 (g1 i _ x hf e1) (g2 i _ y hf e2)
   refine⟨?_,?_⟩
   ·rw[ordI,if_pos rfl]
    show lsd _ xs ys 0=0↔_
    rw[Zgo _ xs ys 0 all];simp
   ·rw[eqDD]
    show eqDs xs ys=true↔_
    rw[Zgu xs ys fun i x y e1 e2=>(all i x y e1 e2).e];simp
  ·rw[if_neg (by decide)] at h1 h2
   unfold choFit at h1 h2
   split at h1
   ·rename_i n x
    split at h2
    ·rename_i m y
     have mem:∀ {n:Str} {x:D},fitC Zv fs ns n x=true→n∈ns:=fun {n x} h=>Qv fs ns n x hok.2.1 h
     have hn:=mem h1
     have hm:=mem h2
     rw[Qw fs ns n hn hok.2.1] at h1
     rw[Qw fs ns m hm hok.2.1] at h2
     have hin:=UT hn
     have him:=UT hm
     have gn:ns[ns.idxOf n]=n:=List.getElem_idxOf hin
     have gm:ns[ns.idxOf m]=m:=List.getElem_idxOf him
     rw[hok.2.1] at hin
     have hf:=Ui hin
     have hnm:ns.idxOf n=ns.idxOf m↔n=m:=⟨fun h=>by rw[← gn,← gm];congr 1,fun h=>by rw[h]⟩
     by_cases z:n=m
     ·subst z
      rw[Uk,hf] at h1 h2
      have g:=Zhw fs _ x y _ hf hok.2.2 h1 h2
      refine⟨?_,?_⟩
      ·rw[ordI,if_neg (by decide)]
       show (if n=n then _ else _)=0↔_
       rw[if_pos rfl]
       show (ordIs fs).getD (ns.idxOf n) _ x y=0↔_
       rw[g.z];simp
      ·rw[eqDD]
       show eqDs _ _=true↔_
       simp[eqDs,eqDD,eqSt,g.e]
     ·refine⟨?_,?_⟩
      ·rw[ordI,if_neg (by decide)]
       show (if n=m then _ else _)=0↔_
       rw[if_neg z]
       show sgn (ns.idxOf n) (ns.idxOf m)=0↔_
       rw[Zao]
       constructor
       ·intro h
        exact absurd (hnm.mp (by omega)) z
       ·intro h
        simp at h
        exact absurd h.1 z
      ·rw[eqDD]
       show eqDs _ _=true↔_
       simp[eqDs,eqDD,eqSt,z]
    ·cases h2
   ·cases h1
theorem Zhw:∀ (fs:List Fm) (i:Nat) (x y:D) (f:Fm),fs[i]?=some f→okGs fs→fitB Zv f x=true→fitB Zv f y=true→Good ((ordIs fs).getD i fun _ _=>0) x y
 | [],i,x,y,f,e,_,_,_=>by cases e
 | g::fs,0,x,y,f,e,ok,h1,h2=>by
  cases e
  rw[okGs] at ok
  rw[ordIs]
  exact Zaz g x y ok.1 h1 h2
 | g::fs,i+1,x,y,f,e,ok,h1,h2=>by
  rw[okGs] at ok
  rw[ordIs]
  exact Zhw fs i x y f e ok.2 h1 h2
end
theorem DsAt.ge{H:Hp}:∀ (ds:List D) {vs:List V} {i:Nat} {d:D},DsAt H ds vs→ds[i]?=some d→∃ v,vs[i]?=some v∧DAt H d v
 | [],vs,i,d,h,e=>by cases e
 | d::ds,vs,0,x,h,e=>by
  obtain⟨o',r,rfl,q,q2⟩:=h
  cases e
  exact⟨_,rfl,q⟩
 | d::ds,vs,i+1,x,h,e=>by
  obtain⟨o',r,rfl,q,q2⟩:=h
  obtain⟨v,h1,h2⟩:=DsAt.ge (vs:=r) ds q2 (show ds[i]?=some x from e)
  exact⟨v,h1,h2⟩
theorem lenLT{K:Ua}{H:Hp}{p:Addr}{l:List V}(h:H p=some (.lst l)∨H p=some (.tup l)):LenV K (.ref p) H l.length:=h.elim (fun e => .inl ⟨_,Uy e,rfl⟩) (fun e => .inr ⟨_,Uz e,rfl⟩)
theorem Xaq{n i:Nat}{d:D}{ds:List D}(h:dhts ds≤n)(e:ds[i]?=some d):dht d≤n:=dhts_mem (Uv e) h
def spOrd(d:Nat):Sp:=fun vs H Q _=>∃ (vf va vb:V) (f:Fm) (a b:D),vs=[vf,va,vb]∧DAt H (dsc f) vf∧okG f∧ht f≤d∧DAt H a va∧DAt H b vb∧fitB Zv f a=true∧fitB Zv f b=true∧dht a≤50∧Q (.int (ordI f a b)) H
noncomputable def lsF(fs:List Fm):Nat→D→D→Int:=fun i=>(ordIs fs).getD (i%fs.length) fun _ _=>0
def spLsd(d:Nat):Sp:=fun vs H Q _=>∃ (lf:Addr) (va vb:V) (fs:List Fm) (fvs l1 l2:List V) (xs ys:List D),vs=[.ref lf,va,vb]∧H lf=some (.lst fvs)∧DsAt H (fs.map dsc) fvs∧0<fs.length∧fs.length≤20∧okGs fs∧hts fs≤d∧(∃ a,va = .ref a∧(H a=some (.lst l1)∨H a=some (.tup l1)))∧(∃ a,vb = .ref a∧(H a=some (.lst l2)∨H a=some (.tup l2)))∧DsAt H xs l1∧DsAt H ys l2∧xs.length≤1000∧ys.length≤1000∧dhts xs≤50∧
 (∀ (i:Nat) (f:Fm) (x:D),fs[i%fs.length]?=some f→xs[i]?=some x→fitB Zv f x=true)∧(∀ (i:Nat) (f:Fm) (y:D),fs[i%fs.length]?=some f→ys[i]?=some y→fitB Zv f y=true)∧Q (.int (lsd (lsF fs) xs ys 0)) H
theorem Zzx(g:Nat→D→D→Int):∀ (xs ys:List D) (k:Nat),xs=[]∨ys=[]→lsd g xs ys k=sgn xs.length ys.length
 | [],ys,k,_=>by cases ys<;>rfl
 | x::xs,[],k,_=>rfl
 | x::xs,y::ys,k,h=>by rcases h with h | h<;>cases h
theorem Zyy(m n:Nat):(if decide ((n:Int)<(m:Int))=true then (1:Int) else 0) - (if decide ((m:Int)<(n:Int))=true then 1 else 0)=sgn m n:=by unfold sgn;simp only[UW]
theorem Zlq{d:Nat}(nb:NB mg)(F:FunAt K mg "_law_listed" Zag ["_law_forms","_law_one","_law_other"] f fd)(D_law_order:DefOk P w K mg base (2*d+4) "_law_order" ["_law_form_here","_law_one","_law_other"] (spOrd d)):DefOk P w K mg base (2*d+5) "_law_listed" ["_law_forms","_law_one","_law_other"] (spLsd d):=by
 refine F.ok Zbm (fun vs H Q E h=>?_) (fun cdv A outer s H vs Q E hr h=>?_)
 ·obtain⟨_,_,_,_,_,_,_,_,_,rfl,_⟩:=h;rfl
 obtain⟨lf,va,vb,fs,fvs,l1,l2,xs,ys,rfl,hlf,hfs,hf0,hf20,hoks,hhts,⟨p1,rfl,hp1⟩,⟨p2,rfl,hp2⟩,hxs,hys,hn1,hn2,hdx,fx,fy,q⟩:=h
 have len1:=DsAt.len xs hxs
 have len2:=DsAt.len ys hys
 have lenf:fvs.length=fs.length:=by rw[DsAt.len _ hfs,Uj]
 refine⟨_,(Zc (Jg PassesOwn.never rfl (Yk rfl nb.range_ (Za (Zm (Zep rfl) rfl nb.min_ Zoy (Za (Zm Zt rfl nb.len_ Xg (Za (pv 1) Ze)) (Za (Zm Zt rfl nb.len_ Xg (Za (pv 2) Ze)) Ze))) Ze)) (Zy (i:=3) Zbm.nd rfl (by exact Or.inl rfl))
   (Zc (Zp (i:=4) Zbm.nd rfl (by exact Or.inl rfl) (Zi D_law_order hr (Za (Zs iAll (pv 0) (Zh Xc (pv 3) (Zm Zt rfl nb.len_ Xg (Za (pv 0) Ze))) (fun _ _=>rfl)) (Za (Zs iAll (pv 1) (pv 3) (fun _ _=>rfl)) (Za (Zs iAll (pv 2) (pv 3) (fun _ _=>rfl)) Ze))) (hk:=by omega)))
   (Zf (Zz (Zl oNe (pv 4) Zd (Zk _)) (Zf (Zj (pv 4))) Zo))))
  (Zf (Zj (Zh oSub (Wc Jj rfl nb.int_ Zba (Za (Xj oGt (Zm Zt rfl nb.len_ Xg (Za (pv 1) Ze)) (Zm Zt rfl nb.len_ Xg (Za (pv 2) Ze)) (Zk _)) Ze)) (Wc Jj rfl nb.int_ Zba (Za (Xj oLt (Zm Zt rfl nb.len_ Xg (Za (pv 1) Ze)) (Zm Zt rfl nb.len_ Xg (Za (pv 2) Ze)) (Zk _)) Ze)))))),?_⟩
 try dsimp only[cxK0,cxK1,cxK2,cxK3]
 refine⟨_,rfl,.ref p1,l1.length,rfl,lenLT hp1,_,rfl,.ref p2,l2.length,rfl,lenLT hp2,_,_,rfl,?_⟩
 obtain⟨mn,hmn,emn⟩:∃ mn:Nat,mn=min l1.length l2.length∧(if ((l2.length:Nat):Int)<((l1.length:Nat):Int) then ((l2.length:Nat):Int) else ((l1.length:Nat):Int))=((mn:Nat):Int):=⟨_,rfl,by split<;>omega⟩
 refine⟨((mn:Nat):Int),by rw[emn],by omega,by omega,?_⟩
 rw[show (((mn:Nat):Int)).toNat=mn by omega]
 refine Wd (fun i σ H2=>H=H2∧lsd (lsF fs) xs ys 0=lsd (lsF fs) (xs.drop i) (ys.drop i) i∧∃ z3 z4,σ=[some (.ref lf),some (.ref p1),some (.ref p2),z3,z4]) ?_ ?_ ?_
 ·exact⟨rfl,rfl,_,_,rfl⟩
 ·rintro i σ H2 hi ⟨rfl,he,z3,z4,rfl⟩
  rw[Int.zero_add]
  have b1:i<xs.length:=by omega
  have b2:i<ys.length:=by omega
  obtain⟨vx,ex,dx'⟩:=DsAt.ge xs hxs (Ui b1)
  obtain⟨vy,ey,dy'⟩:=DsAt.ge ys hys (Ui b2)
  have hm:i%fs.length<fs.length:=Nat.mod_lt _ hf0
  have hf:=Ui hm
  obtain⟨vf,ef,df⟩:=DsAt.ge (fs.map dsc) hfs (show (fs.map dsc)[i%fs.length]?=some (dsc fs[i%fs.length]) by rw[Ur,hf];rfl)
  obtain⟨og,hg2⟩:=Zay hoks hf
  have h50:=Xaq hdx (Ui b1)
  have em:((i:Nat):Int)%((fvs.length:Nat):Int)=((i%fs.length:Nat):Int):=by rw[lenf];exact(Int.natCast_emod ..).symm
  have ef':atI fvs (((i:Nat):Int)%((fvs.length:Nat):Int))=some vf:=by rw[em];exact Zx ef
  have eg:lsF fs i=ordI fs[i%fs.length]:=Zcc fs _ _ hf
  rw[UY b1,UY b2,lsd,eg] at he
  refine⟨_,rfl,_,rfl,_,rfl,.ref lf,fvs.length,rfl,lenLT (.inl hlf),_,_,rfl,rfl,(by omega),.inl (.inl ⟨_,_,_,_,rfl,rfl,Uy hlf,ef',_,rfl,_,rfl,ixLT hp1 ex ⟨_,rfl,_,rfl,ixLT hp2 ey ⟨vf,vx,vy,fs[i%fs.length],xs[i],ys[i],rfl,df,og,by omega,dx',dy',fx i _ _ hf (Ui b1),fy i _ _ hf (Ui b2),h50,?_⟩⟩⟩)⟩
  refine⟨_,rfl,rfl,_,rfl,?_⟩
  by_cases z:ordI fs[i%fs.length] xs[i] ys[i]=0
  ·rw[if_pos z] at he
   rw[Ut (by rw[z])]
   exact iteF ⟨rfl,he,_,_,rfl⟩
  ·rw[if_neg z] at he
   rw[UB (fun e=>z (V.int.inj e))]
   refine iteT ⟨_,rfl,H,.refl (Vy _),?_⟩
   rw[← he];exact q
 ·rintro σ H2 ⟨rfl,he,z3,z4,rfl⟩
  refine⟨_,rfl,.ref p1,l1.length,rfl,lenLT hp1,_,rfl,.ref p2,l2.length,rfl,lenLT hp2,_,_,rfl,rfl,.inl (.inr ⟨_,rfl,_,rfl,.ref p1,l1.length,rfl,lenLT hp1,_,rfl,.ref p2,l2.length,rfl,lenLT hp2,.inl ⟨_,_,rfl,rfl,.inl (.inr ⟨_,rfl,_,_,rfl,rfl,H,.refl (Vy _),?_⟩)⟩⟩)⟩
  have e0:xs.drop mn=[]∨ys.drop mn=[]:=by
   rcases Nat.le_total xs.length ys.length with z | z
   ·exact .inl (List.drop_eq_nil_of_le (by omega))
   ·exact .inr (List.drop_eq_nil_of_le (by omega))
  rw[he,Zzx _ _ _ _ e0,Va,Va] at q
  have es:sgn ((xs.length - mn:Nat):Int) ((ys.length - mn:Nat):Int)=sgn xs.length ys.length:=by unfold sgn;omega
  rw[es] at q
  dsimp only
  rw[len1,len2,Zyy]
  exact q
theorem Zzy(g:Fm):lsF [g]=fun _=>ordI g:=by
 funext i
 show (ordIs [g]).getD (i%1) (fun _ _=>0)=ordI g
 rw[Nat.mod_one]
 exact Zcc [g] 0 g rfl
theorem Zmi{H:Hp}{k:Fin 3}{g:Fm}{a:D}{v:V}(hk:k≠2)(h:DAt H a v)(fa:fitB Zv (.one k g) a=true):∃ l1 xs,(∃ p,v = .ref p∧(H p=some (.lst l1)∨H p=some (.tup l1)))∧DsAt H xs l1∧items a=xs∧xs.length≤1000∧(∀ n,dht a≤n→dhts xs≤n)∧∀ x,x∈xs→fitB Zv g x=true:=by
 rw[fitB] at fa
 rcases fin3 k with rfl | rfl | rfl
 ·replace fa:maybeFit (fitB Zv g) a=true:=fa
  unfold maybeFit at fa
  split at fa
  ·obtain⟨t,vs,rfl,e,hd,hl⟩:=h
   exact⟨vs,[],⟨t,rfl,.inr e⟩,hd,rfl,UF _,fun n _=>by rw[dhts];omega,fun x hx=>nomatch hx⟩
  ·obtain⟨t,vs,rfl,e,hd,hl⟩:=h
   exact⟨vs,_,⟨t,rfl,.inr e⟩,hd,rfl,by simp,fun n h=>by rw[dht] at h;omega,fun y hy=>by rw[UD.mp hy];exact fa⟩
  ·cases fa
 ·replace fa:manyFit (fitB Zv g) a=true:=fa
  cases a<;>first | cases fa | skip
  rename_i xs
  replace fa:(decide (xs.length≤60)&&xs.all (fitB Zv g))=true:=fa
  rw[UN,Ve,UW] at fa
  obtain⟨t,vs,rfl,e,hd,hl⟩:=h
  exact⟨vs,xs,⟨t,rfl,.inl e⟩,hd,rfl,by omega,fun n h=>by rw[dht] at h;omega,fa.2⟩
 ·exact absurd rfl hk
theorem Zdj(m n:Int):(if decide (n<m)=true then (1:Int) else 0) - (if decide (m<n)=true then 1 else 0)=sgn m n:=by unfold sgn;simp only[UW]
set_option maxHeartbeats 4000000 in
theorem Zjm{d:Nat}(nb:NB mg)(F:FunAt K mg "_law_order" Zbe ["_law_form_here","_law_one","_law_other"] f fd)(D_law_listed:DefOk P w K mg base (2*d+5) "_law_listed" ["_law_forms","_law_one","_law_other"] (spLsd d))
  (D_law_order:DefOk P w K mg base (2*d+4) "_law_order" ["_law_form_here","_law_one","_law_other"] (spOrd d)):DefOk P w K mg base (2*d+6) "_law_order" ["_law_form_here","_law_one","_law_other"] (spOrd (d+1)):=by
 refine F.ok Yg (fun vs H Q E h=>?_) (fun cdv A outer s H vs Q E hr h=>?_)
 ·obtain⟨_,_,_,_,_,_,rfl,_⟩:=h;rfl
 obtain⟨vf,va,vb,g,a,b,rfl,hv,hok,hht,ha,hb,fa,fb,h50,q⟩:=h
 refine useT _ (Zc (Zp (i:=3) Yg.nd rfl (by exact Or.inl rfl) (Zs iAll (pv 0) Zd (fun _ _=>rfl)))
  (Zc (Zz (Zl oEq (pv 3) Zu (Zk _)) (Zf (Zj Zd)) Zo)
  (Zc (Zz (Zl oEq (pv 3) Zu (Zk _)) (Zf (Zj (Zh oSub Zd (Zi D_law_order hr (Za (Zs iAll (pv 0) Zd (fun _ _=>rfl)) (Za (pv 1) (Za (pv 2) Ze))) (hk:=by omega))))) Zo)
  (Zc (Zz (PW.pt (Zae (Zl oEq (pv 3) Zu (Zk _)) (Ju (Zl oEq (pv 3) Zu (Zk _))))) (Zf (Zj (Zi D_law_listed hr (Za (Yp (Za (Zs iAll (pv 0) Zd (fun _ _=>rfl)) Ze)) (Za (pv 1) (Za (pv 2) Ze))) (hk:=by omega)))) Zo)
  (Zc (Zz (Zl oEq (pv 3) Zu (Zk _)) (Zf (Zj (Zi D_law_listed hr (Za (Yd ["_law_name","_law_inner"] [] rfl (by decide +kernel) trivial (piAll (Zs iAll (pv 0) Zd (fun _ _=>rfl))) (fun _ _ _ _ _=>(Zbt rfl (Xz (Zy (i:=0) (show (["_law_name","_law_inner"]:List Str).Nodup by decide +kernel) rfl (by first | exact Or.inl rfl | exact Or.inr rfl)) (Xz (Zy (i:=1) (show (["_law_name","_law_inner"]:List Str).Nodup by decide +kernel) rfl (by first | exact Or.inl rfl | exact Or.inr rfl)) Qp)))) (fun _ _ _ _ _=>Xs) (fun _ _ _ _ _=>(pv 1))) (Za (pv 1) (Za (pv 2) Ze))) (hk:=by omega)))) Zo)
  (Zc (Zz (Zl oEq (pv 3) Zu (Zk _)) (Zc (Wk (i:=4)  ["_law_name","_law_inner"] [] Yg.nd rfl rfl rfl (by decide +kernel) trivial (piAll (Zs iAll (pv 0) Zd (fun _ _=>rfl))) (fun _ _ _ _ _=>(Zbt rfl (Xz (Zy (i:=0) (show (["_law_name","_law_inner"]:List Str).Nodup by decide +kernel) rfl (by first | exact Or.inl rfl | exact Or.inr rfl)) (Xz (Zy (i:=1) (show (["_law_name","_law_inner"]:List Str).Nodup by decide +kernel) rfl (by first | exact Or.inl rfl | exact Or.inr rfl)) Qp)))) (fun _ _ _ _ _=>Xs) (fun _ _ _ _ _=>(pv 0)))
   (Zc (Zz (Zl oEq (Zs iAll (pv 1) Zd (fun _ _=>rfl)) (Zs iAll (pv 2) Zd (fun _ _=>rfl)) (Zk _)) (Zf (Zj (Zi D_law_order hr (Za (Zs iAll (Zs iAll (Zs iAll (pv 0) Zd (fun _ _=>rfl)) (Wb PySem.F.plainAttrs_list PySem.F.slot_list_index PySem.F.type_list_index Zce (pv 4) (Za (Zs iAll (pv 1) Zd (fun _ _=>rfl)) Ze)) (fun _ _=>rfl)) Zd (fun _ _=>rfl)) (Za (Zs iAll (pv 1) Zd (fun _ _=>rfl)) (Za (Zs iAll (pv 2) Zd (fun _ _=>rfl)) Ze))) (hk:=by omega)))) Zo)
   (Zc (Zp (i:=1) Yg.nd rfl (by first | exact Or.inl rfl | exact Or.inr rfl) (Wb PySem.F.plainAttrs_list PySem.F.slot_list_index PySem.F.type_list_index Zce (pv 4) (Za (Zs iAll (pv 1) Zd (fun _ _=>rfl)) Ze)))
   (Zf (Zp (i:=2) Yg.nd rfl (by first | exact Or.inl rfl | exact Or.inr rfl) (Wb PySem.F.plainAttrs_list PySem.F.slot_list_index PySem.F.type_list_index Zce (pv 4) (Za (Zs iAll (pv 2) Zd (fun _ _=>rfl)) Ze))))))) Zo)
  (Zc (Zz (Zl oEq (pv 3) Zu (Zk _)) (Zc (Zp (i:=5) Yg.nd rfl (by exact Or.inl rfl) (Zs iAll (pv 1) Zd (fun _ _=>rfl)))
   (Zc (Zp (i:=1) Yg.nd rfl (by first | exact Or.inl rfl | exact Or.inr rfl) (Zh Zob (Zs iAll (pv 1) Zd (fun _ _=>rfl)) (Zs iAll (pv 2) Zd (fun _ _=>rfl))))
   (Zf (Zp (i:=2) Yg.nd rfl (by first | exact Or.inl rfl | exact Or.inr rfl) (Zh Zob (Zs iAll (pv 2) Zd (fun _ _=>rfl)) (pv 5)))))) Zo)
  (Zc (Zz (Zl oEq (pv 3) Zu (Zk _)) (Zc (Wk (i:=1)  ["_law_sign"] [(0,"_law_form_here")] Yg.nd rfl rfl rfl (by decide +kernel) ⟨rfl,.inl rfl,trivial⟩ (piAll (pv 1)) (fun _ _ _ _ _=>(Zy (i:=0) (show (["_law_sign","_law_form_here"]:List Str).Nodup by decide +kernel) rfl (by first | exact Or.inl rfl | exact Or.inr rfl))) (fun _ _ _ _ _=>Xs) (fun _ _ _ _ _=>(Wb PySem.F.plainAttrs_str PySem.F.slot_str_index PySem.F.type_str_index Zfo (Zs iAll (pv 1) Zd (fun _ _=>rfl)) (Za (pv 0) Ze))))
   (Zf (Wk (i:=2)  ["_law_sign"] [(0,"_law_form_here")] Yg.nd rfl rfl rfl (by decide +kernel) ⟨rfl,.inl rfl,trivial⟩ (piAll (pv 2)) (fun _ _ _ _ _=>(Zy (i:=0) (show (["_law_sign","_law_form_here"]:List Str).Nodup by decide +kernel) rfl (by first | exact Or.inl rfl | exact Or.inr rfl))) (fun _ _ _ _ _=>Xs) (fun _ _ _ _ _=>(Wb PySem.F.plainAttrs_str PySem.F.slot_str_index PySem.F.type_str_index Zfo (Zs iAll (pv 1) Zd (fun _ _=>rfl)) (Za (pv 0) Ze)))))) Zo)
  (Zf (Zj (Zh oSub (Wc Jj rfl nb.int_ Zba (Za (Xj (oGtA (room64 hr)) (pv 1) (pv 2) (Zk _)) Ze)) (Wc Jj rfl nb.int_ Zba (Za (Xj (oLtA (room64 hr)) (pv 1) (pv 2) (Zk _)) Ze))))))))))))) fun G σ0 hσ go=>?_
 try dsimp only[cxK0,cxK1,cxK2,cxK3] at go
 have a0:∀ (x:V) (r:List V),atI (x::r) 0=some x:=fun x r=>Zx (j:=0) rfl
 have a1:∀ (x y:V) (r:List V),atI (x::y::r) 1=some y:=fun x y r=>Zx (j:=1) rfl
 cases g with
 | bare k =>
  rw[dsc] at hv
  rw[fitB] at fa fb
  rw[ordI] at q
  obtain⟨T,_,rfl,e,⟨_,_,rfl,⟨rfl,_⟩,rfl⟩,_⟩:=hv
  clear h50
  rcases fin4 k with rfl | rfl | rfl | rfl
  ·skip
   subst hσ
   refine go (setW rfl e ?_)
   exact Wh rfl fun N=>⟨H,.refl (Vy _),q⟩
  ·cases a<;>first | cases fa | skip
   rename_i x
   cases b<;>first | cases fb | skip
   rename_i y
   obtain rfl:va = .bl x:=ha
   obtain rfl:vb = .bl y:=hb
   subst hσ
   refine go (setW rfl e ?_)
   iterate 2 refine Xr rfl (by decide +kernel) ?_
   refine skipW2 rfl (by decide +kernel) (by decide +kernel) ?_
   iterate 4 refine Xr rfl (by decide +kernel) ?_
   refine⟨_,rfl,_,rfl,.inr ⟨_,_,rfl,rfl,.inl (.inr ⟨_,rfl,_,rfl,_,rfl,.inr ⟨_,_,rfl,rfl,.inl (.inr ⟨_,rfl,_,_,rfl,rfl,H,.refl (Vy _),?_⟩)⟩⟩)⟩⟩
   dsimp only
   rw[Zdj]
   exact q
  ·cases a<;>first | cases fa | skip
   rename_i x
   cases b<;>first | cases fb | skip
   rename_i y
   obtain rfl:va = .int x:=ha
   obtain rfl:vb = .int y:=hb
   subst hσ
   refine go (setW rfl e ?_)
   iterate 2 refine Xr rfl (by decide +kernel) ?_
   refine skipW2 rfl (by decide +kernel) (by decide +kernel) ?_
   iterate 4 refine Xr rfl (by decide +kernel) ?_
   refine⟨_,rfl,_,rfl,.inl (.inl ⟨_,_,rfl,rfl,.inl (.inr ⟨_,rfl,_,rfl,_,rfl,.inl (.inl (.inl ⟨_,_,rfl,rfl,.inl (.inr ⟨_,rfl,_,_,rfl,rfl,H,.refl (Vy _),?_⟩)⟩))⟩)⟩)⟩
   dsimp only
   rw[Zdj]
   exact q
  ·replace fa:Zv a=true:=fa
   replace fb:Zv b=true:=fb
   unfold Zv at fa fb
   split at fa
   ·rename_i p1 q1
    split at fb
    ·rename_i p2 q2
     obtain⟨t1,_,rfl,e1,⟨_,_,rfl,rfl,_,_,rfl,rfl,rfl⟩,_⟩:=ha
     obtain⟨t2,_,rfl,e2,⟨_,_,rfl,rfl,_,_,rfl,rfl,rfl⟩,_⟩:=hb
     have fa:=UJ fa
     have fb:=UJ fb
     have h38:(10:Nat) ^ 38<2 ^ 200:=by decide +kernel
     have bb:∀ {x:Int},x.natAbs≤10 ^ 38→Builtin.Int.intBits x≤2 ^ 20:=fun {x} h=>UC (Ztp (k:=200) (show x.natAbs<2 ^ 200 by omega)) (by decide)
     subst hσ
     refine go (setW rfl e ?_)
     iterate 2 refine Xr rfl (by decide +kernel) ?_
     refine skipW2 rfl (by decide +kernel) (by decide +kernel) ?_
     iterate 2 refine Xr rfl (by decide +kernel) ?_
     refine takeN rfl fun N hN=>⟨_,rfl,.inl (.inr ⟨_,_,_,_,rfl,rfl,Uz e1,a1 _ _ _,_,rfl,.inl (.inr ⟨_,_,_,_,rfl,rfl,Uz e1,a0 _ _,_,rfl,.inl (.inr ⟨_,_,_,_,rfl,rfl,Uz e2,a1 _ _ _,_,_,rfl,rfl,⟨bb fa.2.2.1,bb (by omega)⟩,?_⟩)⟩)⟩)⟩
     refine⟨_,rfl,.inl (.inr ⟨_,_,_,_,rfl,rfl,Uz e2,a0 _ _,_,rfl,_,_,rfl,rfl,⟨bb fb.2.2.1,bb (by omega)⟩,hN _ _ ?_⟩)⟩
     refine Xr rfl (by decide +kernel) ?_
     refine⟨_,rfl,_,rfl,.inl (.inl ⟨_,_,rfl,rfl,.inl (.inr ⟨_,rfl,_,rfl,_,rfl,.inl (.inl (.inl ⟨_,_,rfl,rfl,.inl (.inr ⟨_,rfl,_,_,rfl,rfl,H,.refl (Vy _),?_⟩)⟩))⟩)⟩)⟩
     dsimp only
     rw[Zdj]
     exact q
    ·cases fb
   ·cases fa
 | sp lo hi =>
  rw[dsc] at hv
  rw[fitB] at fa fb
  rw[ordI] at q
  obtain⟨T,_,rfl,e,⟨_,_,rfl,⟨rfl,_⟩,_,_,rfl,rfl,_,_,rfl,rfl,rfl⟩,_⟩:=hv
  clear h50
  cases a<;>first | cases fa | skip
  rename_i x
  cases b<;>first | cases fb | skip
  rename_i y
  obtain rfl:va = .int x:=ha
  obtain rfl:vb = .int y:=hb
  subst hσ
  refine go (setW rfl e ?_)
  iterate 2 refine Xr rfl (by decide +kernel) ?_
  refine skipW2 rfl (by decide +kernel) (by decide +kernel) ?_
  iterate 4 refine Xr rfl (by decide +kernel) ?_
  refine⟨_,rfl,_,rfl,.inl (.inl ⟨_,_,rfl,rfl,.inl (.inr ⟨_,rfl,_,rfl,_,rfl,.inl (.inl (.inl ⟨_,_,rfl,rfl,.inl (.inr ⟨_,rfl,_,_,rfl,rfl,H,.refl (Vy _),?_⟩)⟩))⟩)⟩)⟩
  dsimp only
  rw[Zdj]
  exact q
 | le sg =>
  rw[dsc] at hv
  rw[fitB] at fa fb
  rw[ordI] at q
  obtain⟨T,_,rfl,e,⟨_,_,rfl,⟨rfl,_⟩,_,_,rfl,⟨rfl,hsl⟩,rfl⟩,_⟩:=hv
  clear h50
  cases a<;>first | cases fa | skip
  rename_i x
  cases b<;>first | cases fb | skip
  rename_i y
  replace fa:(decide (x.length≤200)&&madeOf x sg)=true:=fa
  replace fb:(decide (y.length≤200)&&madeOf y sg)=true:=fb
  rw[UN,UW] at fa fb
  obtain⟨rfl,_⟩:=ha
  obtain⟨rfl,_⟩:=hb
  subst hσ
  refine go (setW rfl e ?_)
  iterate 2 refine Xr rfl (by decide +kernel) ?_
  refine skipW2 rfl (by decide +kernel) (by decide +kernel) ?_
  iterate 3 refine Xr rfl (by decide +kernel) ?_
  refine takeN rfl fun N hN=>?_
  refine .inr ⟨_,rfl,_,rfl,fun D1 hD1=>?_⟩
  refine Zgx (fun c=>V.int ((sg.cps.toList.idxOf c:Nat):Int)) (fun σ=>∃ z,σ=[z,some (.ref T)]) (Xo (by show x.length≤_;omega)) ⟨_,rfl⟩ hD1 ?_ ?_
  ·rintro ch hc σ1 H1 ⟨z,rfl⟩ hs1 R hR
   refine⟨_,rfl,.inl (.inr ⟨_,_,_,_,rfl,rfl,Uz (hs1 _ _ e),a1 _ _ _,rfl,_,rfl,sg,ch,rfl,rfl,UJ (Ve.mp fa.2 ch hc),hR _ ⟨_,rfl⟩⟩)⟩
  have S1:=Zq (o:=HO.lst (x.cps.toList.map fun c=>V.int ((sg.cps.toList.idxOf c:Nat):Int))) hD1
  have g1:upd H D1 (.lst (x.cps.toList.map fun c=>V.int ((sg.cps.toList.idxOf c:Nat):Int))) D1=_:=Zb
  generalize upd H D1 (.lst (x.cps.toList.map fun c=>V.int ((sg.cps.toList.idxOf c:Nat):Int)))=H1 at S1 g1 ⊢
  refine .inr ⟨_,rfl,_,rfl,fun D2 hD2=>?_⟩
  refine Zgx (fun c=>V.int ((sg.cps.toList.idxOf c:Nat):Int)) (fun σ=>∃ z,σ=[z,some (.ref T)]) (Xo (by show y.length≤_;omega)) ⟨_,rfl⟩ hD2 ?_ ?_
  ·rintro ch hc σ1 H2 ⟨z,rfl⟩ hs1 R hR
   refine⟨_,rfl,.inl (.inr ⟨_,_,_,_,rfl,rfl,Uz (hs1 _ _ (S1 _ _ e)),a1 _ _ _,rfl,_,rfl,sg,ch,rfl,rfl,UJ (Ve.mp fb.2 ch hc),hR _ ⟨_,rfl⟩⟩)⟩
  have S2:=Zq (o:=HO.lst (y.cps.toList.map fun c=>V.int ((sg.cps.toList.idxOf c:Nat):Int))) hD2
  have g2:upd H1 D2 (.lst (y.cps.toList.map fun c=>V.int ((sg.cps.toList.idxOf c:Nat):Int))) D2=_:=Zb
  have g1:=S2 _ _ g1
  generalize upd H1 D2 (.lst (y.cps.toList.map fun c=>V.int ((sg.cps.toList.idxOf c:Nat):Int)))=H2 at S2 g1 g2 ⊢
  have ei:∀ t:Str,(t.cps.toList.map fun c=>V.int ((sg.cps.toList.idxOf c:Nat):Int))=(idxI sg t).map V.int:=fun t=>by unfold idxI;rw[UU];rfl
  rw[ei] at g1 g2
  refine hN _ _ ?_
  exact⟨_,rfl,_,rfl,.inl (.inr ⟨_,_,_,_,rfl,rfl,Uy g1,Uy g2,.inl (.inr ⟨_,rfl,_,rfl,_,rfl,.inl (.inr ⟨_,_,_,_,rfl,rfl,Uy g1,Uy g2,.inl (.inr ⟨_,rfl,_,_,rfl,rfl,H,.refl (S1.trans S2),q⟩)⟩)⟩)⟩)⟩
 | one k g =>
  rw[dsc] at hv
  rw[okG] at hok
  rw[ht] at hht
  obtain⟨T,_,rfl,e,⟨_,_,rfl,⟨rfl,_⟩,v',_,rfl,hd,rfl⟩,_⟩:=hv
  by_cases hk:k=2
  ·subst hk
   rw[ordI,if_pos rfl] at q
   rw[fitB] at fa fb
   subst hσ
   refine go (setW rfl e ?_)
   refine Xr rfl (by decide +kernel) ?_
   exact Wh rfl fun N=>⟨_,rfl,.inl (.inr ⟨_,_,_,_,rfl,rfl,Uz e,a1 _ _ _,_,rfl,_,rfl,v',va,vb,g,a,b,rfl,hd,hok,by omega,ha,hb,fa,fb,h50,_,_,rfl,rfl,H,.refl (Vy _),q⟩)⟩
  ·obtain⟨l1,xs,hp1,d1,x1,n1,k1,f1⟩:=Zmi hk ha fa
   obtain⟨l2,ys,hp2,d2,x2,n2,k2,f2⟩:=Zmi hk hb fb
   rw[ordI,if_neg hk,← Zzy g,x1,x2] at q
   have g0:∀ {i:Nat} {f:Fm},[g][i%1]?=some f→f=g:=fun {i f} h=>by rw[Nat.mod_one] at h;exact(Ub h).symm
   have fin:∀ D1,H D1=none→spLsd d [.ref D1,va,vb] (upd H D1 (.lst [v'])) (fun v H'=>∃ H'',L2.Sub H H'' H'∧Q v H'') E0:=fun D1 hD1=>by
    have S1:=Zq (o:=HO.lst [v']) hD1
    obtain⟨p1,rfl,e1⟩:=hp1
    obtain⟨p2,rfl,e2⟩:=hp2
    exact⟨D1,.ref p1,.ref p2,[g],[v'],l1,l2,xs,ys,rfl,Zb,⟨v',[],rfl,DAt.same S1 _ hd,rfl⟩,Nat.one_pos,(by show 1≤20;decide),(by rw[okGs,okGs];exact⟨hok,trivial⟩),(by rw[hts,hts];omega),⟨p1,rfl,e1.imp (S1 _ _) (S1 _ _)⟩,⟨p2,rfl,e2.imp (S1 _ _) (S1 _ _)⟩,DsAt.same S1 _ d1,DsAt.same S1 _ d2,n1,n2,k1 _ h50,(fun i f x hf hx=>by rw[g0 hf];exact f1 x (Uv hx)),(fun i f x hf hx=>by rw[g0 hf];exact f2 x (Uv hx)),H,.refl S1,q⟩
   rcases fin3 k with rfl | rfl | rfl
   ·skip
    subst hσ
    refine go (setW rfl e ?_)
    iterate 2 refine Xr rfl (by decide +kernel) ?_
    exact takeO rfl (.inl rfl) fun N=>⟨_,rfl,.inl (.inr ⟨_,_,_,_,rfl,rfl,Uz e,a1 _ _ _,Zod,fun D1 hD1=>⟨_,rfl,_,rfl,fin D1 hD1⟩⟩)⟩
   ·skip
    subst hσ
    refine go (setW rfl e ?_)
    iterate 2 refine Xr rfl (by decide +kernel) ?_
    exact takeO rfl (.inr rfl) fun N=>⟨_,rfl,.inl (.inr ⟨_,_,_,_,rfl,rfl,Uz e,a1 _ _ _,Zod,fun D1 hD1=>⟨_,rfl,_,rfl,fin D1 hD1⟩⟩)⟩
   ·exact absurd rfl hk
 | two k ns fs =>
  have hv:=DAt.dx _ hv
  rw[dsc] at hv
  rw[okG] at hok
  rw[ht] at hht
  obtain⟨hgn,hlen,hoks⟩:=hok
  obtain⟨T,_,rfl,_,e,⟨_,_,rfl,⟨rfl,_⟩,_,_,rfl,⟨l,lvs,rfl,_,el,hds,hl1000⟩,rfl⟩,_⟩:=hv
  have hvl:lvs.length=fs.length:=by rw[DsAt.len _ (DsX.at _ hds),Zch]
  have hfl:0<fs.length∧fs.length≤20:=by
   have h:=hgn
   unfold goodNames at h
   simp only[UN,UW] at h
   omega
  rcases fin2 k with rfl | rfl
  ·rw[fitB,if_pos rfl] at fa fb
   rw[ordI,if_pos rfl] at q
   obtain⟨xs,rfl⟩:∃ xs,a = .tup xs:=by cases a<;>first | cases fa | exact⟨_,rfl⟩
   obtain⟨ys,rfl⟩:∃ ys,b = .tup ys:=by cases b<;>first | cases fb | exact⟨_,rfl⟩
   obtain⟨ln1,fx⟩:=Zgs (show fitL Zv fs xs=true from fa)
   obtain⟨ln2,fy⟩:=Zgs (show fitL Zv fs ys=true from fb)
   obtain⟨t1,l1,rfl,e1,hxs,_⟩:=ha
   obtain⟨t2,l2,rfl,e2,hys,_⟩:=hb
   rw[dht] at h50
   subst hσ
   refine go (setW rfl e ?_)
   iterate 2 refine Xr rfl (by decide +kernel) ?_
   refine skipW2 rfl (by decide +kernel) (by decide +kernel) ?_
   refine Wh rfl fun N=>?_
   refine .inl ⟨_,rfl,.inl (.inr ⟨_,_,_,_,rfl,rfl,Uz e,a1 _ _ _,l,rfl,⟨_,Uy el⟩,fun D1 hD1=>?_⟩)⟩
   have S0:=Zq (o:=HO.lst []) hD1
   refine Jz (K:=K) (a:=l) (xs:=lvs) (fun i ys H2=>Same H H2∧DsX [] H ((fs.take i).map dsc) ys) (fun σ=>∃ z1 z2,σ=[z1,z2]) (by omega) ⟨_,_,rfl⟩ ?_ ⟨S0,rfl⟩ ?_ ?_
   ·rintro i ys H2 ⟨S2,_⟩
    exact Uy (S2 _ _ el)
   ·rintro i x hx vs σ1 H2 ⟨z1,z2,rfl⟩ ⟨S2,hds2⟩ hDy hyl R hR
    obtain⟨g,nm,T',v',hg,hn',rfl,_,eT',hd⟩:=Qy fs ns hlen hds hx
    refine⟨_,_,rfl,Uz (S2 _ _ eT'),rfl,_,_,rfl,_,_,rfl,rfl,?_⟩
    refine⟨_,rfl,hR _ _ _ ⟨_,_,rfl⟩ hDy ⟨fun b u eb=>by rw[Zn (Xa eb hD1)];exact S2 _ _ eb,?_⟩⟩
    rw[UX,hg,UE]
    exact DsX.snoc hd _ hds2
   ·rintro vs H2 hyl hD2 ⟨S2,hds2⟩
    rw[hvl,UV (Up _)] at hds2
    have md:∀ {i:Nat},i<fs.length→i%fs.length=i:=fun h=>Nat.mod_eq_of_lt h
    have bd:∀ {α:Type} {ds:List α} {i:Nat} {x:α},ds[i]?=some x→i<ds.length:=fun h=>(Uw.mp h).1
    exact⟨_,rfl,_,rfl,D1,.ref t1,.ref t2,fs,vs,l1,l2,xs,ys,rfl,hD2,DsAt.same S2 _ (DsX.at _ hds2),hfl.1,hfl.2,hoks,by omega,⟨t1,rfl,.inr (S2 _ _ e1)⟩,⟨t2,rfl,.inr (S2 _ _ e2)⟩,DsAt.same S2 _ hxs,DsAt.same S2 _ hys,by omega,by omega,by omega,(fun i f x hf hx=>fx i f x (by rw[md (by have:=bd hx;omega)] at hf;exact hf) hx),(fun i f x hf hx=>fy i f x (by rw[md (by have:=bd hx;omega)] at hf;exact hf) hx),H,.refl S2,q⟩
  ·rw[fitB,if_neg (by decide)] at fa fb
   have ex:∀ {d:D} {v:V},choFit (fitC Zv fs ns) d=true→DAt H d v→∃ t m x vx,v = .ref t∧d = .tup [.str m,x]∧H t=some (.tup [.str m,vx])∧DAt H x vx∧m∈ns∧fitB Zv (fs.getD (ns.idxOf m) (.bare 0)) x=true:=fun {d v} h1 h2=>by
    unfold choFit at h1
    split at h1
    ·obtain⟨t,_,rfl,e,⟨_,_,rfl,⟨rfl,_⟩,vx,_,rfl,hx,rfl⟩,_⟩:=h2
     have hm:=Qv fs ns _ _ hlen h1
     rw[Qw fs ns _ hm hlen] at h1
     exact⟨t,_,_,vx,rfl,rfl,e,hx,hm,h1⟩
    ·cases h1
   obtain⟨t1,m1,x,vx,rfl,rfl,e1,hx,hm1,fx⟩:=ex fa ha
   obtain⟨t2,m2,y,vy,rfl,rfl,e2,hy,hm2,fy⟩:=ex fb hb
   rw[dht,dhts,dhts,dhts,dht] at h50
   have ix:∀ {m:Str},m∈ns→ns[ns.idxOf m]?=some m∧(∀ j,j<ns.idxOf m→ns[j]?≠some m)∧ns.idxOf m<fs.length:=fun {m} hm=>by
    have hk:=UT hm
    refine⟨?_,fun j hj hw=>?_,by rw[← hlen];exact hk⟩
    ·rw[Ui hk,List.getElem_idxOf hk]
    ·have:=Wv hgn hw
     omega
   obtain⟨i1,i2,i3⟩:=ix hm1
   obtain⟨j1,j2,j3⟩:=ix hm2
   rw[ordI,if_neg (by decide)] at q
   replace q:Q (.int (if m1=m2 then (ordIs fs).getD (ns.idxOf m1) (fun _ _=>0) x y else sgn (ns.idxOf m1) (ns.idxOf m2))) H:=q
   subst hσ
   refine go (setW rfl e ?_)
   iterate 2 refine Xr rfl (by decide +kernel) ?_
   refine skipW2 rfl (by decide +kernel) (by decide +kernel) ?_
   refine Xr rfl (by decide +kernel) ?_
   refine takeN rfl fun N hN=>?_
   refine .inl ⟨_,rfl,.inl (.inr ⟨_,_,_,_,rfl,rfl,Uz e,a1 _ _ _,l,rfl,⟨_,Uy el⟩,fun D1 hD1=>?_⟩)⟩
   have S0:=Zq (o:=HO.lst []) hD1
   refine Jz (K:=K) (a:=l) (xs:=lvs) (fun i ys H2=>Same H H2∧ys=(ns.take i).map V.str) (fun σ=>∃ z1 z2,σ=[z1,z2]) (by omega) ⟨_,_,rfl⟩ ?_ ⟨S0,rfl⟩ ?_ ?_
   ·rintro i ys H2 ⟨S2,_⟩
    exact Uy (S2 _ _ el)
   ·rintro i x hx vs σ1 H2 ⟨z1,z2,rfl⟩ ⟨S2,hvs⟩ hDy hyl R hR
    obtain⟨g,nm,T',v',hg,hn',rfl,_,eT',hd⟩:=Qy fs ns hlen hds hx
    refine⟨_,_,rfl,Uz (S2 _ _ eT'),rfl,_,_,rfl,_,_,rfl,rfl,?_⟩
    refine⟨_,rfl,hR _ _ _ ⟨_,_,rfl⟩ hDy ⟨fun b u eb=>by rw[Zn (Xa eb hD1)];exact S2 _ _ eb,?_⟩⟩
    rw[UX,hn',UE,hvs];rfl
   ·rintro vs H2 hyl hD2 ⟨S2,hvs⟩
    rw[hvl,← hlen,UV (Up _)] at hvs
    subst hvs
    refine⟨_,rfl,.inl (.inr ⟨_,_,_,_,rfl,rfl,Uz (S2 _ _ e1),a0 _ _,_,rfl,.inl (.inr ⟨_,_,_,_,rfl,rfl,Uz (S2 _ _ e2),a0 _ _,rfl,_,rfl,?_⟩)⟩)⟩
    by_cases z:m1=m2
    ·subst z
     rw[if_pos rfl] at q
     have hf:=Ui i3
     rw[Uk,hf] at fx fy
     obtain⟨og,hg2⟩:=Zay hoks hf
     rw[Zcc fs _ _ hf] at q
     rw[Ut rfl]
     refine iteT ?_
     obtain⟨yv,hyv⟩:∃ yv,lvs[ns.idxOf m1]?=some yv:=⟨_,Ui (by omega)⟩
     obtain⟨g,nm,T',v',hg,hn',rfl,_,eT',hd⟩:=Qy fs ns hlen hds hyv
     rw[hf] at hg
     obtain rfl:=Ub hg
     exact⟨_,rfl,.inl (.inr ⟨_,_,_,_,rfl,rfl,Uz (S2 _ _ e),a1 _ _ _,_,rfl,.inl ⟨rfl,_,Uy hD2⟩,_,rfl,.inl (.inr ⟨_,_,_,_,rfl,rfl,Uz (S2 _ _ e1),a0 _ _,D1,ns,m1,ns.idxOf m1,rfl,rfl,hD2,i1,i2,by omega,.inl (.inl ⟨_,_,_,_,rfl,rfl,Uy (S2 _ _ el),Zx hyv,.inl (.inr ⟨_,_,_,_,rfl,rfl,Uz (S2 _ _ eT'),a1 _ _ _,_,rfl,.inl (.inr ⟨_,_,_,_,rfl,rfl,Uz (S2 _ _ e1),a1 _ _ _,_,rfl,.inl (.inr ⟨_,_,_,_,rfl,rfl,Uz (S2 _ _ e2),a1 _ _ _,v',vx,vy,_,x,y,rfl,DAt.same S2 _ (DX.at _ hd),og,by omega,DAt.same S2 _ hx,DAt.same S2 _ hy,fx,fy,by omega,H,.refl S2,q⟩)⟩)⟩)⟩)⟩)⟩)⟩
    ·rw[if_neg z] at q
     rw[UB (fun e=>z (V.str.inj e))]
     refine iteF ⟨_,rfl,.inl ⟨rfl,_,Uy hD2⟩,_,rfl,.inl (.inr ⟨_,_,_,_,rfl,rfl,Uz (S2 _ _ e1),a0 _ _,D1,ns,m1,ns.idxOf m1,rfl,rfl,hD2,i1,i2,by omega,_,rfl,.inl ⟨rfl,_,Uy hD2⟩,_,rfl,.inl (.inr ⟨_,_,_,_,rfl,rfl,Uz (S2 _ _ e2),a0 _ _,D1,ns,m2,ns.idxOf m2,rfl,rfl,hD2,j1,j2,by omega,hN _ _ ?_⟩)⟩)⟩
     iterate 2 refine Xr rfl (by decide +kernel) ?_
     refine⟨_,rfl,_,rfl,.inl (.inl ⟨_,_,rfl,rfl,.inl (.inr ⟨_,rfl,_,rfl,_,rfl,.inl (.inl (.inl ⟨_,_,rfl,rfl,.inl (.inr ⟨_,rfl,_,_,rfl,rfl,H,.refl S2,?_⟩)⟩))⟩)⟩)⟩
     dsimp only
     rw[Zdj]
     exact q
def spSameD(d:Nat):Sp:=fun vs H Q _=>∃ (v1 v2:V) (dd:D),vs=[v1,v2]∧DAt H dd v1∧DAt H dd v2∧dht dd≤d∧Q (.bl true) H
theorem dhts_mem:∀ (ds:List D) {d:D},d∈ds→dht d≤dhts ds
 | [],d,h=>nomatch h
 | e::ds,d,h=>by
  rw[dhts]
  rcases Um.mp h with rfl | h
  ·omega
  ·have:=dhts_mem ds h;omega
theorem Zla{d:Nat}(nb:NB mg)(F:FunAt K mg "_law_same" Zcp ["_law_found","_law_due"] f fd)(D_law_same:DefOk P w K mg base (d+1) "_law_same" ["_law_found","_law_due"] (spSameD d)):DefOk P w K mg base (d+1+1) "_law_same" ["_law_found","_law_due"] (spSameD (d+1)):=by
 refine F.ok Zpn (fun vs H Q E h=>?_) (fun cdv A outer s H vs Q E hr h=>?_)
 ·obtain⟨_,_,_,rfl,_⟩:=h;rfl
 obtain⟨v1,v2,dd,rfl,h1,h2,hdh,q⟩:=h
 refine useT _ (Zc (Zz (Zl Zoc (pv 1) Zfk (Zk _)) (Zf (Zj (Xj Zoc (pv 0) Zfk (Zk _)))) Zo)
  (Zc (Zz (Xm (Zm Xi rfl nb.isinstance_ Xd (Za (pv 1) (Za (Yn (v := .ty "bool") rfl nb.bool_ Zjh rfl) Ze))) (fun _=>rfl)) (Zf (Zj (Yu (Zm Xi rfl nb.isinstance_ Xd (Za (pv 0) (Za (Yn (v := .ty "bool") rfl nb.bool_ Zjh rfl) Ze))) (Wl (Xj oEq (pv 0) (pv 1) (Zk _)))))) Zo)
  (Zc (Zz (Xm (Zm Xi rfl nb.isinstance_ Xd (Za (pv 1) (Za (Yn (v := .ty "int") rfl nb.int_ Zba rfl) Ze))) (fun _=>rfl)) (Zf (Zj (Yu (Zm Xi rfl nb.isinstance_ Xd (Za (pv 0) (Za (Yn (v := .ty "int") rfl nb.int_ Zba rfl) Ze))) (Yu (Zoa (Zm Xi rfl nb.isinstance_ Xd (Za (pv 0) (Za (Yn (v := .ty "bool") rfl nb.bool_ Zjh rfl) Ze)))) (Wl (Xj oEq (pv 0) (pv 1) (Zk _))))))) Zo)
  (Zc (Zz (Xm (Zm Xi rfl nb.isinstance_ Xd (Za (pv 1) (Za (Yn (v := .ty "str") rfl nb.str_ Zsu rfl) Ze))) (fun _=>rfl)) (Zf (Zj (Yu (Zm Xi rfl nb.isinstance_ Xd (Za (pv 0) (Za (Yn (v := .ty "str") rfl nb.str_ Zsu rfl) Ze))) (Wl (Xj oEq (pv 0) (pv 1) (Zk _)))))) Zo)
  (Zc (Zz (PW.pt (Zae (PW.pt (Zcv (Xm (Zm Xi rfl nb.isinstance_ Xd (Za (pv 1) (Za (Yn (v := .ty "tuple") rfl nb.tuple_ Qz rfl) Ze))) (fun _=>rfl)) (Zan (Yt (Xm (Zm Xi rfl nb.isinstance_ Xd (Za (pv 0) (Za (Yn (v := .ty "tuple") rfl nb.tuple_ Qz rfl) Ze))) (fun _=>rfl)))))) (Ju (PW.pt (Zcv (Xm (Zm Xi rfl nb.isinstance_ Xd (Za (pv 1) (Za (Yn (v := .ty "list") rfl nb.list_ Zoz rfl) Ze))) (fun _=>rfl)) (Zan (Yt (Xm (Zm Xi rfl nb.isinstance_ Xd (Za (pv 0) (Za (Yn (v := .ty "list") rfl nb.list_ Zoz rfl) Ze))) (fun _=>rfl))))))))) (Zf (Zj Jw)) Zo)
  (Zc (Zz (Zl oNe (Zm Zt rfl nb.len_ Xg (Za (pv 0) Ze)) (Zm Zt rfl nb.len_ Xg (Za (pv 1) Ze)) (Zk _)) (Zf (Zj Jw)) Zo)
  (Zf (Zj (Xj oEq (Zm Zt rfl nb.len_ Xg (Za (Yd ["_law_k"] [(0,"_law_found"),(1,"_law_due")] rfl (by decide +kernel) ⟨rfl,.inl rfl,rfl,.inl rfl,trivial⟩ (Yk rfl nb.range_ (Za (Zm Zt rfl nb.len_ Xg (Za (pv 1) Ze)) Ze)) (fun _ _ _ _ _=>(Zy (i:=0) (show (["_law_k","_law_found","_law_due"]:List Str).Nodup by decide +kernel) rfl (by first | exact Or.inl rfl | exact Or.inr rfl))) (fun _ _ _ _ _=>(Zze (Yt (Xm (Zi D_law_same hr (Za (Zs iAll (pv 1) (pv 0) (fun _ _=>rfl)) (Za (Zs iAll (pv 2) (pv 0) (fun _ _=>rfl)) Ze)) (hk:=by omega)) (fun _=>rfl))))) (fun _ _ _ _ _=>(pv 0))) Ze)) Zd (Zk _)))))))))) fun G σ0 hσ go=>?_
 try dsimp only[cxK0,cxK1,cxK2,cxK3] at go
 have y1:=h1.ty (K:=K)
 have y2:=h2.ty (K:=K)
 have fin:∃ H'',L2.Sub H H'' H∧Q (.bl true) H'':=⟨H,.refl (Vy _),q⟩
 cases dd with
 | non =>
  obtain rfl:v1 = .non:=h1
  obtain rfl:v2 = .non:=h2
  subst hσ
  exact go ⟨_,rfl,rfl,_,rfl,iteY rfl ⟨_,rfl,rfl,fin⟩⟩
 | bl b =>
  obtain rfl:v1 = .bl b:=h1
  obtain rfl:v2 = .bl b:=h2
  subst hσ
  refine go ⟨_,rfl,rfl,_,rfl,iteN (fun z=>nomatch z) ?_⟩
  refine⟨_,rfl,.inl ⟨_,_,_,_,rfl,y2,kitD K _ (by decide),_,rfl,iteT ?_⟩⟩
  refine⟨_,rfl,.inl ⟨_,_,_,_,rfl,y1,kitD K _ (by decide),?_⟩⟩
  refine⟨true,rfl,iteT ⟨_,rfl,_,rfl,rfl,?_⟩⟩
  rw[Ut rfl];exact fin
 | int i =>
  obtain rfl:v1 = .int i:=h1
  obtain rfl:v2 = .int i:=h2
  subst hσ
  refine go ⟨_,rfl,rfl,_,rfl,iteN (fun z=>nomatch z) ?_⟩
  refine⟨_,rfl,.inl ⟨_,_,_,_,rfl,y2,kitD K _ (by decide),_,rfl,iteF ?_⟩⟩
  refine⟨_,rfl,.inl ⟨_,_,_,_,rfl,y2,kitD K _ (by decide),_,rfl,iteT ?_⟩⟩
  refine⟨_,rfl,.inl ⟨_,_,_,_,rfl,y1,kitD K _ (by decide),true,rfl,iteT ?_⟩⟩
  refine⟨_,rfl,.inl ⟨_,_,_,_,rfl,y1,kitD K _ (by decide),?_⟩⟩
  refine⟨false,rfl,true,rfl,iteT ⟨_,rfl,_,rfl,rfl,?_⟩⟩
  rw[Ut rfl];exact fin
 | str t =>
  obtain⟨rfl,_⟩:=h1
  obtain⟨rfl,_⟩:=h2
  subst hσ
  refine go ⟨_,rfl,rfl,_,rfl,iteN (fun z=>nomatch z) ?_⟩
  refine⟨_,rfl,.inl ⟨_,_,_,_,rfl,y2,kitD K _ (by decide),_,rfl,iteF ?_⟩⟩
  refine⟨_,rfl,.inl ⟨_,_,_,_,rfl,y2,kitD K _ (by decide),_,rfl,iteF ?_⟩⟩
  refine⟨_,rfl,.inl ⟨_,_,_,_,rfl,y2,kitD K _ (by decide),_,rfl,iteT ?_⟩⟩
  refine⟨_,rfl,.inl ⟨_,_,_,_,rfl,y1,kitD K _ (by decide),true,rfl,iteT ⟨_,rfl,_,rfl,rfl,?_⟩⟩⟩
  rw[Ut rfl];exact fin
 | tup ds =>
  obtain⟨p1,vs1,rfl,e1,hd1,l1⟩:=h1
  obtain⟨p2,vs2,rfl,e2,hd2,l2⟩:=h2
  subst hσ
  refine go ⟨_,rfl,rfl,_,rfl,iteN (fun z=>nomatch z) ?_⟩
  iterate 3 refine⟨_,rfl,.inl ⟨_,_,_,_,rfl,y2,kitD K _ (by decide),_,rfl,iteF ?_⟩⟩
  refine⟨_,rfl,.inl ⟨_,_,_,_,rfl,y2,kitD K _ (by decide),_,rfl,iteT ?_⟩⟩
  refine⟨_,rfl,.inl ⟨_,_,_,_,rfl,y1,kitD K _ (by decide),?_⟩⟩
  refine⟨true,rfl,iteF ⟨_,rfl,.inl ⟨_,_,_,_,rfl,y2,kitD K _ (by decide),_,rfl,iteF (iteF ?_)⟩⟩⟩
  have n1:=DsAt.len ds hd1
  have n2:=DsAt.len ds hd2
  rw[dht] at hdh
  refine⟨_,rfl,_,_,rfl,.inr ⟨_,Uz e1,rfl⟩,_,rfl,_,_,rfl,.inr ⟨_,Uz e2,rfl⟩,rfl,_,rfl,iteNS (by rw[n1,n2]) ?_⟩
  refine⟨_,rfl,_,_,rfl,.inr ⟨_,Uz e2,rfl⟩,_,rfl,by omega,by omega,fun D1 hD1=>?_⟩
  rw[show (((vs2.length:Nat):Int)).toNat=vs2.length by omega]
  refine Zij (fun _=>false) (fun i => .int (i:Nat)) (fun σ=>∃ z,σ=[z,some (.ref p1),some (.ref p2)]) (by omega) ⟨_,rfl⟩ hD1 ?_ ?_
  ·rintro i hi σ1 H1 ⟨z,rfl⟩ hs1 R R' hR
   obtain⟨x1,hx1⟩:∃ x,vs1[i]?=some x:=⟨_,Ui (by omega)⟩
   obtain⟨x2,hx2⟩:∃ x,vs2[i]?=some x:=⟨_,Ui hi⟩
   obtain⟨dk,hdk,hk1⟩:=DsAt.get ds hd1 hx1
   obtain⟨dk',hdk',hk2⟩:=DsAt.get ds hd2 hx2
   rw[hdk] at hdk'
   obtain rfl:=Ub hdk'
   have hm:=dhts_mem ds (Uv hdk)
   refine⟨_,rfl,_,rfl,.inl (.inr ⟨_,_,_,_,rfl,rfl,Uz (hs1 _ _ e1),(by rw[Int.zero_add];exact Zx hx1),_,rfl,_,rfl,.inl (.inr ⟨_,_,_,_,rfl,rfl,Uz (hs1 _ _ e2),(by rw[Int.zero_add];exact Zx hx2),x1,x2,dk,rfl,DAt.same hs1 _ hk1,DAt.same hs1 _ hk2,by omega,_,rfl,?_⟩)⟩)⟩
   exact iteF (hR _ ⟨_,rfl⟩)
  ·rw[show List.filter (fun _:Nat=>false) (List.range vs2.length)=[] from List.filter_eq_nil_iff.mpr (fun _ _=>UI)]
   refine⟨_,_,rfl,.inl ⟨_,Uy Zb,rfl⟩,rfl,H,.refl (Zq hD1),?_⟩
   exact q
 | lst ds =>
  obtain⟨p1,vs1,rfl,e1,hd1,l1⟩:=h1
  obtain⟨p2,vs2,rfl,e2,hd2,l2⟩:=h2
  subst hσ
  refine go ⟨_,rfl,rfl,_,rfl,iteN (fun z=>nomatch z) ?_⟩
  iterate 3 refine⟨_,rfl,.inl ⟨_,_,_,_,rfl,y2,kitD K _ (by decide),_,rfl,iteF ?_⟩⟩
  refine⟨_,rfl,.inl ⟨_,_,_,_,rfl,y2,kitD K _ (by decide),_,rfl,iteF (iteF ?_)⟩⟩
  refine⟨_,rfl,.inl ⟨_,_,_,_,rfl,y2,kitD K _ (by decide),_,rfl,iteT ?_⟩⟩
  refine⟨_,rfl,.inl ⟨_,_,_,_,rfl,y1,kitD K _ (by decide),?_⟩⟩
  refine⟨true,rfl,iteF ?_⟩
  have n1:=DsAt.len ds hd1
  have n2:=DsAt.len ds hd2
  rw[dht] at hdh
  refine⟨_,rfl,_,_,rfl,.inl ⟨_,Uy e1,rfl⟩,_,rfl,_,_,rfl,.inl ⟨_,Uy e2,rfl⟩,rfl,_,rfl,iteNS (by rw[n1,n2]) ?_⟩
  refine⟨_,rfl,_,_,rfl,.inl ⟨_,Uy e2,rfl⟩,_,rfl,by omega,by omega,fun D1 hD1=>?_⟩
  rw[show (((vs2.length:Nat):Int)).toNat=vs2.length by omega]
  refine Zij (fun _=>false) (fun i => .int (i:Nat)) (fun σ=>∃ z,σ=[z,some (.ref p1),some (.ref p2)]) (by omega) ⟨_,rfl⟩ hD1 ?_ ?_
  ·rintro i hi σ1 H1 ⟨z,rfl⟩ hs1 R R' hR
   obtain⟨x1,hx1⟩:∃ x,vs1[i]?=some x:=⟨_,Ui (by omega)⟩
   obtain⟨x2,hx2⟩:∃ x,vs2[i]?=some x:=⟨_,Ui hi⟩
   obtain⟨dk,hdk,hk1⟩:=DsAt.get ds hd1 hx1
   obtain⟨dk',hdk',hk2⟩:=DsAt.get ds hd2 hx2
   rw[hdk] at hdk'
   obtain rfl:=Ub hdk'
   have hm:=dhts_mem ds (Uv hdk)
   refine⟨_,rfl,_,rfl,.inl (.inl ⟨_,_,_,_,rfl,rfl,Uy (hs1 _ _ e1),(by rw[Int.zero_add];exact Zx hx1),_,rfl,_,rfl,.inl (.inl ⟨_,_,_,_,rfl,rfl,Uy (hs1 _ _ e2),(by rw[Int.zero_add];exact Zx hx2),x1,x2,dk,rfl,DAt.same hs1 _ hk1,DAt.same hs1 _ hk2,by omega,_,rfl,?_⟩)⟩)⟩
   exact iteF (hR _ ⟨_,rfl⟩)
  ·rw[show List.filter (fun _:Nat=>false) (List.range vs2.length)=[] from List.filter_eq_nil_iff.mpr (fun _ _=>UI)]
   refine⟨_,_,rfl,.inl ⟨_,Uy Zb,rfl⟩,rfl,H,.refl (Zq hD1),?_⟩
   exact q
theorem Zhb(nb:NB mg)(F:FunAt K mg "_law_same" Zcp ["_law_found","_law_due"] f fd):∀ d:Nat,DefOk P w K mg base (d+1) "_law_same" ["_law_found","_law_due"] (spSameD d)
 | 0=>DefOk.none F fun vs H Q E z=>by obtain⟨_,_,dd,_,_,_,h,_⟩:=z;have:=Ztj dd;omega
 | d+1=>Zla nb F (Zhb nb F d)
def spVal(has:Sl→Bool)(ff:D→Bool)(fw:D→List Bool)(c:FC)(C:Addr)(n:Nat):Sp:=fun vs H Q _=>∃ (o p dx:Addr) (f:Fm) (d:D) (e:Bool),vs=[.ref o,.ref p]∧FAt c [p] H f o∧okH has f∧ht f≤n∧H p=some (srcO C dx (rowB fw f d) 0 false e)∧(rowB fw f d).length≤15000000∧fitB ff f d=true∧∀ v H' j,Mv p H H'→DAt H' d v→H' p=some (srcO C dx (rowB fw f d) j false e)→Q v H'
theorem Zwg(l:List Bool):sees l false 0=l:=by
 unfold sees
 rw[List.drop_zero]
 have e:xor false=(id:Bool→Bool):=by funext x;cases x<;>rfl
 rw[e,List.map_id]
theorem Zpx(nb:NB mg)(T:SrcCls K C)(F:FunAt K mg "value_of" Zfa ["form","source"] f fd)(AM_draw:AnyM P w K mg base (2*n+4) "draw" ["self","source"] (clS c) (spDr has ff fw c C n)):DefOk P w K mg base (2*n+5) "value_of" ["form","source"] (spVal has ff fw c C n):=by
 refine F.ok Zib (fun vs H Q E h=>?_) (fun cdv A outer s H vs Q E hr h=>?_)
 ·obtain⟨_,_,_,_,_,_,rfl,_⟩:=h;rfl
 obtain⟨o,p,dx,g,d,e,rfl,hF,hok,hht,hS,hl,hf,q⟩:=h
 obtain⟨dxi,fsi,ei,li⟩:=FAt.draw g hF
 refine⟨_,(Zc (Zp (i:=2) Zib.nd rfl (by exact Or.inl rfl) (Xn AM_draw hr (pv 0) (Za (pv 1) Ze) (hk:=by omega)))
  (Zc (Zz (Zl oLt (Xl (pv 1) rfl) (Zm Zt rfl nb.len_ Xg (Za (Xl (pv 1) rfl) Ze)) (Zk _)) (Zf Yv) Zo)
  (Zf (Zj (pv 2))))),?_⟩
 try dsimp only[cxK0,cxK1,cxK2,cxK3]
 refine⟨_,rfl,o,slot g,dxi,fsi,rfl,ei,li,?_⟩
 refine⟨_,rfl,o,p,dx,g,d,_,0,false,e,AS.cn p ⟨fun _=>False⟩,rfl,rfl,hF,hok,hht,hS,by omega,UF _,AS.hd,?_,hf,by rw[Zwg];exact List.prefix_refl _,fun v H' M hd hS'=>?_⟩
 ·rintro y (rfl | z)
  ·exact⟨_,hS⟩
  ·exact z.elim
 rw[Nat.zero_add] at hS'
 refine⟨_,rfl,p,C,dx,_,_,rfl,hS',T.cl,T.nP,Zda ..,_,rfl,p,C,dx,_,_,rfl,hS',T.cl,T.nS,Zfp ..,_,_,rfl,⟨small7 (by rw[Zr];omega),rfl⟩,.inl ⟨_,_,rfl,rfl,_,rfl,?_⟩⟩
 refine iteN (by rw[Zr];omega) ?_
 exact⟨_,rfl,_,M.sub hS',q _ _ _ M (DX.at d hd) hS'⟩
def spReadAll(has:Sl→Bool)(ff:D→Bool)(fw:D→List Bool)(c:FC)(n:Nat):Sp:=fun vs H Q _=>∃ (o:Addr) (f:Fm) (d:D),vs=[.ref o,.str (rowS (rowB fw f d))]∧FAt c [] H f o∧okH has f∧ht f≤n∧(rowB fw f d).length≤15000000∧fitB ff f d=true∧∀ v H',Ext H H'→DAt H' d v→Q v H'
theorem Zqb(F:FunAt K mg "read_all" Zfc ["form","signs"] f fd)(M_Source:MakeOk P w K mg base 1 "Source" C ["self","signs","at"] (spSrcInit C))(D_value_of:DefOk P w K mg base (2*n+5) "value_of" ["form","source"] (spVal has ff fw c C n)):DefOk P w K mg base (2*n+6) "read_all" ["form","signs"] (spReadAll has ff fw c n):=by
 refine F.ok Zpl (fun vs H Q E h=>?_) (fun cdv A outer s H vs Q E hr h=>?_)
 ·obtain⟨_,_,_,rfl,_⟩:=h;rfl
 obtain⟨o,g,d,rfl,hF,hok,hht,hl,hf,q⟩:=h
 refine⟨_,(Zf (Zj (Zi D_value_of hr (Za (pv 0) (Za (Jv M_Source hr (Za (pv 1) (Za Zd Ze)) (hk:=by omega)) Ze)) (hk:=by omega)))),?_⟩
 try dsimp only[cxK0,cxK1,cxK2,cxK3]
 refine⟨_,rfl,_,rfl,fun x dx nx ndx nex=>?_⟩
 refine⟨x,dx,_,_,rfl,Zb,rfl,?_⟩
 rw[Xf]
 have X1:=Ext.made (C:=C) (fs:=flds (rowS (rowB fw g d)) 0 false false) nx ndx nex
 refine⟨o,x,dx,g,d,false,rfl,FAt.keep (fun b u _ e=>X1.s b u e) g (FAt.add nx g hF),hok,hht,Zb,hl,hf,fun v H' j M hd hS'=>?_⟩
 have X2:=Mv.new X1 nx M
 exact⟨_,X2.sub,q _ _ X2 hd⟩
theorem Zxo{a b:D}(ha:Zv a=true)(hb:Zv b=true)(h:topD a*botD b<topD b*botD a):Sep (Xk a) (Xk b):=by
 obtain⟨s,gs,_,rs,rfl,es⟩:=Zec ha
 obtain⟨t,gt,_,rt,rfl,et⟩:=Zec hb
 rw[es,et]
 have h:Cross s t:=h
 cases s with
 | nil=>exact gs.elim
 | cons a r =>
  cases t with
  | nil=>exact gt.elim
  | cons b u =>
   have inr:∀ {a:Int} {r:List Int},RowIn (a::r)→InR r:=fun {a r} q x hx=>by
    have:=q.2 x hx
    unfold CountIn at this
    omega
   exact Zxn gs gt (rs.1 a (UD.mpr rfl)) (rt.1 b (UD.mpr rfl)) (inr rs) (inr rt) h
theorem Zyg{k:Fin 4}{a b:D}(ha:bareFit Zv k a=true)(hb:bareFit Zv k b=true)(h:bareOrd k a b<0):Sep (bareRow Xk k a) (bareRow Xk k b):=by
 rcases fin4 k with rfl | rfl | rfl | rfl
 ·exact absurd h (by show ¬(0:Int)<0;decide)
 ·have h:=sgn_neg.mp (show sgn (numD a) (numD b)<0 from h)
  cases a with
  | bl x =>
   cases b with
   | bl y =>
    cases x<;>cases y<;>first | exact absurd h (by decide) | exact⟨[],[],[],rfl,rfl⟩
   | _=>cases hb
  | _=>cases ha
 ·have h:=sgn_neg.mp (show sgn (numD a) (numD b)<0 from h)
  cases a with
  | int x =>
   cases b with
   | int y =>
    have wa:=UJ (show decide (WholeIn x)=true from ha)
    have wb:=UJ (show decide (WholeIn y)=true from hb)
    exact Zsv h wa.1 wb.2
   | _=>cases hb
  | _=>cases ha
 ·exact Zxo ha hb (sgn_neg.mp (show sgn (topD a*botD b) (topD b*botD a)<0 from h))
theorem Zzz{s t u:Str}(ht:madeOf t s=true)(hu:madeOf u s=true)(h:sgnL (idxI s t) (idxI s u)<0):Sep (letRow s (.str t)) (letRow s (.str u)):=by
 have e:∀ v:Str,letRow s (.str v)=itemsRow (fun x=>Xh x.toNat (blen (s.length - 1))) (idxI s v):=fun v=>by
  show (_++[false])=(_++[false])
  unfold idxI
  rw[UU]
  rfl
 have m:∀ v:Str,madeOf v s=true→∀ x,x∈idxI s v→0≤x∧x<s.length:=fun v hv x hx=>by
  obtain⟨c,hc,rfl⟩:=List.mem_map.mp hx
  have h1:c∈s.cps.toList:=by
   have:=Ve.mp hv c hc
   simpa using this
  have h2:=UT h1
  rw[UM] at h2
  exact⟨by omega,by have:s.length=s.cps.size:=rfl;omega⟩
 rw[e,e]
 refine Zmp (P:=fun x=>0≤x∧x<s.length) (fun x y hx hy hxy=>Zfw (by omega) ?_) (m t ht) (m u hu) (sgnL_neg.mp h)
 exact Nat.lt_of_le_of_lt (show y.toNat≤s.length - 1 by omega) (Qq _)
theorem Zqn(g:D→List Bool)(o:D→D→Int)(p:D→Bool)(hs:∀ x y,p x=true→p y=true→o x y<0→Sep (g x) (g y))(hz:∀ x y,p x=true→p y=true→o x y=0→x=y):∀ (xs ys:List D) (k:Nat),xs.all p=true→ys.all p=true→lsd (fun _=>o) xs ys k<0→Sep ((xs.map fun d=>true::g d).flatten++[false]) ((ys.map fun d=>true::g d).flatten++[false])
 | [],[],k,_,_,h=>absurd h (by show ¬sgn 0 0<0;decide)
 | [],y::ys,k,_,_,_=>⟨[],[],_,rfl,rfl⟩
 | x::xs,[],k,_,_,h=>absurd (sgn_neg.mp (show sgn ((x::xs).length:Nat) ((([]:List D).length:Nat):Int)<0 from h)) (by rw[Uq];show ¬(_:Int)<0;omega)
 | x::xs,y::ys,k,hx,hy,h=>by
  rw[List.all_cons,UN] at hx hy
  rw[lsd] at h
  rw[UP,Vf,UP,Vf,UH,UH]
  by_cases z:o x y=0
  ·rw[if_pos z] at h
   rw[hz x y hx.1 hy.1 z]
   exact(Zqn g o p hs hz xs ys (k+1) hx.2 hy.2 h).pre _
  ·rw[if_neg z] at h
   exact((hs x y hx.1 hy.1 h).pre [true]).post _ _
mutual
theorem Zbj:∀ (f:Fm) (a b:D),okG f→fitB Zv f a=true→fitB Zv f b=true→ordI f a b<0→Sep (rowB Xk f a) (rowB Xk f b)
 | .bare k,a,b,_,ha,hb,h=>by
  rw[fitB] at ha hb
  rw[ordI] at h
  rw[rowB,rowB]
  exact Zyg ha hb h
 | .sp lo hi,a,b,_,ha,hb,h=>by
  rw[fitB] at ha hb
  rw[ordI] at h
  rw[rowB,rowB]
  have h:=sgn_neg.mp h
  cases a with
  | int x =>
   cases b with
   | int y =>
    have h:x<y:=h
    have wa:=UJ (show decide (lo≤x∧x≤hi)=true from ha)
    have wb:=UJ (show decide (lo≤y∧y≤hi)=true from hb)
    exact Zfw (by omega) (Nat.lt_of_le_of_lt (show (y - lo).toNat≤(hi - lo).toNat by omega) (Qq _))
   | _=>cases hb
  | _=>cases ha
 | .le s,a,b,_,ha,hb,h=>by
  rw[fitB] at ha hb
  rw[ordI] at h
  rw[rowB,rowB]
  cases a with
  | str t =>
   cases b with
   | str u =>
    have wa:=Ug.mp (show (decide (t.length≤200)&&madeOf t s)=true from ha)
    have wb:=Ug.mp (show (decide (u.length≤200)&&madeOf u s)=true from hb)
    exact Zzz wa.2 wb.2 h
   | _=>cases hb
  | _=>cases ha
 | .one k f,a,b,hok,ha,hb,h=>by
  rw[fitB] at ha hb
  rw[ordI] at h
  rw[rowB,rowB]
  rw[okG] at hok
  have hz:∀ x y,fitB Zv f x=true→fitB Zv f y=true→ordI f x y=0→x=y:=fun x y hx hy z=>(Zaz f x y hok hx hy).z.mp z
  unfold oneFit at ha hb
  unfold oneRow
  rcases fin3 k with rfl | rfl | rfl
  ·rw[if_neg (by decide)] at h
   rw[if_pos rfl] at ha hb
   rw[if_pos rfl,if_pos rfl]
   cases a with
   | tup xs =>
    cases b with
    | tup ys =>
     rcases xs with _ | ⟨x,_ | ⟨_,_⟩⟩
     ·rcases ys with _ | ⟨y,_ | ⟨_,_⟩⟩
      ·exact absurd h (by show ¬sgn 0 0<0;decide)
      ·exact⟨[],[],_,rfl,rfl⟩
      ·cases hb
     ·rcases ys with _ | ⟨y,_ | ⟨_,_⟩⟩
      ·exact absurd h (by show ¬sgn 1 0<0;decide)
      ·have h:(if ordI f x y=0 then sgn 0 0 else ordI f x y)<0:=h
       split at h
       ·exact absurd h (by decide)
       ·exact(Zbj f x y hok ha hb h).pre [true]
      ·cases hb
     ·cases ha
    | _=>cases hb
   | _=>cases ha
  ·rw[if_neg (by decide)] at h
   rw[if_neg (by decide),if_pos rfl] at ha hb
   rw[if_neg (by decide),if_pos rfl,if_neg (by decide),if_pos rfl]
   cases a with
   | lst xs =>
    cases b with
    | lst ys =>
     have wa:=Ug.mp (show (decide (xs.length≤60)&&xs.all (fitB Zv f))=true from ha)
     have wb:=Ug.mp (show (decide (ys.length≤60)&&ys.all (fitB Zv f))=true from hb)
     exact Zqn (rowB Xk f) (ordI f) (fitB Zv f) (fun x y hx hy z=>Zbj f x y hok hx hy z) hz xs ys 0 wa.2 wb.2 h
    | _=>cases hb
   | _=>cases ha
  ·rw[if_pos rfl] at h
   rw[if_neg (by decide),if_neg (by decide)] at ha hb
   rw[if_neg (by decide),if_neg (by decide),if_neg (by decide),if_neg (by decide)]
   exact(Zbj f b a hok hb ha (by rw[Zdz];omega)).turn
 | .two k ns fs,a,b,hok,ha,hb,h=>by
  rw[fitB] at ha hb
  rw[ordI] at h
  rw[rowB,rowB]
  rw[okG] at hok
  rcases fin2 k with rfl | rfl
  ·rw[if_pos rfl] at h ha hb
   rw[if_pos rfl,if_pos rfl]
   cases a with
   | tup xs =>
    cases b with
    | tup ys =>
     refine Zps fs xs ys _ 0 (fun i f hf=>?_) hok.2.2 ha hb h
     have hi:=(Uw.mp hf).1
     show (ordIs fs).getD ((0+i)%fs.length) (fun _ _=>0)=_
     rw[Nat.zero_add,Nat.mod_eq_of_lt hi]
     exact Zcc fs i f hf
    | _=>cases hb
   | _=>cases ha
  ·rw[if_neg (by decide)] at h ha hb
   rw[if_neg (by decide),if_neg (by decide)]
   cases a with
   | tup xs =>
    cases b with
    | tup ys =>
     rcases xs with _ | ⟨⟨⟩ | _ | _ | n | _ | _,_ | ⟨x,_ | ⟨_,_⟩⟩⟩<;>try cases ha
     rcases ys with _ | ⟨⟨⟩ | _ | _ | m | _ | _,_ | ⟨y,_ | ⟨_,_⟩⟩⟩<;>try cases hb
     have ha:fitC Zv fs ns n x=true:=ha
     have hb:fitC Zv fs ns m y=true:=hb
     have h:(if n=m then (ordIs fs).getD (ns.idxOf n) (fun _ _=>0) x y else sgn (ns.idxOf n) (ns.idxOf m))<0:=h
     show Sep (rowC Xk fs ns 0 (fs.length - 1) n x) (rowC Xk fs ns 0 (fs.length - 1) m y)
     have mn:=Qv fs ns n x hok.2.1 ha
     have mm:=Qv fs ns m y hok.2.1 hb
     by_cases z:n=m
     ·subst z
      rw[if_pos rfl] at h
      exact Zto fs ns 0 (fs.length - 1) n x y hok.2.1 hok.2.2 ha hb h
     ·rw[if_neg z] at h
      have h:=sgn_neg.mp h
      have l1:=UT mm
      rw[Zcb fs ns 0 n mn hok.2.1,Zcb fs ns 0 m mm hok.2.1]
      refine(Zfw (by omega) (Nat.lt_of_le_of_lt (show 0+ns.idxOf m≤fs.length - 1 by have:=hok.2.1;omega) (Qq _))).post _ _
    | _=>cases hb
   | _=>cases ha
theorem Zps:∀ (fs:List Fm) (xs ys:List D) (G:Nat→D→D→Int) (k:Nat),(∀ i f,fs[i]?=some f→G (k+i)=ordI f)→okGs fs→fitL Zv fs xs=true→fitL Zv fs ys=true→lsd G xs ys k<0→Sep (rowL Xk fs xs) (rowL Xk fs ys)
 | [],xs,ys,G,k,_,_,hx,hy,h=>by
  rw[fitL] at hx hy
  cases xs with
  | nil =>
   cases ys with
   | nil=>exact absurd h (by show ¬sgn 0 0<0;decide)
   | cons _ _=>cases hy
  | cons _ _=>cases hx
 | f::fs,[],ys,G,k,_,_,hx,hy,h=>by rw[fitL] at hx;cases hx
 | f::fs,x::xs,[],G,k,_,_,hx,hy,h=>by rw[fitL] at hy;cases hy
 | f::fs,x::xs,y::ys,G,k,hG,hok,hx,hy,h=>by
  rw[fitL] at hx hy
  rw[okGs] at hok
  have hx:=Ug.mp (show (fitB Zv f x&&fitL Zv fs xs)=true from hx)
  have hy:=Ug.mp (show (fitB Zv f y&&fitL Zv fs ys)=true from hy)
  have e0:G k=ordI f:=hG 0 f rfl
  rw[lsd,e0] at h
  rw[rowL,rowL]
  show Sep (rowB Xk f x++rowL Xk fs xs) (rowB Xk f y++rowL Xk fs ys)
  by_cases z:ordI f x y=0
  ·rw[if_pos z] at h
   rw[(Zaz f x y hok.1 hx.1 hy.1).z.mp z]
   exact(Zps fs xs ys G (k+1) (fun i g hg=>by rw[Nat.add_assoc,Nat.add_comm 1 i];exact hG (i+1) g hg) hok.2 hx.2 hy.2 h).pre _
  ·rw[if_neg z] at h
   exact(Zbj f x y hok.1 hx.1 hy.1 h).post _ _
theorem Zto:∀ (fs:List Fm) (ns:List Str) (k M:Nat) (n:Str) (x y:D),ns.length=fs.length→okGs fs→fitC Zv fs ns n x=true→fitC Zv fs ns n y=true→(ordIs fs).getD (ns.idxOf n) (fun _ _=>0) x y<0→Sep (rowC Xk fs ns k M n x) (rowC Xk fs ns k M n y)
 | [],ns,k,M,n,x,y,_,_,hx,_,_=>by rw[fitC] at hx;cases hx
 | f::fs,[],k,M,n,x,y,hl,_,hx,_,_=>by cases hl
 | f::fs,m::ns,k,M,n,x,y,hl,hok,hx,hy,h=>by
  rw[fitC] at hx hy
  rw[rowC,rowC]
  rw[okGs] at hok
  by_cases z:m=n
  ·subst z
   have z1:(m::ns).head?=some m:=rfl
   rw[if_pos z1] at hx hy
   rw[if_pos z1,if_pos z1]
   rw[List.idxOf_cons_self,ordIs] at h
   exact(Zbj f x y hok.1 hx hy h).pre _
  ·have zz:¬(m::ns).head?=some n:=fun e=>z (Ub e)
   rw[if_neg zz] at hx hy
   rw[if_neg zz,if_neg zz]
   rw[List.idxOf_cons,show (m == n)=false from beq_eq_false_iff_ne.mpr z,cond_false,ordIs] at h
   exact Zto fs ns (k+1) M n x y (by simpa using hl) hok.2 hx hy h
end
theorem Xbn{a b:List Bool}(h:Sep a b):decide ((rowS a).cps.toList<(rowS b).cps.toList)=true:=Ut (Zrr h)
theorem Zzu{a b:List Bool}(h:Sep b a):decide ((rowS a).cps.toList<(rowS b).cps.toList)=false:=UB (Zsy h)
def Std(w:Int)(a b:List Bool):Prop:=(w=0→a=b)∧(w<0→Sep a b)∧(0<w→Sep b a)
theorem Std.of{f:Fm}{a b:D}(ok:okG f)(ha:fitB Zv f a=true)(hb:fitB Zv f b=true):Std (ordI f a b) (rowB Xk f a) (rowB Xk f b) :=
 ⟨fun z=>by rw[(Zaz f a b ok ha hb).z.mp z],Zbj f a b ok ha hb,fun z=>Zbj f b a ok hb ha (by rw[Zdz];omega)⟩
theorem Std.turn{w:Int}{a b:List Bool}(h:Std w a b):Std (0 - w) (a.map (!·)) (b.map (!·)) :=
 ⟨fun z=>by rw[h.1 (by omega)],fun z=>(h.2.2 (by omega)).turn,fun z=>(h.2.1 (by omega)).turn⟩
def spStand91:Sp:=fun vs H Q _=>∃ (w:Int) (a b:List Bool),vs=[.int w,.str (rowS a),.str (rowS b)]∧Std w a b∧Q (.bl true) H
theorem Zkk(F:FunAt K mg "_law_stand" Zdn ["_law_way","_law_mine","_law_theirs"] f fd):DefOk P w K mg base 1 "_law_stand" ["_law_way","_law_mine","_law_theirs"] spStand91:=by
 refine F.ok Znq (fun vs H Q E h=>?_) (fun cdv A outer s H vs Q E hr h=>?_)
 ·obtain⟨n,a,b,rfl,_⟩:=h;rfl
 obtain⟨n,a,b,rfl,⟨s1,s2,s3⟩,q⟩:=h
 refine⟨_,(Zc (Zz (Zl oEq (pv 0) Zd (Zk _)) (Zf (Zj (Xj oEq (pv 1) (pv 2) (Zk _)))) Zo)
  (Zc (Zz (PW.pt (Zae (Xm (Wb PySem.F.plainAttrs_str PySem.F.slot_str_startswith PySem.F.type_str_startswith Zew (pv 1) (Za (pv 2) Ze)) (fun _=>rfl)) (Ju (Xm (Wb PySem.F.plainAttrs_str PySem.F.slot_str_startswith PySem.F.type_str_startswith Zew (pv 2) (Za (pv 1) Ze)) (fun _=>rfl))))) (Zf (Zj Jw)) Zo)
  (Zf (Zj (Xj oEq (Xj oLt (pv 0) Zd (Zk _)) (Xj oLt (pv 1) (pv 2) (Zk _)) (Zk _)))))),?_⟩
 try dsimp only[cxK0,cxK1,cxK2,cxK3]
 refine⟨_,rfl,rfl,_,rfl,?_⟩
 refine iteD (fun c=>?_) (fun c=>?_)
 ·have e:=s1 (V.int.inj c)
  subst e
  refine⟨_,rfl,_,rfl,rfl,H,.refl (Vy _),?_⟩
  rw[Ut rfl]
  exact q
 ·have ne:n≠0:=fun z=>c (by rw[z])
  have np:¬b <+: a:=by
   rcases Int.lt_or_gt_of_ne ne with z | z
   ·exact(s2 z).np'
   ·exact(s3 z).np
  have np':¬a <+: b:=by
   rcases Int.lt_or_gt_of_ne ne with z | z
   ·exact(s2 z).np
   ·exact(s3 z).np'
  refine⟨_,rfl,rfl,_,rfl,_,_,rfl,rfl,_,rfl,?_⟩
  rw[Zjn,UB np]
  refine iteF ⟨_,rfl,rfl,_,rfl,_,_,rfl,rfl,_,rfl,?_⟩
  rw[Zjn,UB np']
  have e:V.bl (decide (n<0))=V.bl (decide ((rowS a).cps.toList<(rowS b).cps.toList)):=by
   rcases Int.lt_or_gt_of_ne ne with z | z
   ·rw[Ut z,Xbn (s2 z)]
   ·rw[UB (by omega),Zzu (s3 z)]
  refine iteF ⟨_,rfl,.inl ⟨_,_,rfl,rfl,_,rfl,_,rfl,.inr ⟨_,_,rfl,rfl,rfl,H,.refl (Vy _),?_⟩⟩⟩
  rw[Ut e]
  exact q
def Le(a b:List Bool):Prop:=¬Lt b a
theorem Zxe{a b c:List Bool}(h:Le a b)(h2:Le b c):Le a c:=fun z=>by
 rcases Zxd a b with x | x | x
 ·exact h2 (Xcj z x)
 ·exact h2 (x ▸ z)
 ·exact h x
theorem Xab{a b:List Bool}(h:Le a b)(h2:Le b a):a=b:=by
 rcases Zxd a b with x | x | x
 ·exact absurd x h2
 ·exact x
 ·exact absurd x h
theorem Zwe:∀ (a b:List (List Bool)),a.Pairwise Le→b.Pairwise Le→a.Perm b→a=b
 | [],b,_,_,p=>p.nil_eq
 | x::a,[],_,_,p=>(List.not_perm_cons_nil p).elim
 | x::a,y::b,ha,hb,p=>by
  rw[List.pairwise_cons] at ha hb
  have e:x=y:=by
   rcases Um.mp (p.mem_iff.mp (Ux ..)) with z | z
   ·exact z
   ·rcases Um.mp (p.mem_iff.mpr (Ux ..)) with z2 | z2
    ·exact z2.symm
    ·exact Xab (ha.1 _ z2) (hb.1 _ z)
  subst e
  rw[Zwe a b ha.2 hb.2 p.cons_inv]
theorem Zwd:∀ (ss:List (List Bool)),PyProof.Rows.sortedS (ss.map rowS)=true→ss.Pairwise Le
 | [],_ => .nil
 | [_],_=>List.pairwise_singleton ..
 | a::b::r,h=>by
  have h1:(!PySem.Spec.ltCps (rowS b).cps.toList (rowS a).cps.toList&&PyProof.Rows.risingS (rowS b) (r.map rowS))=true:=h
  rw[UN] at h1
  have ih:=Zwd (b::r) h1.2
  have ab:Le a b:=fun z=>by
   have:=h1.1
   rw[PyProof.Rows.ltCps_eq,Ut (show (rowS b).cps.toList<(rowS a).cps.toList from z)] at this
   cases this
  refine List.pairwise_cons.mpr ⟨fun y hy=>?_,ih⟩
  rcases Um.mp hy with rfl | z
  ·exact ab
  ·exact Zxe ab ((List.pairwise_cons.mp ih).1 y z)
theorem Zyw{x:List Bool}{l:List (List Bool)}{k:Nat}(hl:l.Pairwise Le)(h1:∀ y,y∈l.take k→Lt y x)(h2:∀ y,l[k]?=some y→Le x y):(l.take k++x::l.drop k).Pairwise Le:=by
 have hd:∀ y,y∈l.drop k→Le x y:=fun y hy=>by
  cases e:l[k]? with
  | none =>
   rw[List.drop_eq_nil_of_le (List.getElem?_eq_none_iff.mp e)] at hy
   cases hy
  | some z =>
   obtain⟨hk,ez⟩:=Uw.mp e
   rw[UY hk,ez] at hy
   rcases Um.mp hy with rfl | hy
   ·exact h2 _ e
   ·have hp:=List.Pairwise.sublist (List.drop_sublist k l) hl
    rw[UY hk,ez] at hp
    exact Zxe (h2 _ e) ((List.pairwise_cons.mp hp).1 y hy)
 refine List.pairwise_append.mpr ⟨List.Pairwise.sublist (List.take_sublist k l) hl,List.pairwise_cons.mpr ⟨hd,List.Pairwise.sublist (List.drop_sublist k l) hl⟩,fun a ha b hb=>?_⟩
 have hax:Le a x:=fun z=>List.lt_asymm z (h1 a ha)
 rcases Um.mp hb with rfl | hb
 ·exact hax
 ·exact Zxe hax (hd b hb)
structure Sd(H:Hp)(f:Fm)(n:Nat)(ds:List D)(vs:List V):Prop where
 a:DsAt H ds vs
 t:∀ d,d∈ds→fitB Zv f d=true∧dht d≤50
 n:ds.length≤n
 s:(ds.map (rowB Xk f)).Pairwise Le
theorem DsAt.app{H:Hp}:∀ (ds:List D) {vs us:List V} {es:List D},DsAt H ds vs→DsAt H es us→DsAt H (ds++es) (vs++us)
 | [],vs,us,es,h,h2=>by
  obtain rfl:vs=[]:=h
  exact h2
 | d::ds,vs,us,es,h,h2=>by
  obtain⟨v,r,rfl,q,q2⟩:=h
  exact⟨v,r++us,rfl,q,DsAt.app ds q2 h2⟩
theorem DsAt.cut{H:Hp}:∀ (ds:List D) {vs:List V} (k:Nat),DsAt H ds vs→DsAt H (ds.take k) (vs.take k)∧DsAt H (ds.drop k) (vs.drop k)
 | [],vs,k,h=>by
  obtain rfl:vs=[]:=h
  rw[List.take_nil,List.drop_nil,List.take_nil,List.drop_nil]
  exact⟨rfl,rfl⟩
 | d::ds,vs,0,h=>⟨rfl,h⟩
 | d::ds,vs,k+1,h=>by
  obtain⟨v,r,rfl,q,q2⟩:=h
  obtain⟨a,b⟩:=DsAt.cut ds k q2
  exact⟨⟨v,r.take k,rfl,q,a⟩,b⟩
theorem Sd.ins{H:Hp}{f:Fm}{n k:Nat}{ds:List D}{vs:List V}{x:D}{v:V}(h:Sd H f n ds vs)(ok:okG f)(hx:DAt H x v)(fx:fitB Zv f x=true)(dx:dht x≤50)(h1:∀ i y,i<k→ds[i]?=some y→ordI f y x<0)(h2:∀ y,ds[k]?=some y→¬ordI f y x<0):Sd H f (n+1) (ds.take k++x::ds.drop k) (vs.take k++v::vs.drop k):=by
 obtain⟨a,b⟩:=DsAt.cut ds k h.a
 refine⟨DsAt.app _ a ⟨v,_,rfl,hx,b⟩,fun d hd=>?_,?_,?_⟩
 ·rcases List.mem_append.mp hd with z | z
  ·exact h.t d (List.mem_of_mem_take z)
  ·rcases Um.mp z with rfl | z
   ·exact⟨fx,dx⟩
   ·exact h.t d (List.mem_of_mem_drop z)
 ·have:=h.n
  rw[Uo,Uq,US,Va]
  omega
 ·rw[UE,UP,List.map_take,List.map_drop]
  refine Zyw h.s (fun y hy=>?_) (fun y hy=>?_)
  ·obtain⟨i,hi⟩:=List.getElem?_of_mem hy
   rw[List.getElem?_take] at hi
   split at hi
   ·rename_i ik
    rw[Ur] at hi
    cases e:ds[i]? with
    | none=>rw[e] at hi;cases hi
    | some d =>
     rw[e] at hi
     obtain rfl:=Ub hi
     exact Zrr (Zbj f d x ok (h.t d (Uv e)).1 fx (h1 i d ik e))
   ·cases hi
  ·rw[Ur] at hy
   cases e:ds[k]? with
   | none=>rw[e] at hy;cases hy
   | some d =>
    rw[e] at hy
    obtain rfl:=Ub hy
    have fd:=(h.t d (Uv e)).1
    have:=h2 d e
    have S:=Std.of ok fd fx
    by_cases z:ordI f d x=0
    ·rw[S.1 z]
     exact fun q=>List.lt_irrefl _ q
    ·exact Zsy (S.2.2 (by omega))
theorem Zxg{α:Type}(l:List α)(k:Nat)(x:α):(l.take k++x::l.drop k).Perm (x::l):=by
 have:=List.perm_middle (a:=x) (l₁:=l.take k) (l₂:=l.drop k)
 rwa [List.take_append_drop] at this
def spSorted91(d:Nat):Sp:=fun vs H Q _=>∃ (vf:V) (L:Addr) (f:Fm) (ds:List D) (vs1:List V),vs=[vf,.ref L]∧DAt H (dsc f) vf∧okG f∧ht f≤d∧H L=some (.lst vs1)∧DsAt H ds vs1∧(∀ x,x∈ds→fitB Zv f x=true∧dht x≤50)∧ds.length≤1000∧
 ∀ r ds' vs',H r=none→Sd H f ds.length ds' vs'→ds'.Perm ds→Q (.ref r) (upd H r (.lst vs'))
theorem Ziw{d:Nat}(nb:NB mg)(F:FunAt K mg "_law_sorted" Zcm ["_law_form_here","_law_some"] f fd)(D_law_order:DefOk P w K mg base (2*d+4) "_law_order" ["_law_form_here","_law_one","_law_other"] (spOrd d)):DefOk P w K mg base (2*d+5) "_law_sorted" ["_law_form_here","_law_some"] (spSorted91 d):=by
 refine F.ok Wu (fun vs H Q E h=>?_) (fun cdv A outer s H vs Q E hr h=>?_)
 ·obtain⟨_,_,_,_,_,rfl,_⟩:=h;rfl
 obtain⟨vf,L,g,ds,vs1,rfl,hvf,ok,hht,eL,hds,hfit,hn,q⟩:=h
 refine⟨_,(Zc (Zp (i:=2) Wu.nd rfl (by exact Or.inl rfl) (Yp Ze))
  (Zc (Jg PassesOwn.never rfl (piAll (pv 1)) (Zy (i:=3) Wu.nd rfl (by exact Or.inl rfl))
   (Zc (Zp (i:=4) Wu.nd rfl (by exact Or.inl rfl) Zd)
   (Zc (Qu PassesOwn.never (PW.pt (Zcv (Zl oLt (pv 4) (Zm Zt rfl nb.len_ Xg (Za (pv 2) Ze)) (Zk _)) (Zan (Zl oLt (Zi D_law_order hr (Za (pv 0) (Za (Zs iAll (pv 2) (pv 4) (fun _ _=>rfl)) (Za (pv 3) Ze))) (hk:=by omega)) Zd (Zk _)))))
    (Zf (Zp (i:=4) Wu.nd rfl (by exact Or.inl rfl) (Zh oAdd (pv 4) Zd))))
   (Zf (Yj (Wb PySem.F.plainAttrs_list PySem.F.slot_list_insert PySem.F.type_list_insert Zuq (pv 2) (Za (pv 4) (Za (pv 3) Ze))))))))
  (Zf (Zj (pv 2))))),?_⟩
 try dsimp only[cxK0,cxK1,cxK2,cxK3]
 refine seqN fun N hN=>⟨UF _,fun r nr=>hN _ _ ?_⟩
 have hlen:=DsAt.len ds hds
 have nLr:L≠r:=fun z=>by rw[z,nr] at eL;cases eL
 refine seqN fun N hN => .inl ⟨_,rfl,L,rfl,⟨_,Uy ((Zq nr) _ _ eL)⟩,Zqx (K:=K) (a:=L) (xs:=vs1) (fun i σ H2=>∃ z1 z2 ds' vs',σ=[some vf,some (.ref L),some (.ref r),z1,z2]∧Sd H g i ds' vs'∧ds'.Perm (ds.take i)∧H2=upd H r (.lst vs')) ⟨_,_,[],[],rfl,⟨rfl,(fun _ z=>nomatch z),Up _,.nil⟩,.refl _,rfl⟩ ?_ ?_ ?_⟩
 ·rintro i σ H2 hi ⟨_,_,_,vs',_,_,_,rfl⟩
  exact Uy ((Zq nr) _ _ eL)
 ·rintro i x σ H2 hx ⟨z1,z2,ds',vs',rfl,S,pm,rfl⟩
  obtain⟨xd,ex,hxd⟩:=DsAt.get ds hds hx
  obtain⟨fx,dx⟩:=hfit xd (Uv ex)
  have s2:=Zq (o:=HO.lst vs') nr
  have l2:=DsAt.len ds' S.a
  have hi:i<ds.length:=(Uw.mp ex).1
  have hnn:=S.n
  have er:upd H r (HO.lst vs') r=some (.lst vs'):=Zb
  refine seqN fun N hN=>hN _ _ ?_
  refine seqN fun N hN=>⟨fun m σ H2=>∃ k:Nat,m=vs'.length - k∧k≤vs'.length∧σ=[some vf,some (.ref L),some (.ref r),some x,some (.int ((k:Nat):Int))]∧(∀ i y,i<k→ds'[i]?=some y→ordI g y xd<0)∧H2=upd H r (.lst vs'),⟨_,0,rfl,UF _,rfl,fun _ _ z=>(Nat.not_lt_zero _ z).elim,rfl⟩,?_⟩
  rintro m σ H2 ⟨k,rfl,hk,rfl,hbef,rfl⟩
  have fin:(∀ y,ds'[k]?=some y→¬ordI g y xd<0)→N [some vf,some (.ref L),some (.ref r),some x,some (.int ((k:Nat):Int))] (upd H r (.lst vs')):=fun haft=>by
   refine hN _ _ ?_
   refine⟨_,rfl,.inl ⟨rfl,_,Uy er⟩,_,rfl,_,rfl,r,vs',((k:Nat):Int),k,x,rfl,rfl,er,rfl,hk,by omega,?_⟩
   rw[Xf]
   refine⟨_,_,_,_,rfl,S.ins ok hxd fx dx hbef haft,?_,rfl⟩
   rw[List.take_succ_eq_append_getElem hi,(Uw.mp ex).2]
   exact(Zxg ds' k xd).trans ((List.Perm.cons xd pm).trans (List.perm_append_singleton xd _).symm)
  refine⟨_,rfl,_,rfl,_,_,rfl,.inl ⟨_,Uy er,rfl⟩,.inl ⟨_,_,rfl,rfl,_,rfl,iteD (fun c1=>?_) (fun c1=>?_)⟩⟩
  ·have hkl:k<vs'.length:=by omega
   obtain⟨v,hv⟩:∃ v,vs'[k]?=some v:=⟨_,Ui hkl⟩
   obtain⟨y,hy,hyv⟩:=DsAt.get ds' S.a hv
   obtain⟨fy,dy⟩:=S.t y (Uv hy)
   refine⟨_,rfl,_,rfl,_,rfl,ixLT (.inl er) hv ?_⟩
   refine⟨_,rfl,vf,v,x,g,y,xd,rfl,DAt.same s2 _ hvf,ok,hht,DAt.same s2 _ hyv,DAt.same s2 _ hxd,fy,fx,dy,.inl ⟨_,_,rfl,rfl,_,rfl,iteD (fun c2=>?_) (fun c2=>?_)⟩⟩
   ·refine⟨fun σ' H'=>∃ m',m'<vs'.length - k∧∃ k:Nat,m'=vs'.length - k∧k≤vs'.length∧σ'=[some vf,some (.ref L),some (.ref r),some x,some (.int ((k:Nat):Int))]∧(∀ i y,i<k→ds'[i]?=some y→ordI g y xd<0)∧H'=upd H r (.lst vs'),fun _ _ h=>h,?_⟩
    refine⟨_,rfl,.inl ⟨_,_,rfl,rfl,vs'.length - (k+1),by omega,k+1,rfl,hkl,rfl,fun i z hi2 hz=>?_,rfl⟩⟩
    by_cases e:i=k
    ·subst e
     rw[hy] at hz
     obtain rfl:=Ub hz
     exact c2
    ·exact hbef i z (by omega) hz
   ·refine fin fun z hz=>?_
    rw[hy] at hz
    obtain rfl:=Ub hz
    exact c2
  ·refine iteF (fin fun z hz=>?_)
   have:=(Uw.mp hz).1
   omega
 ·rintro σ H2 ⟨_,_,ds',vs',rfl,S,pm,rfl⟩
  refine hN _ _ ?_
  rw[hlen] at S pm
  rw[List.take_length] at pm
  exact⟨_,rfl,_,.new nr (Zq nr) Zb trivial,q r ds' vs' nr S pm⟩
def spDrawn23:Sp:=fun vs H Q _=>∃ (p:Addr) (X:List Addr),vs=[.ref p]∧Pool p H∧p∈X∧Lists X H∧∀ v H' f,Grow p H H'→Tld X H' f v 7 121→Q v H'
theorem Zkl(F:FunAt K mg "_law_drawn" Zdq ["_law_pool_here"] f fd)(D_law_next:DefOk P w K mg base 1 "_law_next" ["_law_pool_here"] spNext)(D_law_form:DefOk P w K mg base 10 "_law_form" ["_law_pool_here","_law_deep"] (spForm 7)):DefOk P w K mg base 11 "_law_drawn" ["_law_pool_here"] spDrawn23:=by
 refine F.ok Zfx (fun vs H Q E h=>?_) (fun cdv A outer s H vs Q E hr h=>?_)
 ·obtain⟨_,_,rfl,_⟩:=h;rfl
 obtain⟨p,X,rfl,hP,hpX,hX,q⟩:=h
 refine⟨_,(Zc (Zp (i:=1) Zfx.nd rfl (by exact Or.inl rfl) (Zi D_law_next hr (Za (pv 0) Ze)))
  (Zf (Zj (Zi D_law_form hr (Za (pv 0) (Za (Zs iAll (Yp (Za Zd (Za Zd (Za Zd (Za Zd (Za Zd (Za Zd (Za Zd (Za Zd Ze))))))))) (Zh Xc (pv 1) Zd) (fun _ _=>rfl)) Ze)))))),?_⟩
 try dsimp only[cxK0,cxK1,cxK2,cxK3]
 refine⟨_,rfl,p,rfl,hP,fun c n1 hn1=>?_⟩
 have G1:=Grow.pop hP hn1
 generalize upd H p (.lst (n1.map V.int))=H1 at G1 ⊢
 obtain⟨m,hm,hm1⟩:=Zbb V.int [1,2,3,2,1,3,2,6] c 8 rfl (by show 0<8;decide)
 have hmb:0≤m∧m≤6:=by
  have:∀ y∈([1,2,3,2,1,3,2,6]:List Int),0≤y∧y≤6:=by decide
  exact this m hm
 obtain⟨k,rfl⟩:∃ k:Nat,m=k:=⟨m.toNat,by omega⟩
 refine⟨_,rfl,(by show 8≤sizeLine;decide),fun g hg=>⟨_,rfl,_,_,rfl,rfl,(by show (0:Int)<8;decide),.inl (.inl ⟨_,_,_,_,rfl,rfl,Uy Zb,hm1,?_⟩)⟩⟩
 have G2:=G1.ext (Ext.lst (xs:=[1,2,3,2,1,3,2,6].map V.int) hg)
 refine⟨p,k,X,rfl,by omega,G2.l,hpX,hX.grow G2,fun v H' g3 G3 hT=>?_⟩
 exact⟨_,(G2.trans G3).sub,q v H' g3 (G2.trans G3) ⟨hT.d,hT.o,by have:=hT.h;omega,by have:=hT.s;omega⟩⟩
def spLaw(K:Ua):Sp:=fun vs H Q _=>∃ (a:Addr) (ns:List Int),vs=[.ref a]∧SqL K H a (ns.map V.int)∧ns.length≤63∧∀ H',Q (.bl true) H'
def KdF(K:Ua)(c:FC)(fo:Addr):Prop:=∀ i:Sl,Ins K (clS c i)∧PySem.W.kitOne K (.ref (clS c i)) (.ref fo)=some true
theorem Zbv{f f':Addr}{fd fd':FuncData}(nb:NB mg)(F:FunAt K mg "_law_order" Zbe ["_law_form_here","_law_one","_law_other"] f fd)(F':FunAt K mg "_law_listed" Zag ["_law_forms","_law_one","_law_other"] f' fd'):∀ d:Nat,DefOk P w K mg base (2*d+4) "_law_order" ["_law_form_here","_law_one","_law_other"] (spOrd d)
 | 0=>DefOk.none F fun vs H Q E z=>by obtain⟨_,_,_,g,_,_,_,_,_,h,_⟩:=z;have:=Zfr g;omega
 | d+1=>Zjm nb F (Zlq nb F' (Zbv nb F F' d)) (Zbv nb F F' d)
theorem Xci{ps:List Str}{k:Nat}:FnOk P w K mg base CX0 k f fd ps spNo:=⟨fun _ _ _ _ h=>h.elim,fun _ _ _ _ _ _ _ _ _ _ _ _ _ h=>h.elim⟩
open PySem.W PySem.Spec PyProof.Rows in
theorem Zow{X:Cx}:CallR X (.builtin "sorted") (fun xs H Q=>∃ (a:Addr) (rs:List (List Bool)),xs=[.ref a]∧SqL X.K H a (KM.RL rs)∧rs.length<64∧∀ ss:List (List Bool),ss.Pairwise Le→ss.Perm rs→∀ p,H p=none→Q (.ref p) (upd H p (.lst (KM.RL ss)))):=by
 intro pins s σ H xs us Q I r h
 obtain⟨a,rs,rfl,hq,h64,q⟩:=h
 obtain⟨u,rfl,ru⟩:=vals1 r
 obtain rfl:u=Value.ref a:=ru
 obtain⟨its,rv,pl,hz⟩:=I.list hq
 have hlen:=rv.length
 rw[KM.Zyk] at hlen
 refine sorted_strs pl.isList (Zpj rv) (by omega) fun out ss' a1 a2 a3=>?_
 obtain⟨ss,e1,e2⟩:=KM.Zui a2.symm rfl
 subst e1
 obtain⟨e,he⟩:=sortedAll_at s.heap its out
 have hp:=I.hok.fresh (a:=s.heap.objs.size+1) (Nat.le_succ _)
 refine⟨.ref (s.heap.objs.size+1),_,?_,rfl,q ss (Zwd ss a3) e2.symm _ hp⟩
 have hl2:=e2.length_eq
 refine I.turnedNew (ch:=[]) (t':=s.toks) (fun b o _ eb=>sortedAll_old eb) (fun b hb=>nomatch hb) (Nat.le_succ _) ?_
 refine⟨by rw[KM.Zyk];exact UC (show ss.length≤64 by omega) (by decide),out.toList,e,Zly a1,?_⟩
 rw[he]
theorem Zwm(r:D→List Bool)(ds:List D){n:Nat}(h:n=ds.length):(List.range n).map (fun i=>V.str (rowS (r (ds.getD i .non))))=RL (ds.map r):=by
 subst h
 refine List.ext_getElem? fun i=>?_
 rw[Ur,Ur,Ur]
 by_cases hi:i<ds.length
 ·rw[List.getElem?_range hi,Ui hi]
  have e:ds.getD i .non=ds[i]:=by rw[Uk,Ui hi];rfl
  show some (V.str (rowS (r (ds.getD i .non))))=some (V.str (rowS (r ds[i])))
  rw[e]
 ·rw[Vh (by rw[Vb];omega),Vh (by omega)];rfl
structure Six(H:Hp)(g:Fm)(ds:List D)(ys:List V):Prop where
 a:DsAt H ds ys
 l:ds.length=6
 t:∀ x,x∈ds→fitB Zv g x=true∧dht x≤9∧(rowB Xk g x).length≤14000000
theorem Six.same{H H':Hp}{g:Fm}{ds:List D}{ys:List V}(h:Six H g ds ys)(s:Same H H'):Six H' g ds ys:=⟨DsAt.same s _ h.a,h.l,h.t⟩
theorem Six.at{H:Hp}{g:Fm}{ds:List D}{ys:List V}(h:Six H g ds ys){i:Nat}{v:V}(e:ys[i]?=some v):DAt H (ds.getD i .non) v∧ds.getD i .non∈ds:=by
 obtain⟨d,hd,hv⟩:=DsAt.get ds h.a e
 rw[Uk,hd]
 exact⟨hv,Uv hd⟩
theorem Zkb(g:Fm)(d:D):rowB Xk (.one 2 g) d=(rowB Xk g d).map (!·):=by
 rw[rowB];unfold oneRow
 rw[if_neg (by decide),if_neg (by decide)]
theorem Zxq(g:Fm)(d:D):fitB Zv (.one 2 g) d=fitB Zv g d:=by
 rw[fitB];unfold oneFit
 rw[if_neg (by decide),if_neg (by decide)]
mutual
theorem Zjd:∀ (f:Fm),okG f→okH hasAll f
 | .bare k,h=>⟨by rw[okF];trivial,by rw[inS];rfl⟩
 | .sp a b,h=>by rw[okG] at h;exact⟨by rw[okF];exact⟨h.1,h.2.2⟩,by rw[inS];rfl⟩
 | .le s,h=>by rw[okG] at h;exact⟨by rw[okF];exact h,by rw[inS];rfl⟩
 | .one k f,h=>by
  rw[okG] at h
  obtain⟨a,b⟩:=Zjd f h
  exact⟨by rw[okF];exact a,by rw[inS];exact⟨rfl,b⟩⟩
 | .two k ns fs,h=>by
  rw[okG] at h
  obtain⟨a,b⟩:=Zqj fs h.2.2
  exact⟨by rw[okF];exact⟨h.1,h.2.1,a⟩,by rw[inS];exact⟨rfl,b⟩⟩
theorem Zqj:∀ (fs:List Fm),okGs fs→okHs hasAll fs
 | [],_=>⟨by rw[okFs];trivial,by rw[inSs];trivial⟩
 | f::fs,h=>by
  rw[okGs] at h
  obtain⟨a,b⟩:=Zjd f h.1
  obtain⟨a2,b2⟩:=Zqj fs h.2
  exact⟨by rw[okFs];exact⟨a,a2⟩,by rw[inSs];exact⟨b,b2⟩⟩
end
set_option maxHeartbeats 4000000 in
theorem Zwx{f fo:Addr}(nb:NB mg)(gc_Form:GlobV mg "Form" (.ref fo))(KD:KdF K c fo)(F:Fun K "law" "law" Zwh f fd)(D_law_pool:DefOk P w K mg base 1 "_law_pool" ["_law_script"] (spPool K))(D_law_drawn:DefOk P w K mg base 11 "_law_drawn" ["_law_pool_here"] spDrawn23)(D_law_made:DefOk P w K mg base 23 "_law_made" ["_law_form_here"] (spMade c 7))(M_Turned:MakeOk P w K mg base 1 "Turned" (c.o 2) ["self","inner"] (spOneInit (c.o 2)))(D_law_value:DefOk P w K mg base 10 "_law_value" ["_law_pool_here","_law_form_here"] (spValP 7))(D_law_order:DefOk P w K mg base 18 "_law_order" ["_law_form_here","_law_one","_law_other"] (spOrd 7))(D_law_stand:DefOk P w K mg base 1 "_law_stand" ["_law_way","_law_mine","_law_theirs"] spStand91)(D_law_sorted:DefOk P w K mg base 19 "_law_sorted" ["_law_form_here","_law_some"] (spSorted91 7))(D_law_same:DefOk P w K mg base 13 "_law_same" ["_law_found","_law_due"] (spSameD 12))(D_read_all:DefOk P w K mg base 22 "read_all" ["form","signs"] (spReadAll hasAll Zv Xk c 8))(AM_row:AnyM P w K mg base 21 "row" ["self","value"] (clS c) (fun _=>spRowA hasAll Zv Xk c 8)):FnOk P w K mg base CX0 24 f fd ["_law_script"] (spLaw K):=by
 refine F.okK Je (fun vs H Q E h=>?_) (fun cdv A outer s H vs Q E hr h=>?_)
 ·obtain⟨_,_,rfl,_⟩:=h;rfl
 obtain⟨a,ns,rfl,hS,hl,q⟩:=h
 refine⟨_,(Zc (Zp (i:=1) Je.nd rfl (by first | exact Or.inl rfl | exact Or.inr rfl) (Zi D_law_pool hr (Za (pv 0) Ze) (hk:=by omega)))
  (Zc (Zp (i:=2) Je.nd rfl (by first | exact Or.inl rfl | exact Or.inr rfl) (Zi D_law_drawn hr (Za (pv 1) Ze) (hk:=by omega)))
  (Zc (Zp (i:=3) Je.nd rfl (by first | exact Or.inl rfl | exact Or.inr rfl) (Zi D_law_made hr (Za (pv 2) Ze) (hk:=by omega)))
  (Zc (Zz (Yt (Xm (Zm Xi rfl nb.isinstance_ Xd (Za (pv 3) (Za (Yw gc_Form) Ze))) (fun _=>rfl))) (Zf (Zj Jw)) Zo)
  (Zc (Wk (i:=4)  ["_law_k"] [(1,"_law_pool_here"),(2,"_law_form_here")] Je.nd rfl rfl rfl (by decide +kernel) ⟨rfl,.inl rfl,rfl,.inl rfl,trivial⟩ (Yk rfl nb.range_ (Za Zd Ze)) (fun _ _ _ _ _=>(Zy (i:=0) (show (["_law_k","_law_pool_here","_law_form_here"]:List Str).Nodup by decide +kernel) rfl (by first | exact Or.inl rfl | exact Or.inr rfl))) (fun _ _ _ _ _=>Xs) (fun _ _ _ _ _=>(Zi D_law_value hr (Za (pv 1) (Za (pv 2) Ze)) (hk:=by omega))))
  (Zc (Wk (i:=5)  ["_law_value_here"] [(3,"_law_made_here")] Je.nd rfl rfl rfl (by decide +kernel) ⟨rfl,.inl rfl,trivial⟩ (piAll (pv 4)) (fun _ _ _ _ _=>(Zy (i:=0) (show (["_law_value_here","_law_made_here"]:List Str).Nodup by decide +kernel) rfl (by first | exact Or.inl rfl | exact Or.inr rfl))) (fun _ _ _ _ _=>Xs) (fun _ _ _ _ _=>(Xn AM_row hr (pv 1) (Za (pv 0) Ze) (hk:=by omega))))
  (Zc (Zp (i:=6) Je.nd rfl (by first | exact Or.inl rfl | exact Or.inr rfl) (Jv M_Turned hr (Za (pv 3) Ze) (hk:=by omega)))
  (Zc (Wk (i:=7)  ["_law_value_here"] [(6,"_law_turn")] Je.nd rfl rfl rfl (by decide +kernel) ⟨rfl,.inl rfl,trivial⟩ (piAll (pv 4)) (fun _ _ _ _ _=>(Zy (i:=0) (show (["_law_value_here","_law_turn"]:List Str).Nodup by decide +kernel) rfl (by first | exact Or.inl rfl | exact Or.inr rfl))) (fun _ _ _ _ _=>Xs) (fun _ _ _ _ _=>(Xn AM_row hr (pv 1) (Za (pv 0) Ze) (hk:=by omega))))
  (Zc (Wk (i:=8)  ["_law_value_here"] [(3,"_law_made_here")] Je.nd rfl rfl rfl (by decide +kernel) ⟨rfl,.inl rfl,trivial⟩ (piAll (pv 4)) (fun _ _ _ _ _=>(Zy (i:=0) (show (["_law_value_here","_law_made_here"]:List Str).Nodup by decide +kernel) rfl (by first | exact Or.inl rfl | exact Or.inr rfl))) (fun _ _ _ _ _=>Xs) (fun _ _ _ _ _=>(Xn AM_row hr (pv 1) (Za (pv 0) Ze) (hk:=by omega))))
  (Zc (Zz (Zl (oNeLS (room64 hr)) (pv 5) (pv 8) (Zk _)) (Zf (Zj Jw)) Zo)
  (Zc (Jg PassesOwn.never rfl (Yk rfl nb.range_ (Za Zd Ze)) (Zy (i:=9) Je.nd rfl (by first | exact Or.inl rfl | exact Or.inr rfl))
   (Zf (Jg PassesOwn.never rfl (Yk rfl nb.range_ (Za Zd Ze)) (Zy (i:=10) Je.nd rfl (by exact Or.inl rfl))
    (Zc (Zp (i:=11) Je.nd rfl (by exact Or.inl rfl) (Zi D_law_order hr (Za (pv 2) (Za (Zs iAll (pv 4) (pv 9) (fun _ _=>rfl)) (Za (Zs iAll (pv 4) (pv 10) (fun _ _=>rfl)) Ze))) (hk:=by omega)))
    (Zf (Zz (PW.pt (Zae (Yt (Xm (Zi D_law_stand hr (Za (pv 11) (Za (Zs iAll (pv 8) (pv 9) (fun _ _=>rfl)) (Za (Zs iAll (pv 8) (pv 10) (fun _ _=>rfl)) Ze))) (hk:=by omega)) (fun _=>rfl))) (Ju (Yt (Xm (Zi D_law_stand hr (Za (Zh oSub Zd (pv 11)) (Za (Zs iAll (pv 7) (pv 9) (fun _ _=>rfl)) (Za (Zs iAll (pv 7) (pv 10) (fun _ _=>rfl)) Ze))) (hk:=by omega)) (fun _=>rfl)))))) (Zf (Zj Jw)) Zo))))))
  (Zc (Zp (i:=8) Je.nd rfl (by exact Or.inl rfl) (Zm Zow rfl nb.sorted_ Zvq (Za (pv 8) Ze)))
  (Zc (Zp (i:=12) Je.nd rfl (by exact Or.inl rfl) (Zi D_law_sorted hr (Za (pv 2) (Za (pv 4) Ze)) (hk:=by omega)))
  (Zc (Jg PassesOwn.never rfl (Yk rfl nb.range_ (Za (Zm Zt rfl nb.len_ Xg (Za (pv 12) Ze)) Ze)) (Zy (i:=9) Je.nd rfl (by first | exact Or.inl rfl | exact Or.inr rfl))
   (Zf (Zz (Yt (Xm (Zi D_law_same hr (Za (Zi D_read_all hr (Za (pv 3) (Za (Zs iAll (pv 8) (pv 9) (fun _ _=>rfl)) Ze)) (hk:=by omega)) (Za (Zs iAll (pv 12) (pv 9) (fun _ _=>rfl)) Ze)) (hk:=by omega)) (fun _=>rfl))) (Zf (Zj Jw)) Zo)))
  (Zf (Zj Jw)))))))))))))))),?_⟩
 try dsimp only[cxK0,cxK1,cxK2,cxK3]
 refine seqN fun N hN=>⟨_,rfl,a,ns,rfl,hS,hl,fun p ms hp hm=>hN _ _ ?_⟩
 have S0:=Zq (o:=HO.lst (ms.map V.int)) hp
 have hpl:upd H p (.lst (ms.map V.int)) p=some (.lst (ms.map V.int)):=Zb
 have hP0:Pool p (upd H p (.lst (ms.map V.int))):=⟨ms,Zb,hm⟩
 generalize upd H p (.lst (ms.map V.int))=H1 at S0 hpl hP0 ⊢
 have hX1:Lists [p] H1:=fun x hx=>by rw[UD.mp hx];exact⟨_,hpl⟩
 have pX:p∈[p]:=UD.mpr rfl
 refine seqN fun N hN=>⟨_,rfl,p,[p],rfl,hP0,pX,hX1,fun v H2 g G2 hT=>hN _ _ ?_⟩
 have hh:=hT.h
 have hs:=hT.s
 have hok:=hT.o
 have hX2:Has [p] H2:=fun x hx=>by rw[UD.mp hx];obtain⟨n,e,_⟩:=G2.l;exact⟨_,e⟩
 refine seqN fun N hN=>⟨_,rfl,v,g,[p],rfl,hX2,hT.d,hT.o,by omega,by omega,by omega,fun o H3 E3 hF3=>hN _ _ ?_⟩
 obtain⟨dx,fs,eo,lo⟩:=FAt.row g hF3
 refine seqN fun N hN=>⟨_,rfl,.inr ⟨_,_,_,_,rfl,(KD (slot g)).1.ty eo,(KD (slot g)).2,true,rfl,iteF (hN _ _ ?_)⟩⟩
 have G3:=G2.ext E3
 have hd3:=hT.d.same E3.s
 have hX3:=hX2.ext E3.s
 have hm3:pl H3 p≤90:=by obtain⟨n,e,hn⟩:=G3.l;rw[Zme e,Uj];exact hn
 refine seqN fun N hN=>?_
 refine⟨6,rfl,by decide,by decide,fun D1 hD1=>?_⟩
 rw[show ((6:Int)).toNat=6 by decide]
 have hD1X:D1∉[p]:=hX3.no hD1
 have hDp:D1≠p:=fun z=>hD1X (by rw[z];exact pX)
 have pD:p∈D1::[p]:=Ul _ pX
 refine Zrf 6 (fun i => .int (0+((i:Nat):Int))) (fun i ys H5=>Grow p H3 H5∧pl H5 p≤90∧∃ ds,ds.length=i∧DsX (D1::[p]) H5 ds ys∧(∀ x,x∈ds→fitB Zv g x=true∧dht x≤9∧(rowB Xk g x).length≤14000000)) (fun σ=>∃ z,σ=[z,some (.ref p),some v]) (by decide) ⟨_,rfl⟩ (fun i H hi=>hi) (fun H=>Up _) (fun i H x H' hi h=>⟨h.1,h.2⟩) ⟨(Grow.refl G3.l).ext (Ext.lst (xs:=[]) hD1),by rw[Zmf hDp];exact hm3,[],rfl,rfl,fun x hx=>nomatch hx⟩ ?_ ?_
 ·rintro i hi ys σ1 H5 ⟨z,rfl⟩ ⟨G5,hm5,ds,hdl,hds,hall⟩ hDy hyl R hR
  refine⟨_,rfl,_,rfl,p,v,g,D1::[p],rfl,pD,G5.l,(hX3.grow G5).add hDy,DX.grow pD G5 (DX.add hD1 _ hd3),hok,by omega,by omega,fun w dv H6 G6 hdv hfit hdh hRb=>?_⟩
  have hD6:H6 D1=some (.lst ys):=G6.k _ _ hDp hDy
  have kk:∀ b u,b∉D1::[p]→H6 b=some u→upd H6 D1 (.lst (ys++[w])) b=some u:=fun b u nb e=>by rw[Zn (fun z=>nb (by rw[z];exact Ux ..))];exact e
  have k3:∀ b u,b∉D1::[p]→H5 b=some u→H6 b=some u:=fun b u nb e=>G6.k b u (fun z=>nb (by rw[z];exact pD)) e
  obtain⟨r1,r2⟩:=hRb
  have r3:300*sz g≤300*121:=Nat.mul_le_mul_left _ hs
  refine hR _ _ _ ⟨_,rfl⟩ hD6 ⟨(G5.trans G6).set hD1 hD6 hDp,by rw[Zmf hDp];omega,ds++[dv],by rw[Uo,hdl];rfl,DsX.snoc (DX.keep kk _ hdv) _ (DsX.keep kk _ (DsX.keep k3 _ hds)),fun x hx=>?_⟩
  rcases List.mem_append.mp hx with z | z
  ·exact hall x z
  ·rw[UD.mp z];exact⟨hfit,by omega,by omega⟩
 rintro ys H5 hyl hD5 ⟨G5,_,ds,hdl,hds,hall⟩
 have S6:Six H5 g ds ys:=⟨DsX.at _ hds,hdl,hall⟩
 have hFo:FAt c [] H5 g o:=FAt.weak (fun x (hx:x∈([]:List Addr))=>nomatch hx) _ (FAt.keep (fun b u nb e=>G5.k b u (fun z=>nb (by rw[z];exact pX)) e) _ hF3)
 have hDv:DAt H5 (dsc g) v:=DX.at _ (DX.grow pX G5 hd3)
 have S5:Same H H5:=fun b u e=>by
  have nb:b≠p:=Xa e hp
  exact G5.k _ _ nb (G3.k _ _ nb (S0 _ _ e))
 have hH:=Zjd g hok
 have ht8:ht g≤7:=hh
 clear hall hds G5 G3 hX3 hd3 hF3 E3 hX2 hT G2 hX1 hP0 hpl S0 eo lo hm3
 refine hN _ _ ?_
 obtain⟨dx,fs,eo,lo⟩:=FAt.row g hFo
 have hyz:ys.length≤sizeLine:=by rw[hyl];decide
 have ldy:ys.length=ds.length:=by omega
 refine seqN fun N hN => .inl ⟨_,rfl,D1,rfl,⟨_,Uy hD5⟩,fun D2 nD2=>Wn (K:=K) (a:=D1) (xs:=ys) (fun i => .str (rowS (rowB Xk g (ds.getD i .non)))) (fun σ=>∃ z,σ=[z,some (.ref o)]) hyz ⟨_,rfl⟩ nD2 (Uy hD5) ?_ ?_⟩
 ·rintro i x hx σ1 H1 ⟨z,rfl⟩ s1 R hR
  obtain⟨h1,h2⟩:=S6.at hx
  obtain⟨t1,t2,t3⟩:=S6.t _ h2
  exact⟨_,rfl,o,slot g,dx,fs,rfl,s1 _ _ eo,lo,_,rfl,slot g,o,g,x,_,rfl,rfl,FAt.keep (fun b u _ e=>s1 b u e) g hFo,hH,by omega,DAt.same s1 _ h1,t1,by omega,hR _ ⟨_,rfl⟩⟩
 rw[Zwm (rowB Xk g) ds ldy]
 refine hN _ _ ?_
 have s6:=Zq (o:=HO.lst (RL (ds.map (rowB Xk g)))) nD2
 have e6:upd H5 D2 (HO.lst (RL (ds.map (rowB Xk g)))) D2=_:=Zb
 generalize upd H5 D2 (HO.lst (RL (ds.map (rowB Xk g))))=H6 at s6 e6 ⊢
 refine seqN fun N hN=>⟨_,rfl,?_⟩
 intro y dy h1 h2 h12
 refine⟨y,dy,o,rfl,Zb,rfl,?_⟩
 rw[Xf]
 have E7:=(Ext.made (C:=c.o 2) (fs:=[("inner",V.ref o)]) h1 h2 h12).s
 have ey:upd (upd H6 dy (.own y)) y (.ins (c.o 2) dy [("inner",V.ref o)]) y=_:=Zb
 generalize upd (upd H6 dy (.own y)) y (.ins (c.o 2) dy [("inner",V.ref o)])=H7 at E7 ey ⊢
 have s7:=s6.trans E7
 have hFt:FAt c [] H7 (.one 2 g) y:=⟨List.not_mem_nil,dy,o,ey,FAt.keep (fun b u _ e=>s7 b u e) g hFo⟩
 refine hN _ _ ?_
 have hHt:okH hasAll (.one 2 g):=Zjd _ (by rw[okG];exact hok)
 obtain⟨dxt,fst,eot,lot⟩:=FAt.row (.one 2 g) hFt
 have S7:=S6.same s7
 refine seqN fun N hN => .inl ⟨_,rfl,D1,rfl,⟨_,Uy (s7 _ _ hD5)⟩,fun D3 nD3=>Wn (K:=K) (a:=D1) (xs:=ys) (fun i => .str (rowS (rowB Xk (.one 2 g) (ds.getD i .non)))) (fun σ=>∃ z,σ=[z,some (.ref y)]) hyz ⟨_,rfl⟩ nD3 (Uy (s7 _ _ hD5)) ?_ ?_⟩
 ·rintro i x hx σ1 H1 ⟨z,rfl⟩ s1 R hR
  obtain⟨h1,h2⟩:=S7.at hx
  obtain⟨t1,t2,t3⟩:=S7.t _ h2
  exact⟨_,rfl,y,slot (.one 2 g),dxt,fst,rfl,s1 _ _ eot,lot,_,rfl,slot (.one 2 g),y,.one 2 g,x,_,rfl,rfl,FAt.keep (fun b u _ e=>s1 b u e) _ hFt,hHt,by rw[ht];omega,DAt.same s1 _ h1,by rw[Zxq];exact t1,by rw[Zkb,Uj];omega,hR _ ⟨_,rfl⟩⟩
 rw[Zwm (rowB Xk (.one 2 g)) ds ldy]
 refine hN _ _ ?_
 have s8:=Zq (o:=HO.lst (RL (ds.map (rowB Xk (.one 2 g))))) nD3
 have e8:upd H7 D3 (HO.lst (RL (ds.map (rowB Xk (.one 2 g))))) D3=_:=Zb
 generalize upd H7 D3 (HO.lst (RL (ds.map (rowB Xk (.one 2 g)))))=H8 at s8 e8 ⊢
 have t8:=s7.trans s8
 have S8:=S6.same t8
 refine seqN fun N hN => .inl ⟨_,rfl,D1,rfl,⟨_,Uy (t8 _ _ hD5)⟩,fun D4 nD4=>Wn (K:=K) (a:=D1) (xs:=ys) (fun i => .str (rowS (rowB Xk g (ds.getD i .non)))) (fun σ=>∃ z,σ=[z,some (.ref o)]) hyz ⟨_,rfl⟩ nD4 (Uy (t8 _ _ hD5)) ?_ ?_⟩
 ·rintro i x hx σ1 H1 ⟨z,rfl⟩ s1 R hR
  obtain⟨h1,h2⟩:=S8.at hx
  obtain⟨t1,t2,t3⟩:=S8.t _ h2
  have s1':=t8.trans s1
  exact⟨_,rfl,o,slot g,dx,fs,rfl,s1' _ _ eo,lo,_,rfl,slot g,o,g,x,_,rfl,rfl,FAt.keep (fun b u _ e=>s1' b u e) g hFo,hH,by omega,DAt.same s1 _ h1,t1,by omega,hR _ ⟨_,rfl⟩⟩
 rw[Zwm (rowB Xk g) ds ldy]
 refine hN _ _ ?_
 have s9:=Zq (o:=HO.lst (RL (ds.map (rowB Xk g)))) nD4
 have e9:upd H8 D4 (HO.lst (RL (ds.map (rowB Xk g)))) D4=_:=Zb
 generalize upd H8 D4 (HO.lst (RL (ds.map (rowB Xk g))))=H9 at s9 e9 ⊢
 have t9:=t8.trans s9
 have S9:=S6.same t9
 have hD9:=t9 _ _ hD5
 have hF9:FAt c [] H9 g o:=FAt.keep (fun b u _ e=>t9 b u e) g hFo
 have hv9:=DAt.same t9 _ hDv
 have eE:H9 D2=_:=s9 _ _ (s8 _ _ (E7 _ _ e6))
 have eB:H9 D3=_:=s9 _ _ e8
 have SS:=S5.trans t9
 clear S8 S7 S6 t8 s9 s8 s7 s6 E7 hFt hFo hDv S5 hD5 e6 e8 eot eo
 refine seqN fun N hN=>⟨_,rfl,_,rfl,.inr ⟨D2,D4,_,_,rfl,rfl,eE,e9,_,rfl,?_⟩⟩
 rw[Ut rfl]
 refine iteF (hN _ _ ?_)
 have len6:ys.length=6:=hyl
 have rowAt:∀ (r:D→List Bool) (i:Nat),i<6→(RL (ds.map r))[i]?=some (V.str (rowS (r (ds.getD i .non)))):=fun r i hi=>by
  have hl:=S9.l
  rw[Ur,Ur,Uk,Ui (by omega)];rfl
 refine seqN fun N hN=>⟨6,rfl,by decide,by decide,?_⟩
 rw[show ((6:Int)).toNat=6 by decide]
 refine Wd (fun i σ H2=>H9=H2∧∃ z9 z10 z11,σ=[some (.ref a),some (.ref p),some v,some (.ref o),some (.ref D1),some (.ref D2),some (.ref y),some (.ref D3),some (.ref D4),z9,z10,z11,none]) ⟨rfl,_,_,_,rfl⟩ ?_ ?_
 ·rintro i σ H2 hi ⟨rfl,z9,z10,z11,rfl⟩
  refine⟨6,rfl,by decide,by decide,?_⟩
  rw[show ((6:Int)).toNat=6 by decide]
  refine Wd (fun j σ H2=>H9=H2∧∃ z10 z11,σ=[some (.ref a),some (.ref p),some v,some (.ref o),some (.ref D1),some (.ref D2),some (.ref y),some (.ref D3),some (.ref D4),some (.int (0+((i:Nat):Int))),z10,z11,none]) ⟨rfl,_,_,rfl⟩ ?_ ?_
  ·rintro j σ H2 hj ⟨rfl,z10,z11,rfl⟩
   obtain⟨x1,hx1⟩:∃ x,ys[i]?=some x:=⟨_,Ui (by omega)⟩
   obtain⟨x2,hx2⟩:∃ x,ys[j]?=some x:=⟨_,Ui (by omega)⟩
   obtain⟨a1,b1⟩:=S9.at hx1
   obtain⟨a2,b2⟩:=S9.at hx2
   obtain⟨u1,u2,u3⟩:=S9.t _ b1
   obtain⟨w1,w2,w3⟩:=S9.t _ b2
   have ix:∀ (n:Nat),(0:Int)+((n:Nat):Int)=((n:Nat):Int):=fun n=>Int.zero_add _
   have St:=Std.of hok u1 w1
   have Tt:=St.turn
   rw[← Zkb,← Zkb] at Tt
   rw[ix,ix]
   refine seqN fun N hN=>⟨_,rfl,_,rfl,_,rfl,ixLT (.inl hD9) hx1 ?_⟩
   refine⟨_,rfl,_,rfl,ixLT (.inl hD9) hx2 ⟨v,x1,x2,g,_,_,rfl,hv9,hok,ht8,a1,a2,u1,w1,by omega,hN _ _ ?_⟩⟩
   refine⟨_,rfl,_,rfl,_,rfl,ixLT (.inl e9) (rowAt _ i hi) ?_⟩
   refine⟨_,rfl,_,rfl,ixLT (.inl e9) (rowAt _ j hj) ⟨_,_,_,rfl,St,_,rfl,iteF ?_⟩⟩
   refine⟨_,rfl,_,_,rfl,rfl,_,rfl,_,rfl,ixLT (.inl eB) (rowAt _ i hi) ?_⟩
   exact⟨_,rfl,_,rfl,ixLT (.inl eB) (rowAt _ j hj) ⟨_,_,_,rfl,Tt,_,rfl,iteF ⟨rfl,_,_,rfl⟩⟩⟩
  ·rintro σ H2 ⟨rfl,z10,z11,rfl⟩
   exact⟨rfl,_,_,_,rfl⟩
 rintro σ H2 ⟨rfl,z9,z10,z11,rfl⟩
 refine hN _ _ ?_
 refine seqN fun N hN=>⟨_,rfl,D4,ds.map (rowB Xk g),rfl,Uy e9,by rw[Uj];omega,fun ss hss hpm D5 nD5=>hN _ _ ?_⟩
 have s10:=Zq (o:=HO.lst (RL ss)) nD5
 have e10:upd H9 D5 (HO.lst (RL ss)) D5=_:=Zb
 generalize upd H9 D5 (HO.lst (RL ss))=H10 at s10 e10 ⊢
 have S10:=S9.same s10
 refine seqN fun N hN=>⟨_,rfl,_,rfl,v,D1,g,ds,ys,rfl,DAt.same s10 _ hv9,hok,ht8,s10 _ _ hD9,S10.a,(fun x hx=>⟨(S10.t x hx).1,by have:=(S10.t x hx).2.1;omega⟩),by rw[S10.l];decide,fun D6 ds' vs' nD6 Sd' pm=>hN _ _ ?_⟩
 have s11:=Zq (o:=HO.lst vs') nD6
 have e11:upd H10 D6 (HO.lst vs') D6=_:=Zb
 generalize upd H10 D6 (HO.lst vs')=H11 at s11 e11 ⊢
 have es:ss=ds'.map (rowB Xk g):=Zwe _ _ hss Sd'.s (hpm.trans (pm.map _).symm)
 subst es
 have l1:ds'.length=6:=by rw[pm.length_eq];exact S10.l
 have l2:=DsAt.len ds' Sd'.a
 have tt:=s10.trans s11
 refine seqN fun N hN=>⟨_,rfl,_,_,rfl,.inl ⟨_,Uy e11,rfl⟩,_,rfl,by omega,by omega,?_⟩
 rw[show (((vs'.length:Nat):Int)).toNat=6 by omega]
 refine Wd (fun i σ H2=>Same H11 H2∧∃ z9 z10 z11,σ=[some (.ref a),some (.ref p),some v,some (.ref o),some (.ref D1),some (.ref D2),some (.ref y),some (.ref D3),some (.ref D5),z9,z10,z11,some (.ref D6)]) ⟨Vy _,_,_,_,rfl⟩ ?_ ?_
 ·rintro i σ H2 hi ⟨sm,z9,z10,z11,rfl⟩
  obtain⟨x,hx⟩:∃ x,vs'[i]?=some x:=⟨_,Ui (by omega)⟩
  obtain⟨d,hd,hxd⟩:=DsAt.get ds' Sd'.a hx
  obtain⟨u1,u2,u3⟩:=S10.t d (pm.mem_iff.mp (Uv hd))
  have er:(RL (ds'.map (rowB Xk g)))[i]?=some (V.str (rowS (rowB Xk g d))):=by rw[Ur,Ur,hd];rfl
  rw[Int.zero_add]
  refine⟨_,rfl,_,rfl,_,rfl,ixLT (.inl (sm _ _ (s11 _ _ e10))) er ?_⟩
  refine⟨o,g,d,rfl,FAt.keep (fun b u _ e=>sm _ _ (tt b u e)) g hF9,hH,by omega,by omega,u1,fun w1 H12 X12 hw=>?_⟩
  have s12:=sm.trans X12.s
  exact⟨_,rfl,_,rfl,ixLT (.inl (s12 _ _ e11)) hx ⟨w1,x,d,rfl,hw,DAt.same (s11.trans s12) _ hxd,by omega,_,rfl,iteF ⟨s12,_,_,_,rfl⟩⟩⟩
 ·rintro σ H2 ⟨sm,z9,z10,z11,rfl⟩
  exact hN _ _ ⟨H,.refl ((SS.trans tt).trans sm),q _⟩
def Bs(x q:Str)(st:Stmt)(ps:List Str):Prop:=∀ (kV doc pm:Value) (an:Option Addr) (cdv ct:Value) (us:List Value),us.length=ps.length→bindArgs (PySem.W.fnOf x q (defArgs st) (defBody st) (Zg st) .none kV doc pm an cdv ct) ⟨us,[]⟩=pure (ps.zip us)
theorem bs1{x q a:Str}{st:Stmt}(h:∀ (kV doc pm:Value) (an:Option Addr) (cdv ct u:Value),bindArgs (PySem.W.fnOf x q (defArgs st) (defBody st) (Zg st) .none kV doc pm an cdv ct) ⟨[u],[]⟩=pure [(a,u)]):Bs x q st [a]:=fun _ _ _ _ _ _ us hl=>by
 rcases us with _ | ⟨_,_ | ⟨_,_⟩⟩<;>first | exact h .. | cases hl
theorem bs2{x q a b:Str}{st:Stmt}(h:∀ (kV doc pm:Value) (an:Option Addr) (cdv ct u v:Value),bindArgs (PySem.W.fnOf x q (defArgs st) (defBody st) (Zg st) .none kV doc pm an cdv ct) ⟨[u,v],[]⟩=pure [(a,u),(b,v)]):Bs x q st [a,b]:=fun _ _ _ _ _ _ us hl=>by
 rcases us with _ | ⟨_,_ | ⟨_,_ | ⟨_,_⟩⟩⟩<;>first | exact h .. | cases hl
theorem bs3{x q a b c:Str}{st:Stmt}(h:∀ (kV doc pm:Value) (an:Option Addr) (cdv ct u v y:Value),bindArgs (PySem.W.fnOf x q (defArgs st) (defBody st) (Zg st) .none kV doc pm an cdv ct) ⟨[u,v,y],[]⟩=pure [(a,u),(b,v),(c,y)]):Bs x q st [a,b,c]:=fun _ _ _ _ _ _ us hl=>by
 rcases us with _ | ⟨_,_ | ⟨_,_ | ⟨_,_ | ⟨_,_⟩⟩⟩⟩<;>first | exact h .. | cases hl
structure Cp(K:Ua)(x:Str)(C:Addr):Prop where
 a:PySem.W.nsIn K mainGlobals x=some (some (.ref C))
 cl:Cls K C
 ma:PySem.W.makesIn K C=true
 kc:PySem.W.keepIn K (.ref C)=true
theorem cpMk{K:Ua}{x:Str}{C:Addr}(a:PySem.W.nsIn K mainGlobals x=some (some (.ref C)))(p1:PySem.W.plainGet K C Str.empty=true)(p2:PySem.W.hasDictIn K C=true)(p3:PySem.W.plainOver K C=true)(p4:PySem.W.findIn K (.ref C) "__setattr__"=some (some (.builtin "object.__setattr__")))(p5:PySem.W.makesIn K C=true)(p6:PySem.W.keepIn K (.ref C)=true):Cp K x C:=⟨a,⟨p1,p2,p3,p4⟩,p5,p6⟩
def Mp(K:Ua)(C:Addr)(x q:Str)(st:Stmt):Prop:=∃ f fd,Fun K x q st f fd∧Meth K C x f
def Fp(K:Ua)(x:Str)(st:Stmt):Prop:=∃ f fd,Fun K x x st f fd∧PySem.W.nsIn K mainGlobals x=some (some (.ref f))
theorem mpMk{K:Ua}{C f:Addr}{x q:Str}{st:Stmt}{oc kV doc pm cdv ct:Value}{od an:Option Addr}{osl:Array (Option Value)}(a:PySem.W.findIn K (.ref C) x=some (some (.ref f)))(i:PySem.W.isFn K (.ref f)=true)(l:K.lookup f=some ⟨oc,od,.func (PySem.W.fnOf x q (defArgs st) (defBody st) (Zg st) .none kV doc pm an cdv ct),osl⟩)(c:PySem.W.codeIn K cdv q=true)(k:PySem.W.keepIn K (.ref f)=true):Mp K C x q st:=⟨f,_,Zxj l c k,a,i,k⟩
theorem fpMk{K:Ua}{f:Addr}{x:Str}{st:Stmt}{oc kV doc pm cdv ct:Value}{od an:Option Addr}{osl:Array (Option Value)}(a:PySem.W.nsIn K mainGlobals x=some (some (.ref f)))(l:K.lookup f=some ⟨oc,od,.func (PySem.W.fnOf x x (defArgs st) (defBody st) (Zg st) .none kV doc pm an cdv ct),osl⟩)(c:PySem.W.codeIn K cdv x=true)(k:PySem.W.keepIn K (.ref f)=true):Fp K x st:=⟨f,_,Zxj l c k,a⟩
theorem Mp.at{K:Ua}{C:Addr}{x q:Str}{st:Stmt}{ps:List Str}(p:Mp K C x q st)(cl:Cls K C)(b:Bs x q st ps):MethAt K C x q st ps:=by
 obtain⟨f,fd,F,m⟩:=p
 exact⟨⟨f,fd,F,F.binds b,m⟩,cl⟩
theorem Fp.at{K:Ua}{x:Str}{st:Stmt}{ps:List Str}{h:Heap}{mg:Str→Option Value}(X:K.In h)(G:h.Ns mainGlobals mg)(p:Fp K x st)(b:Bs x x st ps):∃ f fd,FunAt K mg x st ps f fd:=by
 obtain⟨f,fd,F,a⟩:=p
 exact⟨f,fd,F,F.binds b,Uc X G a⟩
theorem Mp.mk{q x:Str}{C:Addr}{st:Stmt}{ps:List Str}{k:Nat}{sp:Sp}(p:Mp K C "__init__" q st)(c:Cp K x C)(m:mg x=some (.ref C))(b:Bs "__init__" q st ps)(h:∀ f fd,Fun K "__init__" q st f fd→FnOk P w K mg base CX0 k f fd ps sp):MakeOk P w K mg base k x C ps sp:=by
 obtain⟨f,fd,F,m1⟩:=p
 exact⟨f,fd,⟨c.ma,m1.at_,m1.fn,c.kc⟩,h f fd F,F.binds b,m⟩
set_option maxHeartbeats 16000000 in
theorem Xcb{l:PySem.W.OpenLaw}{w:World}{K:Ua}{h:Heap}{mg:Str→Option Value}{fa:Addr}(X:K.In h)(G:h.Ns mainGlobals mg)(hfa:mg "law"=some (.ref fa))
  {C_Source C_Nothing C_Truth C_Whole C_Fraction C_Span C_Letters C_Maybe C_Many C_Turned C_Record C_Choice C_Form:Addr} {tk_MOST_DIGITS:Tok} {tk_MOST_AHEAD:Tok} {tk_MOST_SIGNS:Tok} {tk_LONGEST_TEXT:Tok} {tk_MOST_VALUES:Tok} {tk_MOST_PARTS:Tok} {tk_LONGEST_NAME:Tok} {tk_SMALL_LETTERS:Tok} {tk_LETTERS_AND_FIGURES:Tok}
  (p_Source:Cp K "Source" C_Source)
  (p_Nothing:Cp K "Nothing" C_Nothing)
  (p_Truth:Cp K "Truth" C_Truth)
  (p_Whole:Cp K "Whole" C_Whole)
  (p_Fraction:Cp K "Fraction" C_Fraction)
  (p_Span:Cp K "Span" C_Span)
  (p_Letters:Cp K "Letters" C_Letters)
  (p_Maybe:Cp K "Maybe" C_Maybe)
  (p_Many:Cp K "Many" C_Many)
  (p_Turned:Cp K "Turned" C_Turned)
  (p_Record:Cp K "Record" C_Record)
  (p_Choice:Cp K "Choice" C_Choice)
  (aC_Form:PySem.W.nsIn K mainGlobals "Form"=some (some (.ref C_Form)))
  (n_Source_signs:PySem.W.findIn K (.ref C_Source) "signs"=some none)
  (n_Source_place:PySem.W.findIn K (.ref C_Source) "place"=some none)
  (n_Source_turned:PySem.W.findIn K (.ref C_Source) "turned"=some none)
  (n_Source_endless:PySem.W.findIn K (.ref C_Source) "endless"=some none)
  (n_Source_wished:PySem.W.findIn K (.ref C_Source) "wished"=some none)
  (q_Source_init:Mp K C_Source "__init__" "Source.__init__" Zbq)
  (q_Source_draw:Mp K C_Source "draw" "Source.draw" Qk)
  (q_Source_turn:Mp K C_Source "turn" "Source.turn" Qj)
  (q_Source_wish:Mp K C_Source "wish" "Source.wish" Qi)
  (q_Source_refuse:Mp K C_Source "refuse" "Source.refuse" Zdf)
  (i0_Nothing:PySem.W.findIn K (.ref C_Nothing) "__init__"=some (some (.builtin "object.__init__")))
  (q_Nothing_fits:Mp K C_Nothing "fits" "Nothing.fits" Jp)
  (q_Nothing_written:Mp K C_Nothing "written" "Nothing.written" Wf)
  (q_Nothing_draw:Mp K C_Nothing "draw" "Nothing.draw" Jq)
  (q_Nothing_row:Mp K C_Nothing "row" "Form.row" Xw)
  (i0_Truth:PySem.W.findIn K (.ref C_Truth) "__init__"=some (some (.builtin "object.__init__")))
  (q_Truth_fits:Mp K C_Truth "fits" "Truth.fits" Zaj)
  (q_Truth_written:Mp K C_Truth "written" "Truth.written" Wy)
  (q_Truth_draw:Mp K C_Truth "draw" "Truth.draw" Zak)
  (q_Truth_row:Mp K C_Truth "row" "Form.row" Xw)
  (i0_Whole:PySem.W.findIn K (.ref C_Whole) "__init__"=some (some (.builtin "object.__init__")))
  (q_Whole_fits:Mp K C_Whole "fits" "Whole.fits" Zah)
  (q_Whole_written:Mp K C_Whole "written" "Whole.written" Wx)
  (q_Whole_draw:Mp K C_Whole "draw" "Whole.draw" Zai)
  (q_Whole_row:Mp K C_Whole "row" "Form.row" Xw)
  (i0_Fraction:PySem.W.findIn K (.ref C_Fraction) "__init__"=some (some (.builtin "object.__init__")))
  (q_Fraction_fits:Mp K C_Fraction "fits" "Fraction.fits" Ja)
  (q_Fraction_written:Mp K C_Fraction "written" "Fraction.written" Yx)
  (q_Fraction_draw:Mp K C_Fraction "draw" "Fraction.draw" Jb)
  (q_Fraction_row:Mp K C_Fraction "row" "Form.row" Xw)
  (n_Span_low:PySem.W.findIn K (.ref C_Span) "low"=some none)
  (n_Span_high:PySem.W.findIn K (.ref C_Span) "high"=some none)
  (q_Span_init:Mp K C_Span "__init__" "Span.__init__" Zdv)
  (q_Span_fits:Mp K C_Span "fits" "Span.fits" Zbf)
  (q_Span_written:Mp K C_Span "written" "Span.written" Jo)
  (q_Span_draw:Mp K C_Span "draw" "Span.draw" Zbg)
  (q_Span_row:Mp K C_Span "row" "Form.row" Xw)
  (n_Letters_signs:PySem.W.findIn K (.ref C_Letters) "signs"=some none)
  (q_Letters_init:Mp K C_Letters "__init__" "Letters.__init__" Zaw)
  (q_Letters_fits:Mp K C_Letters "fits" "Letters.fits" Js)
  (q_Letters_written:Mp K C_Letters "written" "Letters.written" Wg)
  (q_Letters_draw:Mp K C_Letters "draw" "Letters.draw" Jt)
  (q_Letters_places:Mp K C_Letters "places" "Letters.places" Wr)
  (q_Letters_row:Mp K C_Letters "row" "Form.row" Xw)
  (n_Maybe_inner:PySem.W.findIn K (.ref C_Maybe) "inner"=some none)
  (q_Maybe_init:Mp K C_Maybe "__init__" "Maybe.__init__" Zcu)
  (q_Maybe_fits:Mp K C_Maybe "fits" "Maybe.fits" Zal)
  (q_Maybe_written:Mp K C_Maybe "written" "Maybe.written" Wz)
  (q_Maybe_draw:Mp K C_Maybe "draw" "Maybe.draw" Zam)
  (q_Maybe_row:Mp K C_Maybe "row" "Form.row" Xw)
  (n_Many_inner:PySem.W.findIn K (.ref C_Many) "inner"=some none)
  (q_Many_init:Mp K C_Many "__init__" "Many.__init__" Zdw)
  (q_Many_fits:Mp K C_Many "fits" "Many.fits" Zbh)
  (q_Many_written:Mp K C_Many "written" "Many.written" Jr)
  (q_Many_draw:Mp K C_Many "draw" "Many.draw" Zbi)
  (q_Many_row:Mp K C_Many "row" "Form.row" Xw)
  (n_Turned_inner:PySem.W.findIn K (.ref C_Turned) "inner"=some none)
  (q_Turned_init:Mp K C_Turned "__init__" "Turned.__init__" Zbp)
  (q_Turned_fits:Mp K C_Turned "fits" "Turned.fits" Qg)
  (q_Turned_written:Mp K C_Turned "written" "Turned.written" Wp)
  (q_Turned_draw:Mp K C_Turned "draw" "Turned.draw" Qh)
  (q_Turned_row:Mp K C_Turned "row" "Form.row" Xw)
  (n_Record_names:PySem.W.findIn K (.ref C_Record) "names"=some none)
  (n_Record_forms:PySem.W.findIn K (.ref C_Record) "forms"=some none)
  (q_Record_init:Mp K C_Record "__init__" "Record.__init__" Zbr)
  (q_Record_fits:Mp K C_Record "fits" "Record.fits" Ql)
  (q_Record_written:Mp K C_Record "written" "Record.written" Wq)
  (q_Record_draw:Mp K C_Record "draw" "Record.draw" Qm)
  (q_Record_row:Mp K C_Record "row" "Form.row" Xw)
  (n_Choice_names:PySem.W.findIn K (.ref C_Choice) "names"=some none)
  (n_Choice_forms:PySem.W.findIn K (.ref C_Choice) "forms"=some none)
  (q_Choice_init:Mp K C_Choice "__init__" "Choice.__init__" Zbs)
  (q_Choice_fits:Mp K C_Choice "fits" "Choice.fits" Qn)
  (q_Choice_written:Mp K C_Choice "written" "Choice.written" Ws)
  (q_Choice_draw:Mp K C_Choice "draw" "Choice.draw" Qo)
  (q_Choice_row:Mp K C_Choice "row" "Form.row" Xw)
  (ihn:PySem.W.specialIn K (.builtin "object.__class__") "__get__"=some (some (.builtin "getset_descriptor.__get__")))
  (itk:PySem.W.takesIn K (.builtin "object.__class__")=some true)
  (ic_Nothing:PySem.W.findIn K (.ref C_Nothing) "__class__"=some (some (.builtin "object.__class__")))
  (io_Nothing:PySem.W.mroIn K C_Nothing (.type "object")=some true)
  (ic_Truth:PySem.W.findIn K (.ref C_Truth) "__class__"=some (some (.builtin "object.__class__")))
  (io_Truth:PySem.W.mroIn K C_Truth (.type "object")=some true)
  (ic_Whole:PySem.W.findIn K (.ref C_Whole) "__class__"=some (some (.builtin "object.__class__")))
  (io_Whole:PySem.W.mroIn K C_Whole (.type "object")=some true)
  (ic_Fraction:PySem.W.findIn K (.ref C_Fraction) "__class__"=some (some (.builtin "object.__class__")))
  (io_Fraction:PySem.W.mroIn K C_Fraction (.type "object")=some true)
  (ic_Span:PySem.W.findIn K (.ref C_Span) "__class__"=some (some (.builtin "object.__class__")))
  (io_Span:PySem.W.mroIn K C_Span (.type "object")=some true)
  (ic_Letters:PySem.W.findIn K (.ref C_Letters) "__class__"=some (some (.builtin "object.__class__")))
  (io_Letters:PySem.W.mroIn K C_Letters (.type "object")=some true)
  (ic_Maybe:PySem.W.findIn K (.ref C_Maybe) "__class__"=some (some (.builtin "object.__class__")))
  (io_Maybe:PySem.W.mroIn K C_Maybe (.type "object")=some true)
  (ic_Many:PySem.W.findIn K (.ref C_Many) "__class__"=some (some (.builtin "object.__class__")))
  (io_Many:PySem.W.mroIn K C_Many (.type "object")=some true)
  (ic_Turned:PySem.W.findIn K (.ref C_Turned) "__class__"=some (some (.builtin "object.__class__")))
  (io_Turned:PySem.W.mroIn K C_Turned (.type "object")=some true)
  (ic_Record:PySem.W.findIn K (.ref C_Record) "__class__"=some (some (.builtin "object.__class__")))
  (io_Record:PySem.W.mroIn K C_Record (.type "object")=some true)
  (ic_Choice:PySem.W.findIn K (.ref C_Choice) "__class__"=some (some (.builtin "object.__class__")))
  (io_Choice:PySem.W.mroIn K C_Choice (.type "object")=some true)
  (kt_Nothing_Form:PySem.W.kitOne K (.ref C_Nothing) (.ref C_Form)=some true)
  (kt_Truth_Form:PySem.W.kitOne K (.ref C_Truth) (.ref C_Form)=some true)
  (kt_Whole_Form:PySem.W.kitOne K (.ref C_Whole) (.ref C_Form)=some true)
  (kt_Fraction_Form:PySem.W.kitOne K (.ref C_Fraction) (.ref C_Form)=some true)
  (kt_Span_Form:PySem.W.kitOne K (.ref C_Span) (.ref C_Form)=some true)
  (kt_Letters_Form:PySem.W.kitOne K (.ref C_Letters) (.ref C_Form)=some true)
  (kt_Maybe_Form:PySem.W.kitOne K (.ref C_Maybe) (.ref C_Form)=some true)
  (kt_Many_Form:PySem.W.kitOne K (.ref C_Many) (.ref C_Form)=some true)
  (kt_Turned_Form:PySem.W.kitOne K (.ref C_Turned) (.ref C_Form)=some true)
  (kt_Record_Form:PySem.W.kitOne K (.ref C_Record) (.ref C_Form)=some true)
  (kt_Choice_Form:PySem.W.kitOne K (.ref C_Choice) (.ref C_Form)=some true)
  (q_turned_row:Fp K "turned_row" Zcl)
  (q_lower_digits:Fp K "lower_digits" Zau)
  (q_is_count:Fp K "is_count" Zfj)
  (q_has_whole_row:Fp K "has_whole_row" Ww)
  (q_count_row:Fp K "count_row" Zdt)
  (q_whole_row:Fp K "whole_row" Zdm)
  (q_fixed_row:Fp K "fixed_row" Zds)
  (q_draw_lower_digits:Fp K "draw_lower_digits" Wt)
  (q_draw_count:Fp K "draw_count" Zct)
  (q_draw_whole:Fp K "draw_whole" Zcr)
  (q_draw_fixed:Fp K "draw_fixed" Zcs)
  (q_steps_of:Fp K "steps_of" Zfb)
  (q_are_steps:Fp K "are_steps" Zdu)
  (q_fraction_of:Fp K "fraction_of" Zbo)
  (q_common_divisor:Fp K "common_divisor" Jx)
  (q_is_fraction:Fp K "is_fraction" Zbn)
  (q_has_fraction_row:Fp K "has_fraction_row" Jf)
  (q_row_of_steps:Fp K "row_of_steps" Zat)
  (q_draw_fraction:Fp K "draw_fraction" Zab)
  (q_is_number:Fp K "is_number" Zdr)
  (q_made_of:Fp K "made_of" Zhi)
  (q_is_name:Fp K "is_name" Zhj)
  (q_names_of:Fp K "names_of" Zfd)
  (q_value_of:Fp K "value_of" Zfa)
  (q_read_all:Fp K "read_all" Zfc)
  (q_law_pool:Fp K "_law_pool" Zff)
  (q_law_next:Fp K "_law_next" Zfg)
  (q_law_signs:Fp K "_law_signs" Zdo)
  (q_law_names:Fp K "_law_names" Zdp)
  (q_law_simple:Fp K "_law_simple" Zcn)
  (q_law_form:Fp K "_law_form" Zcq)
  (q_law_object:Fp K "_law_object" Zaf)
  (q_law_new:Fp K "_law_new" Zei)
  (q_law_made:Fp K "_law_made" Zfi)
  (q_law_near:Fp K "_law_near" Zfh)
  (q_law_signed:Fp K "_law_signed" Zco)
  (q_law_fraction:Fp K "_law_fraction" Zav)
  (q_law_size:Fp K "_law_size" Zfe)
  (q_law_value:Fp K "_law_value" Zbd)
  (q_law_drawn:Fp K "_law_drawn" Zdq)
  (q_law_same:Fp K "_law_same" Zcp)
  (q_law_order:Fp K "_law_order" Zbe)
  (q_law_listed:Fp K "_law_listed" Zag)
  (q_law_stand:Fp K "_law_stand" Zdn)
  (q_law_sorted:Fp K "_law_sorted" Zcm)
  (q_law:Fp K "law" Zwh)
  (z_len:PySem.W.nsIn K mainGlobals "len"=some none)
  (z_range:PySem.W.nsIn K mainGlobals "range"=some none)
  (z_int:PySem.W.nsIn K mainGlobals "int"=some none)
  (z_str:PySem.W.nsIn K mainGlobals "str"=some none)
  (z_bool:PySem.W.nsIn K mainGlobals "bool"=some none)
  (z_tuple:PySem.W.nsIn K mainGlobals "tuple"=some none)
  (z_isinstance:PySem.W.nsIn K mainGlobals "isinstance"=some none)
  (z_min:PySem.W.nsIn K mainGlobals "min"=some none)
  (z_list:PySem.W.nsIn K mainGlobals "list"=some none)
  (z_all:PySem.W.nsIn K mainGlobals "all"=some none)
  (z_reversed:PySem.W.nsIn K mainGlobals "reversed"=some none)
  (z_enumerate:PySem.W.nsIn K mainGlobals "enumerate"=some none)
  (z_zip:PySem.W.nsIn K mainGlobals "zip"=some none)
  (z_set:PySem.W.nsIn K mainGlobals "set"=some none)
  (z_sorted:PySem.W.nsIn K mainGlobals "sorted"=some none)
  (z_abs:PySem.W.nsIn K mainGlobals "abs"=some none)
  (g0_MOST_DIGITS:PySem.W.nsIn K mainGlobals "MOST_DIGITS"=some (some (.int 255 tk_MOST_DIGITS)))
  (g0_MOST_AHEAD:PySem.W.nsIn K mainGlobals "MOST_AHEAD"=some (some (.int 7 tk_MOST_AHEAD)))
  (g0_MOST_SIGNS:PySem.W.nsIn K mainGlobals "MOST_SIGNS"=some (some (.int 60 tk_MOST_SIGNS)))
  (g0_LONGEST_TEXT:PySem.W.nsIn K mainGlobals "LONGEST_TEXT"=some (some (.int 200 tk_LONGEST_TEXT)))
  (g0_MOST_VALUES:PySem.W.nsIn K mainGlobals "MOST_VALUES"=some (some (.int 60 tk_MOST_VALUES)))
  (g0_MOST_PARTS:PySem.W.nsIn K mainGlobals "MOST_PARTS"=some (some (.int 20 tk_MOST_PARTS)))
  (g0_LONGEST_NAME:PySem.W.nsIn K mainGlobals "LONGEST_NAME"=some (some (.int 12 tk_LONGEST_NAME)))
  (g0_SMALL_LETTERS:PySem.W.nsIn K mainGlobals "SMALL_LETTERS"=some (some (.str "abcdefghijklmnopqrstuvwxyz" tk_SMALL_LETTERS)))
  (g0_LETTERS_AND_FIGURES:PySem.W.nsIn K mainGlobals "LETTERS_AND_FIGURES"=some (some (.str "abcdefghijklmnopqrstuvwxyzABCDEFGHIJKLMNOPQRSTUVWXYZ0123456789" tk_LETTERS_AND_FIGURES)))
  : ∃ fd:FuncData,(∀ (s:Shared) (v:Value),BindsTo s fd ⟨[v],[]⟩ [("_law_script",v)])∧∀ base:Heap,K.In base→base.Ns mainGlobals mg→FnOk l.prog w K mg base CX0 24 fa fd ["_law_script"] (spLaw K):=by
 obtain⟨_,fd,F_law,a_law⟩:=q_law
 have e:=hfa.symm.trans (Uc X G a_law)
 cases e
 have eF:=F_law.ex
 have m_Source:=Uc X G p_Source.a
 have m_Nothing:=Uc X G p_Nothing.a
 have m_Truth:=Uc X G p_Truth.a
 have m_Whole:=Uc X G p_Whole.a
 have m_Fraction:=Uc X G p_Fraction.a
 have m_Span:=Uc X G p_Span.a
 have m_Letters:=Uc X G p_Letters.a
 have m_Maybe:=Uc X G p_Maybe.a
 have m_Many:=Uc X G p_Many.a
 have m_Turned:=Uc X G p_Turned.a
 have m_Record:=Uc X G p_Record.a
 have m_Choice:=Uc X G p_Choice.a
 have gm_Form:=Uc X G aC_Form
 have gc_Form:GlobV mg "Form" (.ref C_Form):=⟨_,gm_Form,rfl⟩
 have t_Source_draw:MethAt K C_Source "draw" "Source.draw" Qk ["self"]:=q_Source_draw.at p_Source.cl (bs1 (by intros;rfl))
 have t_Source_turn:MethAt K C_Source "turn" "Source.turn" Qj ["self"]:=q_Source_turn.at p_Source.cl (bs1 (by intros;rfl))
 have t_Source_wish:MethAt K C_Source "wish" "Source.wish" Qi ["self","sign"]:=q_Source_wish.at p_Source.cl (bs2 (by intros;rfl))
 have t_Source_refuse:MethAt K C_Source "refuse" "Source.refuse" Zdf ["self"]:=q_Source_refuse.at p_Source.cl (bs1 (by intros;rfl))
 have M0_Nothing:Mk0 K C_Nothing:=⟨p_Nothing.ma,i0_Nothing,p_Nothing.kc⟩
 have M0_Truth:Mk0 K C_Truth:=⟨p_Truth.ma,i0_Truth,p_Truth.kc⟩
 have M0_Whole:Mk0 K C_Whole:=⟨p_Whole.ma,i0_Whole,p_Whole.kc⟩
 have M0_Fraction:Mk0 K C_Fraction:=⟨p_Fraction.ma,i0_Fraction,p_Fraction.kc⟩
 have t_Letters_places:MethAt K C_Letters "places" "Letters.places" Wr ["self","text"]:=q_Letters_places.at p_Letters.cl (bs2 (by intros;rfl))
 have is_Nothing:Ins K C_Nothing:=⟨p_Nothing.cl,ic_Nothing,ihn,itk,io_Nothing⟩
 have is_Truth:Ins K C_Truth:=⟨p_Truth.cl,ic_Truth,ihn,itk,io_Truth⟩
 have is_Whole:Ins K C_Whole:=⟨p_Whole.cl,ic_Whole,ihn,itk,io_Whole⟩
 have is_Fraction:Ins K C_Fraction:=⟨p_Fraction.cl,ic_Fraction,ihn,itk,io_Fraction⟩
 have is_Span:Ins K C_Span:=⟨p_Span.cl,ic_Span,ihn,itk,io_Span⟩
 have is_Letters:Ins K C_Letters:=⟨p_Letters.cl,ic_Letters,ihn,itk,io_Letters⟩
 have is_Maybe:Ins K C_Maybe:=⟨p_Maybe.cl,ic_Maybe,ihn,itk,io_Maybe⟩
 have is_Many:Ins K C_Many:=⟨p_Many.cl,ic_Many,ihn,itk,io_Many⟩
 have is_Turned:Ins K C_Turned:=⟨p_Turned.cl,ic_Turned,ihn,itk,io_Turned⟩
 have is_Record:Ins K C_Record:=⟨p_Record.cl,ic_Record,ihn,itk,io_Record⟩
 have is_Choice:Ins K C_Choice:=⟨p_Choice.cl,ic_Choice,ihn,itk,io_Choice⟩
 obtain⟨_,_,F_turned_row⟩:=q_turned_row.at X G (bs1 (by intros;rfl))
 obtain⟨_,_,F_lower_digits⟩:=q_lower_digits.at X G (bs2 (by intros;rfl))
 obtain⟨_,_,F_is_count⟩:=q_is_count.at X G (bs1 (by intros;rfl))
 obtain⟨_,_,F_has_whole_row⟩:=q_has_whole_row.at X G (bs1 (by intros;rfl))
 obtain⟨_,_,F_count_row⟩:=q_count_row.at X G (bs1 (by intros;rfl))
 obtain⟨_,_,F_whole_row⟩:=q_whole_row.at X G (bs1 (by intros;rfl))
 obtain⟨_,_,F_fixed_row⟩:=q_fixed_row.at X G (bs2 (by intros;rfl))
 obtain⟨_,_,F_draw_lower_digits⟩:=q_draw_lower_digits.at X G (bs2 (by intros;rfl))
 obtain⟨_,_,F_draw_count⟩:=q_draw_count.at X G (bs1 (by intros;rfl))
 obtain⟨_,_,F_draw_whole⟩:=q_draw_whole.at X G (bs1 (by intros;rfl))
 obtain⟨_,_,F_draw_fixed⟩:=q_draw_fixed.at X G (bs2 (by intros;rfl))
 obtain⟨_,_,F_steps_of⟩:=q_steps_of.at X G (bs1 (by intros;rfl))
 obtain⟨_,_,F_are_steps⟩:=q_are_steps.at X G (bs1 (by intros;rfl))
 obtain⟨_,_,F_fraction_of⟩:=q_fraction_of.at X G (bs1 (by intros;rfl))
 obtain⟨_,_,F_common_divisor⟩:=q_common_divisor.at X G (bs2 (by intros;rfl))
 obtain⟨_,_,F_is_fraction⟩:=q_is_fraction.at X G (bs1 (by intros;rfl))
 obtain⟨_,_,F_has_fraction_row⟩:=q_has_fraction_row.at X G (bs1 (by intros;rfl))
 obtain⟨_,_,F_row_of_steps⟩:=q_row_of_steps.at X G (bs1 (by intros;rfl))
 obtain⟨_,_,F_draw_fraction⟩:=q_draw_fraction.at X G (bs1 (by intros;rfl))
 obtain⟨_,_,F_is_number⟩:=q_is_number.at X G (bs1 (by intros;rfl))
 obtain⟨_,_,F_made_of⟩:=q_made_of.at X G (bs2 (by intros;rfl))
 obtain⟨_,_,F_is_name⟩:=q_is_name.at X G (bs1 (by intros;rfl))
 obtain⟨_,_,F_names_of⟩:=q_names_of.at X G (bs1 (by intros;rfl))
 obtain⟨_,_,F_value_of⟩:=q_value_of.at X G (bs2 (by intros;rfl))
 obtain⟨_,_,F_read_all⟩:=q_read_all.at X G (bs2 (by intros;rfl))
 obtain⟨_,_,F_law_pool⟩:=q_law_pool.at X G (bs1 (by intros;rfl))
 obtain⟨_,_,F_law_next⟩:=q_law_next.at X G (bs1 (by intros;rfl))
 obtain⟨_,_,F_law_signs⟩:=q_law_signs.at X G (bs1 (by intros;rfl))
 obtain⟨_,_,F_law_names⟩:=q_law_names.at X G (bs2 (by intros;rfl))
 obtain⟨_,_,F_law_simple⟩:=q_law_simple.at X G (bs2 (by intros;rfl))
 obtain⟨_,_,F_law_form⟩:=q_law_form.at X G (bs2 (by intros;rfl))
 obtain⟨_,_,F_law_object⟩:=q_law_object.at X G (bs2 (by intros;rfl))
 obtain⟨_,_,F_law_new⟩:=q_law_new.at X G (bs2 (by intros;rfl))
 obtain⟨_,_,F_law_made⟩:=q_law_made.at X G (bs1 (by intros;rfl))
 obtain⟨_,_,F_law_near⟩:=q_law_near.at X G (bs1 (by intros;rfl))
 obtain⟨_,_,F_law_signed⟩:=q_law_signed.at X G (bs1 (by intros;rfl))
 obtain⟨_,_,F_law_fraction⟩:=q_law_fraction.at X G (bs2 (by intros;rfl))
 obtain⟨_,_,F_law_size⟩:=q_law_size.at X G (bs3 (by intros;rfl))
 obtain⟨_,_,F_law_value⟩:=q_law_value.at X G (bs2 (by intros;rfl))
 obtain⟨_,_,F_law_drawn⟩:=q_law_drawn.at X G (bs1 (by intros;rfl))
 obtain⟨_,_,F_law_same⟩:=q_law_same.at X G (bs2 (by intros;rfl))
 obtain⟨_,_,F_law_order⟩:=q_law_order.at X G (bs3 (by intros;rfl))
 obtain⟨_,_,F_law_listed⟩:=q_law_listed.at X G (bs3 (by intros;rfl))
 obtain⟨_,_,F_law_stand⟩:=q_law_stand.at X G (bs3 (by intros;rfl))
 obtain⟨_,_,F_law_sorted⟩:=q_law_sorted.at X G (bs2 (by intros;rfl))
 have nb:NB mg:=⟨Ud X G z_len,Ud X G z_range,Ud X G z_int,Ud X G z_str,Ud X G z_bool,Ud X G z_tuple,Ud X G z_isinstance,Ud X G z_min,Ud X G z_list,Ud X G z_all,Ud X G z_reversed,Ud X G z_enumerate,Ud X G z_zip,Ud X G z_set,Ud X G z_sorted,Ud X G z_abs⟩
 have g_MOST_DIGITS:GlobV mg "MOST_DIGITS" (.int 255):=⟨_,Uc X G g0_MOST_DIGITS,⟨_,rfl⟩⟩
 have g_MOST_AHEAD:GlobV mg "MOST_AHEAD" (.int 7):=⟨_,Uc X G g0_MOST_AHEAD,⟨_,rfl⟩⟩
 have g_MOST_SIGNS:GlobV mg "MOST_SIGNS" (.int 60):=⟨_,Uc X G g0_MOST_SIGNS,⟨_,rfl⟩⟩
 have g_LONGEST_TEXT:GlobV mg "LONGEST_TEXT" (.int 200):=⟨_,Uc X G g0_LONGEST_TEXT,⟨_,rfl⟩⟩
 have g_MOST_VALUES:GlobV mg "MOST_VALUES" (.int 60):=⟨_,Uc X G g0_MOST_VALUES,⟨_,rfl⟩⟩
 have g_MOST_PARTS:GlobV mg "MOST_PARTS" (.int 20):=⟨_,Uc X G g0_MOST_PARTS,⟨_,rfl⟩⟩
 have g_LONGEST_NAME:GlobV mg "LONGEST_NAME" (.int 12):=⟨_,Uc X G g0_LONGEST_NAME,⟨_,rfl⟩⟩
 have g_SMALL_LETTERS:GlobV mg "SMALL_LETTERS" (.str L26):=⟨_,Uc X G g0_SMALL_LETTERS,⟨_,rfl⟩⟩
 have g_LETTERS_AND_FIGURES:GlobV mg "LETTERS_AND_FIGURES" (.str L62):=⟨_,Uc X G g0_LETTERS_AND_FIGURES,⟨_,rfl⟩⟩
 refine⟨fd,fun s v=>?_,fun base _ _=>?_⟩
 ·obtain⟨_,_,_,_,_,_,_,_,_,rfl,_⟩:=eF
  exact .of_eq rfl
 have T:SrcCls K C_Source:=⟨p_Source.cl,n_Source_signs,n_Source_place,n_Source_turned,n_Source_endless,n_Source_wished⟩
 have D_turned_row:=Zll (P:=l.prog) (w:=w) (base:=base) F_turned_row
 have D_lower_digits:=Ziv (P:=l.prog) (w:=w) (base:=base) nb F_lower_digits
 have D_fixed_row:=Zok F_fixed_row D_lower_digits
 have D_is_count:=Zqh (P:=l.prog) (w:=w) (base:=base) g_MOST_DIGITS F_is_count
 have D_has_whole_row:=Zho F_has_whole_row D_is_count
 have DD_has_whole_row:=Zgf F_has_whole_row D_is_count
 have D_count_row:=Zol g_MOST_AHEAD F_count_row D_is_count D_lower_digits
 have D_whole_row:=Zoe F_whole_row D_count_row D_turned_row
 have D_steps_of:=Zpy (P:=l.prog) (w:=w) (base:=base) F_steps_of
 have D_are_steps:=Zom (P:=l.prog) (w:=w) (base:=base) nb F_are_steps
 have D_fraction_of:=Zkn nb F_fraction_of D_are_steps
 have D_common_divisor:=Zgg (P:=l.prog) (w:=w) (base:=base) F_common_divisor
 have D_is_fraction:=Zkm F_is_fraction D_common_divisor
 have D_has_fraction_row:=Zet nb F_has_fraction_row D_is_fraction D_steps_of D_has_whole_row D_is_count
 have D_row_of_steps:=Ziu nb F_row_of_steps D_whole_row D_count_row D_turned_row
 have M_draw:=(Xq (P:=l.prog) (w:=w) (mg:=mg) (base:=base) t_Source_draw fun _ _ G=>Zzs nb T G).1
 have M_turn:=(Xq (P:=l.prog) (w:=w) (mg:=mg) (base:=base) t_Source_turn fun _ _ G=>Zzr T G).1
 have M_wish:=(Xq (P:=l.prog) (w:=w) (mg:=mg) (base:=base) t_Source_wish fun _ _ G=>Zzq T G).1
 have M_refuse:=(Xq (P:=l.prog) (w:=w) (mg:=mg) (base:=base) (k:=1) (sp:=spNo) t_Source_refuse fun _ _ _=>Xci).1
 have M_Source:=q_Source_init.mk (P:=l.prog) (w:=w) (base:=base) p_Source m_Source (bs3 fun _ _ _ _ _ _ _ _ _=>rfl) fun _ _ G=>Zpz T G
 have D_draw_lower_digits:=Zea nb T.cl F_draw_lower_digits M_draw
 have D_draw_count:=Zlu g_MOST_AHEAD T.cl F_draw_count M_draw D_draw_lower_digits
 have D_draw_whole:=Zls T.cl F_draw_whole M_draw M_turn D_draw_count
 have D_draw_fixed:=Zlt nb T.cl F_draw_fixed M_draw M_refuse
 have D_draw_fraction:=Zhp nb T.cl F_draw_fraction M_draw M_turn M_wish M_refuse D_draw_whole D_draw_count D_are_steps D_fraction_of
 have D_is_number:=Zlr (P:=l.prog) (w:=w) (base:=base) nb F_is_number
 have D_made_of:=Zsb (P:=l.prog) (w:=w) (base:=base) nb F_made_of
 have D_is_name:=Zsc nb g_LONGEST_NAME g_SMALL_LETTERS F_is_name D_made_of
 have D_names_of:=Zqc nb g_MOST_PARTS F_names_of D_is_name
 have TS:SpanCls K C_Span:=⟨p_Span.cl,n_Span_low,n_Span_high⟩
 have TL:LetCls K C_Letters:=⟨p_Letters.cl,n_Letters_signs⟩
 have TR:TwoCls K C_Record:=⟨p_Record.cl,n_Record_names,n_Record_forms⟩
 have TC:TwoCls K C_Choice:=⟨p_Choice.cl,n_Choice_names,n_Choice_forms⟩
 have TM:OneCls K C_Maybe:=⟨p_Maybe.cl,n_Maybe_inner⟩
 have TY:OneCls K C_Many:=⟨p_Many.cl,n_Many_inner⟩
 have TT:OneCls K C_Turned:=⟨p_Turned.cl,n_Turned_inner⟩
 have M_Span:=q_Span_init.mk (P:=l.prog) (w:=w) (base:=base) p_Span m_Span (bs3 fun _ _ _ _ _ _ _ _ _=>rfl) fun _ _ G=>Zof TS G
 have M_Letters:=q_Letters_init.mk (P:=l.prog) (w:=w) (base:=base) p_Letters m_Letters (bs2 fun _ _ _ _ _ _ _ _=>rfl) fun _ _ G=>Zqd nb g_MOST_SIGNS g_LETTERS_AND_FIGURES TL G D_made_of
 have M_Record:=q_Record_init.mk (P:=l.prog) (w:=w) (base:=base) p_Record m_Record (bs2 fun _ _ _ _ _ _ _ _=>rfl) fun _ _ G=>Zqa nb TR G D_names_of
 have M_Choice:=q_Choice_init.mk (P:=l.prog) (w:=w) (base:=base) p_Choice m_Choice (bs2 fun _ _ _ _ _ _ _ _=>rfl) fun _ _ G=>Zqi nb TC G D_names_of
 have M_Maybe:=q_Maybe_init.mk (P:=l.prog) (w:=w) (base:=base) p_Maybe m_Maybe (bs2 fun _ _ _ _ _ _ _ _=>rfl) fun _ _ G=>Zlm TM G
 have M_Many:=q_Many_init.mk (P:=l.prog) (w:=w) (base:=base) p_Many m_Many (bs2 fun _ _ _ _ _ _ _ _=>rfl) fun _ _ G=>Zog TY G
 have M_Turned:=q_Turned_init.mk (P:=l.prog) (w:=w) (base:=base) p_Turned m_Turned (bs2 fun _ _ _ _ _ _ _ _=>rfl) fun _ _ G=>Zkj TT G
 obtain⟨c,hc⟩:∃ c:FC,c=⟨fun k=>[C_Nothing,C_Truth,C_Whole,C_Fraction][k],C_Span,C_Letters,fun k=>[C_Maybe,C_Many,C_Turned][k],fun k=>[C_Record,C_Choice][k]⟩:=⟨_,rfl⟩
 have ec_Nothing:c.b 0=C_Nothing:=by rw[hc];rfl
 have ec_Truth:c.b 1=C_Truth:=by rw[hc];rfl
 have ec_Whole:c.b 2=C_Whole:=by rw[hc];rfl
 have ec_Fraction:c.b 3=C_Fraction:=by rw[hc];rfl
 have ec_Span:c.s=C_Span:=by rw[hc]
 have ec_Letters:c.l=C_Letters:=by rw[hc]
 have ec_Maybe:c.o 0=C_Maybe:=by rw[hc];rfl
 have ec_Many:c.o 1=C_Many:=by rw[hc];rfl
 have ec_Turned:c.o 2=C_Turned:=by rw[hc];rfl
 have ec_Record:c.t 0=C_Record:=by rw[hc];rfl
 have ec_Choice:c.t 1=C_Choice:=by rw[hc];rfl
 clear hc
 subst ec_Nothing
 subst ec_Truth
 subst ec_Whole
 subst ec_Fraction
 subst ec_Span
 subst ec_Letters
 subst ec_Maybe
 subst ec_Many
 subst ec_Turned
 subst ec_Record
 subst ec_Choice
 have TC1:Tcl K c:=⟨TS,TL,fun k=>by rcases fin3 k with rfl | rfl | rfl<;>assumption,fun k=>by rcases fin2 k with rfl | rfl<;>assumption⟩
 have S_fits:Mts K c "fits" Zru Zss ["self","value"]:=Zdi (p:=fun i=>MethAt K (clS c i) "fits" (Zru i) (Zss i) ["self","value"]) (q_Nothing_fits.at p_Nothing.cl (bs2 (by intros;rfl))) (q_Truth_fits.at p_Truth.cl (bs2 (by intros;rfl))) (q_Whole_fits.at p_Whole.cl (bs2 (by intros;rfl))) (q_Fraction_fits.at p_Fraction.cl (bs2 (by intros;rfl))) (q_Span_fits.at p_Span.cl (bs2 (by intros;rfl))) (q_Letters_fits.at p_Letters.cl (bs2 (by intros;rfl))) (q_Maybe_fits.at p_Maybe.cl (bs2 (by intros;rfl))) (q_Many_fits.at p_Many.cl (bs2 (by intros;rfl))) (q_Turned_fits.at p_Turned.cl (bs2 (by intros;rfl))) (q_Record_fits.at p_Record.cl (bs2 (by intros;rfl))) (q_Choice_fits.at p_Choice.cl (bs2 (by intros;rfl)))
 have S_written:Mts K c "written" Zhl Zhx ["self","value"]:=Zdi (p:=fun i=>MethAt K (clS c i) "written" (Zhl i) (Zhx i) ["self","value"]) (q_Nothing_written.at p_Nothing.cl (bs2 (by intros;rfl))) (q_Truth_written.at p_Truth.cl (bs2 (by intros;rfl))) (q_Whole_written.at p_Whole.cl (bs2 (by intros;rfl))) (q_Fraction_written.at p_Fraction.cl (bs2 (by intros;rfl))) (q_Span_written.at p_Span.cl (bs2 (by intros;rfl))) (q_Letters_written.at p_Letters.cl (bs2 (by intros;rfl))) (q_Maybe_written.at p_Maybe.cl (bs2 (by intros;rfl))) (q_Many_written.at p_Many.cl (bs2 (by intros;rfl))) (q_Turned_written.at p_Turned.cl (bs2 (by intros;rfl))) (q_Record_written.at p_Record.cl (bs2 (by intros;rfl))) (q_Choice_written.at p_Choice.cl (bs2 (by intros;rfl)))
 have S_draw:Mts K c "draw" Zrv Zst ["self","source"]:=Zdi (p:=fun i=>MethAt K (clS c i) "draw" (Zrv i) (Zst i) ["self","source"]) (q_Nothing_draw.at p_Nothing.cl (bs2 (by intros;rfl))) (q_Truth_draw.at p_Truth.cl (bs2 (by intros;rfl))) (q_Whole_draw.at p_Whole.cl (bs2 (by intros;rfl))) (q_Fraction_draw.at p_Fraction.cl (bs2 (by intros;rfl))) (q_Span_draw.at p_Span.cl (bs2 (by intros;rfl))) (q_Letters_draw.at p_Letters.cl (bs2 (by intros;rfl))) (q_Maybe_draw.at p_Maybe.cl (bs2 (by intros;rfl))) (q_Many_draw.at p_Many.cl (bs2 (by intros;rfl))) (q_Turned_draw.at p_Turned.cl (bs2 (by intros;rfl))) (q_Record_draw.at p_Record.cl (bs2 (by intros;rfl))) (q_Choice_draw.at p_Choice.cl (bs2 (by intros;rfl)))
 have S_row:Mts K c "row" (fun _=>"Form.row") (fun _=>Xw) ["self","value"]:=Zdi (p:=fun i=>MethAt K (clS c i) "row" ("Form.row") (Xw) ["self","value"]) (q_Nothing_row.at p_Nothing.cl (bs2 (by intros;rfl))) (q_Truth_row.at p_Truth.cl (bs2 (by intros;rfl))) (q_Whole_row.at p_Whole.cl (bs2 (by intros;rfl))) (q_Fraction_row.at p_Fraction.cl (bs2 (by intros;rfl))) (q_Span_row.at p_Span.cl (bs2 (by intros;rfl))) (q_Letters_row.at p_Letters.cl (bs2 (by intros;rfl))) (q_Maybe_row.at p_Maybe.cl (bs2 (by intros;rfl))) (q_Many_row.at p_Many.cl (bs2 (by intros;rfl))) (q_Turned_row.at p_Turned.cl (bs2 (by intros;rfl))) (q_Record_row.at p_Record.cl (bs2 (by intros;rfl))) (q_Choice_row.at p_Choice.cl (bs2 (by intros;rfl)))
 have M_places:=(Xq (P:=l.prog) (w:=w) (mg:=mg) (base:=base) t_Letters_places fun _ _ G=>Zgk TL G).1
 have AM_fits:=Zvs (P:=l.prog) (w:=w) (base:=base) nb TC1 S_fits g_MOST_VALUES g_LONGEST_TEXT D_is_number DD_has_whole_row D_made_of D_has_fraction_row 8
 have AM_written:=Zrj nb TC1 S_written M_places D_whole_row D_fixed_row D_turned_row D_steps_of D_row_of_steps 8
 have AM_draw:=Zyj nb TC1 S_draw T.cl g_MOST_VALUES g_LONGEST_TEXT M_draw M_turn M_refuse D_draw_fixed D_draw_whole D_draw_fraction 8
 have AM_row:=Xau S_row AM_fits AM_written
 have D_value_of:=Zpx nb T F_value_of AM_draw
 have D_read_all:=Zqb F_read_all M_Source D_value_of
 have D_law_pool:=Zqf (P:=l.prog) (w:=w) (base:=base) nb F_law_pool
 have D_law_nextP:=Zoi (P:=l.prog) (w:=w) (base:=base) nb F_law_next
 have D_law_next:=DefOk.less D_law_nextP fun _ _ _ _ h=>Zup h
 have D_law_signs:=Zoh (P:=l.prog) (w:=w) (base:=base) nb F_law_signs
 have D_law_names:=Zoj (P:=l.prog) (w:=w) (base:=base) nb F_law_names
 have D_law_simple:=Zln F_law_simple D_law_next D_law_signs
 have D_law_form:=Zef nb F_law_form D_law_next D_law_names D_law_simple 7
 have D_law_drawn:=Zkl F_law_drawn D_law_next D_law_form
 have D_law_object:=Zee nb F_law_new F_law_object M0_Nothing m_Nothing M0_Truth m_Truth M0_Whole m_Whole M0_Fraction m_Fraction M_Span M_Letters M_Record M_Choice M_Maybe M_Many M_Turned 7
 have D_law_made:=Zlp F_law_made D_law_object
 have D_law_near:=Zqg (P:=l.prog) (w:=w) (base:=base) nb F_law_near
 have D_law_signed:=Zlo F_law_signed D_law_near
 have D_law_fraction:=Zix (P:=l.prog) (w:=w) (base:=base) nb F_law_fraction
 have D_law_size:=Zqe (P:=l.prog) (w:=w) (base:=base) nb F_law_size
 have D_law_value:=Zey nb F_law_value D_law_nextP D_law_signed D_law_fraction D_law_size 7
 have D_law_same:=Zhb (P:=l.prog) (w:=w) (base:=base) nb F_law_same 12
 have D_law_order:=Zbv (P:=l.prog) (w:=w) (base:=base) nb F_law_order F_law_listed 7
 have D_law_stand:=Zkk (P:=l.prog) (w:=w) (base:=base) F_law_stand
 have D_law_sorted:=Ziw nb F_law_sorted D_law_order
 have KD:KdF K c C_Form:=Zdi (p:=fun i=>Ins K (clS c i)∧PySem.W.kitOne K (.ref (clS c i)) (.ref C_Form)=some true) ⟨is_Nothing,kt_Nothing_Form⟩ ⟨is_Truth,kt_Truth_Form⟩ ⟨is_Whole,kt_Whole_Form⟩ ⟨is_Fraction,kt_Fraction_Form⟩ ⟨is_Span,kt_Span_Form⟩ ⟨is_Letters,kt_Letters_Form⟩ ⟨is_Maybe,kt_Maybe_Form⟩ ⟨is_Many,kt_Many_Form⟩ ⟨is_Turned,kt_Turned_Form⟩ ⟨is_Record,kt_Record_Form⟩ ⟨is_Choice,kt_Choice_Form⟩
 exact Zwx nb gc_Form KD F_law D_law_pool D_law_drawn D_law_made M_Turned D_law_value D_law_order D_law_stand D_law_sorted D_law_same D_read_all AM_row
theorem walk{l:PySem.W.OpenLaw}{q:Program}{loose:List Str}{XP:(Str→Option Value)→Heap→Prop}{YP:World→Heap→Prop}{d:DefRec}{K:Params→Ua}(hn:l.most=some 63)(hdf:d.params.defaults=[])
  (hY:∀ (w:World) (h:Heap),YP w h→(K w.params).In h)
  (F:∀ (w:World) (mg:Str→Option Value) (fa:Addr) (h:Heap),(K w.params).In h→h.Ns mainGlobals mg→mg d.name=some (.ref fa)→
   ∃ fd:FuncData,(∀ (s:Shared) (u:Value),BindsTo s fd ⟨[u],[]⟩ [("_law_script",u)])∧∀ base:Heap,(K w.params).In base→base.Ns mainGlobals mg→FnOk l.prog w (K w.params) mg base CX0 24 fa fd ["_law_script"] (spLaw (K w.params))) :
  PySem.W.WalkO q loose XP YP l.row.toRowW d [] (fun f vs=>PySem.call f vs) :=
 L2.Zyt (n:=63) (k:=24) (x:="_law_script") (CX:=fun _=>CX0) (sp:=fun w=>spLaw (K w.params)) hn (by decide) hdf ⟨rfl,by decide,by decide⟩ hY F (fun _ _ a ns hl _ hS=>⟨a,ns,rfl,hS,hl,fun _=>rfl⟩) fun _ _ _ _ _ z=>z
end
end KR
open PySem PySem.W PyProof.Rows
set_option maxRecDepth 100000 in
set_option maxHeartbeats 0 in
theorem PySem.Challenge.cw_keyrise_k91_whole_values_in_order_holds : PySem.Challenge.rw_keyrise_k91_whole_values_in_order.Holds := by
 refine KR.GG.2 ?_
 delta KR.GG
 dsimp only
 k_fill
 refine KR.walk (l:=PySem.Challenge.rw_keyrise_k91_whole_values_in_order) rfl rfl (fun w h Y=>PySem.W.kIn_of Y) ?F
 case F =>
  intro w mg fa h KX G hmg
  refine' KR.Xcb KX G hmg ?a0 ?a1 ?a2 ?a3 ?a4 ?a5 ?a6 ?a7 ?a8 ?a9 ?a10 ?a11 ?a12 ?a13 ?a14 ?a15 ?a16 ?a17 ?a18 ?a19 ?a20 ?a21 ?a22 ?a23 ?a24 ?a25 ?a26 ?a27 ?a28 ?a29 ?a30 ?a31 ?a32 ?a33 ?a34 ?a35 ?a36 ?a37 ?a38 ?a39 ?a40 ?a41 ?a42 ?a43 ?a44 ?a45 ?a46 ?a47 ?a48 ?a49 ?a50 ?a51 ?a52 ?a53 ?a54 ?a55 ?a56 ?a57 ?a58 ?a59 ?a60 ?a61 ?a62 ?a63 ?a64 ?a65 ?a66 ?a67 ?a68 ?a69 ?a70 ?a71 ?a72 ?a73 ?a74 ?a75 ?a76 ?a77 ?a78 ?a79 ?a80 ?a81 ?a82 ?a83 ?a84 ?a85 ?a86 ?a87 ?a88 ?a89 ?a90 ?a91 ?a92 ?a93 ?a94 ?a95 ?a96 ?a97 ?a98 ?a99 ?a100 ?a101 ?a102 ?a103 ?a104 ?a105 ?a106 ?a107 ?a108 ?a109 ?a110 ?a111 ?a112 ?a113 ?a114 ?a115 ?a116 ?a117 ?a118 ?a119 ?a120 ?a121 ?a122 ?a123 ?a124 ?a125 ?a126 ?a127 ?a128 ?a129 ?a130 ?a131 ?a132 ?a133 ?a134 ?a135 ?a136 ?a137 ?a138 ?a139 ?a140 ?a141 ?a142 ?a143 ?a144 ?a145 ?a146 ?a147 ?a148 ?a149 ?a150 ?a151 ?a152 ?a153 ?a154 ?a155 ?a156 ?a157 ?a158 ?a159 ?a160 ?a161 ?a162 ?a163 ?a164 ?a165 ?a166 ?a167 ?a168 ?a169 ?a170 ?a171 ?a172 ?a173 ?a174 ?a175 ?a176 ?a177 ?a178 ?a179 ?a180 ?a181 ?a182 ?a183 ?a184 ?a185 ?a186 ?a187 ?a188 ?a189 ?a190 ?a191 ?a192 ?a193 ?a194
  (case a0 | a1 | a2 | a3 | a4 | a5 | a6 | a7 | a8 | a9 | a10 | a11=>apply KR.cpMk<;>k_is)
  (case a12 | a13 | a14 | a15 | a16 | a17=>k_is)
  (case a18 | a19 | a20 | a21 | a22=>apply KR.mpMk<;>k_is)
  (case a23=>k_is)
  (case a24 | a25 | a26 | a27=>apply KR.mpMk<;>k_is)
  (case a28=>k_is)
  (case a29 | a30 | a31 | a32=>apply KR.mpMk<;>k_is)
  (case a33=>k_is)
  (case a34 | a35 | a36 | a37=>apply KR.mpMk<;>k_is)
  (case a38=>k_is)
  (case a39 | a40 | a41 | a42=>apply KR.mpMk<;>k_is)
  (case a43 | a44=>k_is)
  (case a45 | a46 | a47 | a48 | a49=>apply KR.mpMk<;>k_is)
  (case a50=>k_is)
  (case a51 | a52 | a53 | a54 | a55 | a56=>apply KR.mpMk<;>k_is)
  (case a57=>k_is)
  (case a58 | a59 | a60 | a61 | a62=>apply KR.mpMk<;>k_is)
  (case a63=>k_is)
  (case a64 | a65 | a66 | a67 | a68=>apply KR.mpMk<;>k_is)
  (case a69=>k_is)
  (case a70 | a71 | a72 | a73 | a74=>apply KR.mpMk<;>k_is)
  (case a75 | a76=>k_is)
  (case a77 | a78 | a79 | a80 | a81=>apply KR.mpMk<;>k_is)
  (case a82 | a83=>k_is)
  (case a84 | a85 | a86 | a87 | a88=>apply KR.mpMk<;>k_is)
  (case a89 | a90 | a91 | a92 | a93 | a94 | a95 | a96 | a97 | a98 | a99 | a100 | a101 | a102 | a103 | a104 | a105 | a106 | a107 | a108 | a109 | a110 | a111 | a112=>k_is)
  (case a113 | a114 | a115 | a116 | a117 | a118 | a119 | a120 | a121 | a122 | a123=>kit_is)
  (case a124 | a125 | a126 | a127 | a128 | a129 | a130 | a131 | a132 | a133 | a134 | a135 | a136 | a137 | a138 | a139 | a140 | a141 | a142 | a143 | a144 | a145 | a146 | a147 | a148 | a149 | a150 | a151 | a152 | a153 | a154 | a155 | a156 | a157 | a158 | a159 | a160 | a161 | a162 | a163 | a164 | a165 | a166 | a167 | a168 | a169=>apply KR.fpMk<;>k_is)
  (case a170 | a171 | a172 | a173 | a174 | a175 | a176 | a177 | a178 | a179 | a180 | a181 | a182 | a183 | a184 | a185 | a186 | a187 | a188 | a189 | a190 | a191 | a192 | a193 | a194=>k_is)
