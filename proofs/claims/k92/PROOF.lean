import PyProof.Rows.All
import Wide.Line
import Wide.Once
import Wide.FinOn
import OpenK.KLine
import OpenK.KOwn
import Open.Pieces
import KE.RegKIsAll
import KE.KIntText
import KE.KFromBytes
import KE.KItem
import KE.KxBytes
import KE.KRevIter
import KE.KUnpack
import KE.KIsAll
import KE.BitLaws
import PyProof.EqAt
import PyProof.EqKinds
import PyProof.TupleCall
import PyProof.Rows.SortStr
import PySem.Challenge.RW_keyrise_k92_whole_spans_of_a_shelf
set_option Elab.async false
set_option compiler.extract_closed false
set_option linter.all false
section KRGG
namespace PySem.W.Fast
abbrev N:=Nat
def tw11254048944045585714:=N
def tw1785202854388307361:=N
def tw979095866598319235:=N
def tw2809278097526884950:=N
def tw4377796739810814904:=N
def tw7598465103738674496:=N
def tw613775184283291144:=N
def tw33302114698400231:=N
def tw8198348009711851909:=N
def tw5139744171035345670:=N
def tw15310927558261971453:=N
def tw2245362756673346172:=N
def tw9752715208664976440:=N
def tw13480357493076294493:=N
def tw8310144365994637341:=N
def tw7716613845612465473:=N
def tw1810377461874654782:=N
def tw13959715836948417854:=N
def tw17856779483299158900:=N
def tw5925971950823716569:=N
def tw18366721202695111488:=N
def tw2748281033721510175:=N
def tw17619121035282065317:=N
def tw15649782568387086513:=N
def tw13705492605490133140:=N
def tw12486050373300252547:=N
def tw1868799487077821971:=N
def tw9127171928593226861:=N
def tw16152597676742336084:=N
def tw9324831258327993595:=N
def tw8776824803471081383:=N
def tw8048256627542002252:=N
def tw18228334858345538506:=N
def tw17464368548865840442:=N
def tw11690558159589711114:=N
def tw8801640265643156679:=N
def tw17419498919005568336:=N
def tw16510651977684155507:=N
def tw16036781868990451057:=N
def tw4686935960831520078:=N
def tw227117518314937570:=N
def tw16711357431634272400:=N
def tw5945974089522883900:=N
def tw10875623266463304686:=N
def tw1222820690535720149:=N
def tw6742175300738641210:=N
def tw2639176877781519259:=N
def tw15700541486314458362:=N
def tw6536589625293585739:=N
def tw5461989250408482226:=N
def tw4916794747413300625:=N
def tw17486098396366939970:=N
def tw17736870672931732487:=N
def tw13696873391494668344:=N
def tw17067888543445549965:=N
def tw16284063107998194767:=N
def tw4790876236763424128:=N
def tw3444120816966035124:=N
def tw6488823462650155774:=N
def tw2639974856218677684:=N
def tw2817057100412788862:=N
def tw14699727114102623467:=N
def tw8879710021537374542:=N
def tw17727182371947804315:=N
def tw3713199337739589195:=N
def tw12452486559427167814:=N
def tw11010843956153857259:=N
def tw17038155484645295405:=N
def tw1796814095769308259:=N
def tw17278935798399966792:=N
def tw13876677068707418433:=N
def tw14001025553167179772:=N
def tw14851997194278260083:=N
def tw16743010327405467315:=N
def tw8243622923282002968:=N
def tw2492982428449182523:=N
def tw4576315731270293460:=N
def tw10404816957349814327:=N
def tw399178502347227471:=N
def tw10958296393637166776:=N
def tw8765759557641022639:=N
def tw9643504594763753455:=N
def tw13955121062881812861:=N
def tw5563434280631898639:=N
def tw6560831341857405188:=N
def tw3786836310519754435:=N
def tw8444026507587452794:=N
def tw7136290796944856622:=N
def tw17205514910333071596:=N
def tw12152549899985873104:=N
def tw17936558795385769533:=N
def tw11607834733144295098:=N
def tw1736146874752168655:=N
def tw14005404188008954277:=N
def tw2805262401423216358:=N
def tw16987692953083169564:=N
def tw15713461617544865694:=N
def tw9060691092404425886:=N
def tw6723318066146181642:=N
def tw3301051832626021737:=N
def tw9538854906552997656:=N
def tw15164148665579101172:=N
def tw4606617000839895423:=N
def tw12929076898859708914:=N
def tw9566490970318289016:=N
def tw11028326114988807621:=N
def tw2163135332870726879:=N
def tw8276171030340466950:=N
def tw7648998327836558644:=N
def tw11687903995813581332:=N
def tw4450300415296243983:=N
def tw16301991351855385982:=N
def tw6098659767726216361:=N
def tw7988552534536481677:=N
def tw4976572293424302378:=N
def tw5719801896669120749:=N
def tw7217249279796847936:=N
def tw18371701374689127766:=N
def tw15902820786432078956:=N
def tw11315769273325084300:=N
def tw4528507398883909647:=N
def tw1236443528441221254:=N
def tw816734528976144541:=N
def tw3324379312574851677:=N
def tw7308547379783275242:=N
def tw12176634488416654693:=N
def tw14242560256056461168:=N
def tw5482354944553638106:=N
def tw4590552824526937601:=N
def tw3008913778080488652:=N
def tw10066683132498034009:=N
def tw13801533386469849424:=N
def tw12653407787697590533:=N
def tw6970778866998757877:=N
def tw9350186808880309483:=N
def tw11870425822839731254:=N
def tw11954994729660938501:=N
def tw9883805332369111915:=N
def tw11133438181240629187:=N
def tw10734544981950097117:=N
def tw10513268369172877236:=N
def tw1275257110926951038:=N
def tw12013260607624027416:=N
def tw4409281312679245962:=N
def tw4234601287735525715:=N
def tw12121202963626943655:=N
def tw15095628436726586926:=N
def tw3881348749417455218:=N
def tw13873384114991516754:=N
def tw13681822730537243968:=N
def tw15200566140566403525:=N
def tw17299388237897513563:=N
def tw14129595898752064969:=N
def tw9223557606921253002:=N
def tw1380846671116394420:=N
def tw6886812593756787288:=N
def tw10252605792542045625:=N
def tw261391271351757251:=N
def tw17386352565408714812:=N
def tw14999110250244190938:=N
def tw4158743221575600396:=N
def tw7641655053804212922:=N
def tw10927012228346408387:=N
def tw2045060781173590224:=N
def tw7268284582052399196:=N
def tw15979864177956746166:=N
def tw11168179901394604869:=N
def tw14132983388448412922:=N
def tw16259544666408414002:=N
def tw4190311713925731062:=N
def tw11666594686286070809:=N
def tw17722493905744866683:=N
def tw787527674274854660:=N
def tw167458290919640474:=N
def tw13921122628923294719:=N
def tw5905286947574413289:=N
def tw11517462308131404032:=N
def tw17369970315105767659:=N
def tw900969061254537159:=N
def tw16280733232347729296:=N
def tw2215496166454336605:=N
def tw934981296982665880:=N
def tw12280679657130569303:=N
def tw8412283242119140128:=N
def tw688874846632351730:=N
def tw7434740097610887572:=N
def tw5374606955664723296:=N
def tw6183741488026450974:=N
def tw15572265305415586925:=N
def tw7681541826314050604:=N
def tw13012126095992161836:=N
def tw13307943328657033795:=N
def tw10802145475942141591:=N
def tw13123639739546271615:=N
def tw12885064040608234305:=N
def tw8386617910859450585:=N
def tw3760283479024261750:=N
def tw600790827939664006:=N
def tw9597278942339295915:=N
def tw11515028507161587030:=N
def tw16472916588937435213:=N
def tw16713315506801229507:=N
def tw2828588286600598667:=N
def tw13618166362764249593:=N
def tw14746202844245116054:=N
def tw5208765011438694238:=N
def tw7493996154002994169:=N
def tw387827332641408909:=N
def tw1003149137011667297:=N
def tw2580812005349252490:=N
def tw1182114722231220499:=N
def tw11402974833285460077:=N
def tw4320472122146082050:=N
def tw7141624208154999189:=N
def tw11759327689984386947:=N
def tw5010497432521878995:=N
def tw5726110170074747193:=N
def tw8330085448033618806:=N
def tw14286331109891190077:=N
def tw9803114728891638789:=N
def tw2718285584478994749:=N
def tw15574360059542611966:=N
def tw13125263547112173446:=N
def tw11415511744346681687:=N
def tw5842883321390131691:=N
def tw2267757314702565020:=N
def tw6367764892505456789:=N
def tw13386955181772860724:=N
def tw8667270058508895643:=N
def tw9579416360768656751:=N
def tw1007139262186109004:=N
def tw1925500340575136261:=N
def tw14351083566645532565:=N
def tw10027675449354998160:=N
def tw363084935823045115:=N
def tw1581829270864062712:=N
def tw17687470107077593908:=N
def tw100798088378390084:=N
def tw2680865047131953590:=N
def tw15907615452006418787:=N
def tw12266725156936384947:=N
def tw17871124736394266738:=N
def tw6397855274030963072:=N
def tw2910005244558282157:=N
def tw5783977446148187586:=N
def tw18373042941175376860:=N
def tw5926326500719080359:=N
def tw1984902579716283286:=N
def tw2230059553479939978:=N
def tw5997419971334671823:=N
def tw15353138383827554243:=N
def tw5966552685120622305:=N
def tw3004425059709038798:=N
def tw918859620620758905:=N
def tw2755113537372302902:=N
def tw4063228840226174193:=N
def tw15844524063230519634:=N
def tw12290359231426205268:=N
def tw17410833354666351251:=N
def tw5571704247451501893:=N
def tw13801390525527750239:=N
def tw8149973606672650572:=N
def tw4068944919111353596:=N
def tw12098585196044787596:=N
def tw2611257597888772518:=N
def tw1744729047450273221:=N
def tw9676900826163330547:=N
def tw16318444820982158067:=N
def tw14410754344454446675:=N
def tw7451852833576886472:=N
def tw13032363166590408091:=N
def tw4603138725126698966:=N
def tw5426791105708701701:=N
def tw2247836410817055445:=N
def tw15843338169517687949:=N
def tw9583891939944680207:=N
def tw10774753754001184815:=N
def tw2905062541629164978:=N
def tw6571058021895290940:=N
def tw1952033518263371900:=N
def tw2286051356005181801:=N
def tw3967614042749497994:=N
def tw8083762859954685763:=N
def tw15622618165169982945:=N
def tw7932843739563104406:=N
def tw865383717961641771:=N
def tw13490777638504345508:=N
def tw1474368504577347151:=N
def tw15038175829335665188:=N
def tw13506178423422554491:=N
def tw10459804482560722591:=N
def tw17794944637469181668:=N
def tw15978971795092297532:=N
def tw10686885503460674277:=N
def tw10250282241524925770:=N
def tw17086452943708960654:=N
def tw7173941513611111938:=N
def tw545694091170230544:=N
def tw6338767469802934988:=N
def tw14138171971726270798:=N
def tw5409529122524549651:=N
def tw15684369583256266333:=N
def tw14419435886017763111:=N
def tw12508157939111785315:=N
def tw5868471191974999324:=N
def tw18355946215966688087:=N
def tw10598918385338248321:=N
def tw16471510534332624313:=N
def tw5423630399285905547:=N
def tw5738836393526004031:=N
def tw3410883945061593800:=N
def tw11391988462347972600:=N
def tw9905309056465499203:=N
def tw16881965283324733064:=N
def tw2339302741944197588:=N
def tw5876046195037782208:=N
def tw12819475122750050310:=N
def tw4622184844143317426:=N
def tw4003167498065272914:=N
def tw12096954280704111516:=N
def tw4298174458395044136:=N
def tw12852211231737579384:=N
def tw11784968669742351399:=N
def tw1450804371557022064:=N
def tw14262057899353484803:=N
def tw409204755122330365:=N
def tw8742077665212701409:=N
def tw12556626980593034391:=N
def tw4996744375845929692:=N
def tw8654350408903477306:=N
def tw7556898640887410492:=N
def tw16765117239207161346:=N
def tw5659045528833179970:=N
def tw3004133718110596237:=N
def tw16571946902289060915:=N
def tw5304375117506653382:=N
def tw10476848886335871533:=N
def tw18198497722935045927:=N
def tw8538783234635623263:=N
def tw9548098706868647723:=N
def tw156149520175217139:=N
def tw2615724900306367522:=N
def tw11507553843131028154:=N
def tw6875064437359988900:=N
def tw2792372825127618613:=N
def tw9408438521046710718:=N
def tw8511000120112713901:=N
def tw12726062070055045554:=N
def tw4891695780009816298:=N
def tw5560505710024145231:=N
def tw3111434803037931979:=N
def tw3293145905512392544:=N
def tw12139153730638005234:=N
def tw2738364485347043913:=N
def tw16028206069690098778:=N
def tw1916459097956072484:=N
def tw13129246335879660292:=N
def tw15786042982653418144:=N
def tw11947710737887398020:=N
def tw17043298291359783371:=N
def tw6113064460759774997:=N
def tw2534874433586660358:=N
def tw5105101979040554145:=N
def tw5226184809074623592:=N
def tw6914595462004973149:=N
def tw2810738922951890913:=N
def tw580893211566620740:=N
def tw8388922687962770720:=N
def tw10133578096267568170:=N
def tw7094372049483544385:=N
def tw1637925381571468267:=N
def tw9144377942991122172:=N
def tw8589798970158192905:=N
def tw9821073994449887618:=N
def tw11940383639096623599:=N
def tw17315321091432428424:=N
def tw16648134937706268778:=N
def tw1583299925969838091:=N
def tw10563427844632195498:=N
def tw12680321045046194154:=N
def tw11632591965471361294:=N
def tw515031825258718592:=N
def tw15667407400155148432:=N
def tw13769963041230472250:=N
def tw3798184086160737800:=N
def tw12864075598428839544:=N
def tw11700902543329996500:=N
def tw4756286275375306377:=N
def tw7522298405516248640:=N
def tw4189817837058066142:=N
def tw12039447747258871975:=N
def tw14604035597513782624:=N
def tw18210239727384044819:=N
def tw8357224964843339691:=N
def tw5572739267495530028:=N
def tw10100761419291335208:=N
def tw16698154747235377169:=N
def tw4361216740525674223:=N
def tw12386321794889271764:=N
def tw5802692131324389157:=N
def tw8965731466663043249:=N
def tw14912787431195292559:=N
def tw654576482797278260:=N
def tw17260468763849885766:=N
def tw2548765905597629124:=N
def tw14571174642705885520:=N
def tw15131063527250869514:=N
def tw17892211389895572022:=N
def tw14591530160086093369:=N
def tw13927593359582651390:=N
def tw14012168891128000251:=N
def tw7913979102552151966:=N
def tw9800307579766259036:=N
def tw1573561428423211625:=N
def tw7446499572085334658:=N
def tw13441299419454870634:=N
def tw17760997704772306159:=N
def tw10112532522902597213:=N
def tw3735632711852036394:=N
def tw4857428018390631631:=N
def tw4570569716603781997:=N
def tw213659481757357023:=N
def tw13804731231120810843:=N
def tw7917629199457908180:=N
def tw9437761156204692261:=N
def tw11859305212891956925:=N
def tw904113871397063810:=N
def tw7108571479440204893:=N
def tw17530066289364983234:=N
def tw464401457136662524:=N
def tw9833077695379936569:=N
def tw12516718328659653990:=N
def tw1463621254008839983:=N
def tw2456828797039359063:=N
def tw14459743502021417964:=N
def tw277910453597672830:=N
def tw14333587435439405887:=N
def tw9452316223650021748:=N
def tw2179740769267492435:=N
def tw5392502780500250490:=N
def tw8912673900658571059:=N
def tw17716783065658325425:=N
def tw10278444759952635615:=N
def tw14207206061555126573:=N
def tw16484373235233323003:=N
def tw17995487649970216013:=N
def tw7654539787312603059:=N
def tw1280781523901410495:=N
def tw13519223870425673645:=N
def tw7542359177645088717:=N
def tw17634687179499029151:=N
def tw570536188666196964:=N
def tw3167699181428549264:=N
def tw12558306636185774339:=N
def tw18230730500156482402:=N
def tw6286770148483206755:=N
def tw4007702977611917601:=N
def tw15413484284285294293:=N
def tw6657910795696698815:=N
def tw1060067606563671668:=N
def tw582514216201808304:=N
def tw15109539390990265211:=N
def tw16458165087540219119:=N
def tw7040511210672361547:=N
def tw9283659368360516404:=N
def tw12876523117734376790:=N
def tw4929986449012584819:=N
def tw2067323549077388404:=N
def tw224699819037663685:=N
def tw6998213161938522900:=N
def tw4326610084274348958:=N
def tw5805848659672292634:=N
def tw2590524081261994668:=N
def tw500264313278707665:=N
def tw4734801814590566819:=N
def tw6738352071283815821:=N
def tw5955726635297372163:=N
def tw5059717943422549806:=N
def tw10200059993226286397:=N
def tw15493487831443393472:=N
def tw17982380966025259097:=N
def tw17283275499616133193:=N
def tw7448958730700202012:=N
def tw9188348782090363411:=N
def tw3397014562311831827:=N
def tw18373710971657219128:=N
def tw2930281174396233594:=N
def tw8707733267729907353:=N
def tw15931482030086905401:=N
def tw5159747055805977399:=N
def tw8842269932181521606:=N
def tw7069800380616614578:=N
def tw7226978691957134893:=N
def tw4158992602462401241:=N
def tw2165785665058886603:=N
def tw17084728044919191291:=N
def tw7397793698438416445:=N
def tw14839870141121039695:=N
def tw18388189172343605309:=N
def tw15511805576426109468:=N
def tw4190569376387409655:=N
def tw15086960929366060980:=N
def tw14518810652206154297:=N
def tw10133396611602707605:=N
def tw13580950089111385650:=N
def tw15281301213411963816:=N
def tw4818913205879617479:=N
def tw62422007759038272:=N
def tw6509975396172466417:=N
def tw15632092000759084696:=N
def tw2818368186030178181:=N
def tw10112420771419729407:=N
def tw14176907207384734371:=N
def tw6028266773615531204:=N
def tw4479592329572115768:=N
def tw8703407867313422419:=N
def tw4681019145591326456:=N
def tw307999330539363400:=N
def tw779942709315496868:=N
def tw6540979109458130672:=N
def tw4469125762781307192:=N
def tw6083877750079984151:=N
def tw15162926072850965159:=N
def tw1015835421314840547:=N
def tw14230275996196522006:=N
def tw4641582201713315045:=N
def tw2239616006098903733:=N
def tw16862253161938839916:=N
def tw11541354546285360923:=N
def tw4224244677098093314:=N
def tw13983398514932933040:=N
def tw16307601099808194058:=N
def tw8069550894762769096:=N
def tw6274999848731035244:=N
def tw15427728950514136953:=N
def tw9285997482530862105:=N
def tw4061077487453956855:=N
def tw8077606180856153581:=N
def tw2071797969213386317:=N
def tw9585503120782033261:=N
def tw7837726169097371360:=N
def tw663874864441383083:=N
def tw2826661482744437399:=N
def tw12897999774961528697:=N
def tw3666164404416966546:=N
def tw13211948107722105406:=N
def tw17317701880320526256:=N
def tw7846696577272434524:=N
def tw3540868890782006291:=N
def tw14643422397578818263:=N
def tw7346845486541174555:=N
def tw13479297750002522644:=N
def tw2703296314775548925:=N
def tw17894273356272673395:=N
def tw2203222640345167141:=N
def tw320424620841066448:=N
def tw4708929894044709281:=N
def tw3473390170391611746:=N
def tw6771092188161812869:=N
def tw13528607096364979331:=N
def tw75201182070074883:=N
def tw4118404134256650648:=N
def tw15041709281646791633:=N
def tw9054662325665689622:=N
def tw16055892861650129573:=N
def tw12054435875594549233:=N
def tw9540936698529228801:=N
def tw6455047961046442739:=N
def tw7689531397567431506:=N
def tw11510448295517971925:=N
def tw13422681398988726375:=N
def tw14133150251263811151:=N
def tw8158073586244320848:=N
def tw4143383846426395767:=N
def tw452480869414430431:=N
end PySem.W.Fast
theorem KR.absorb{G P:Prop}(_ _:G)(m:P):P:=m
open PySem PySem.W PyProof.Rows
set_option maxRecDepth 100000 in
set_option maxHeartbeats 0 in
noncomputable def KR.GG:{G:Prop // G→PySem.Challenge.rw_keyrise_k92_whole_spans_of_a_shelf.Holds}:=⟨_,fun hG=>by
 refine KR.absorb hG ?hc ?main
 case main =>
  w_on;o_law;k_head
  case hw=>w_witness2
 case hc=>exact hG⟩
end KRGG
section
open Option renaming some → J,none → aw
open PySem renaming Str → ae,Addr → af,Value → au,Shared → aO,Heap → bA,Stmt → bD,wpAny_bind → bF,wpAny → bN,Obj → bU,sizeLine → cj,Expr → cO,Builtin → cS,World → cZ,Program → dA,Around → dF,wpAny_pure → dP,starEach → ek,mainGlobals → fl,compareOp → gW,PassesOwn → h2,FuncData → iP,wpAny_field → jb,NameKind → j1,binaryOp → j2,bootBuiltins → kp,wpAny_mono → mY,codeAny → n2,wpAny_seqItems → sm,codeAny_mono → ur,wpAny_Call_Name_kw → uu,wpAny_passesOwn → uv,wpAny_setField → uw,keywordEach → wQ,wpAny_setField_rec → wR,wpAny_truthy_bool → zp,wpAny_call → Du,wpAny_getItem_str_slice → Dv,codeAny_call_builtin → Ro
open Bool renaming true → ah,false → aF
open PySem.W renaming findIn → gn,nsIn → ha,emptyDict → mV,fnOf → mW,instObj → mX,keepIn → p1,kia_one → q6,kitOne → uq,makesIn → zo,codeIn → Ds,plainGet → Dt,callWith_K → Jv,hasDictIn → Jw,isFn → Jx,lookIn → Jy
theorem I{α:Sort _}{a:α}:a=a:=rfl
set_option maxHeartbeats 4000000
abbrev bM:=@PySem.W.Frag
abbrev e8:=@Option.some.inj
abbrev hU:=@PySem.W.mg_of
abbrev kP:=@PySem.W.mg_none_of
abbrev mq:=@List.mem_append_right
abbrev Uf:=@Option.map_eq_some_iff
abbrev mr:=@Bool.and_eq_true_iff
abbrev eF:=@Ne.symm
abbrev cp:=@List.getElem?_eq_getElem
abbrev cw:=@List.length_map
abbrev dN:=@List.getD_eq_getElem?_getD
abbrev en:=@List.mem_cons_of_mem
abbrev c9:=@List.mem_cons
abbrev dX:=@List.length_append
abbrev b8:=@Nat.le_refl
abbrev d6:=@List.length_cons
abbrev eL:=@List.getElem?_map
abbrev fV:=@PySem.Heap.get?_push_of_some
abbrev eu:=@decide_eq_true
abbrev eo:=@List.size_toArray
abbrev fE:=@List.mem_of_getElem?
abbrev g5:=@List.getElem?_eq_some_iff
abbrev gF:=@List.mem_cons_self
abbrev fB:=@Nat.lt_of_lt_of_le
abbrev fC:=@decide_eq_false
abbrev dE:=@Nat.le_trans
abbrev d5:=@List.mem_singleton
abbrev fo:=@List.map_append
abbrev UF:=@Nat.zero_le
abbrev hH:=@PySem.Heap.get?_push_size
abbrev gD:=@List.append_assoc
abbrev hS:=@Bool.false_ne_true
abbrev hg:=@of_decide_eq_true
abbrev h5:=@Int.emod_lt_of_pos
abbrev eS:=@PySem.Heap.lt_size
abbrev iB:=@Array.length_toList
abbrev gZ:=@Bool.and_eq_true
abbrev hT:=@Int.emod_nonneg
abbrev fD:=@List.map_cons
abbrev ku:=@List.length_singleton
abbrev g0:=@Nat.ne_of_lt
abbrev ht:=@List.length_take
abbrev og:=@List.idxOf_lt_length_of_mem
abbrev gE:=@List.map_map
abbrev UV:=@List.take_of_length_le
abbrev iR:=@decide_eq_true_eq
abbrev jy:=@List.take_add_one
abbrev nc:=@List.drop_eq_getElem_cons
abbrev g4:=@Nat.lt_or_ge
abbrev je:=@List.length_drop
abbrev kQ:=@List.length_range
abbrev j7:=@List.getElem_map
abbrev lx:=@List.cons_ne_nil
abbrev e9:=@List.all_eq_true
abbrev j8:=@List.flatten_cons
abbrev oh:=@List.map_congr_left
abbrev u0:=@List.getElem?_eq_none
local macro_rules | `(tactic| omega) => `(tactic| first | (with_reducible first | assumption | exact Nat.le_of_succ_le_succ ‹_› | exact Nat.le_of_lt_succ ‹_› | exact Nat.le_of_lt ‹_› | exact Nat.sub_succ_lt_self _ _ ‹_› | exact Nat.succ_le_of_lt ‹_› | exact Nat.lt_of_lt_of_eq ‹_› ‹_› | exact Nat.lt_of_lt_of_eq ‹_› (Eq.symm ‹_›) | exact dE ‹_› (by decide) | exact Nat.add_le_add_right ‹_› _ | exact dE ‹_› ‹_› | exact Nat.lt_trans ‹_› ‹_› | exact Nat.le_add_right .. | exact Nat.le_add_left .. | exact fB ‹_› ‹_› | exact dE (Nat.sub_le ..) ‹_› | exact dE (dE (Nat.min_le_right ..) (Nat.sub_le ..)) ‹_› | exact dE (Nat.min_le_right ..) (Nat.sub_le ..) | exact fB ‹_› (Nat.min_le_right ..) | exact fB ‹_› (Nat.min_le_left ..) | exact Nat.max_le.mpr ⟨dE (Nat.le_max_left ..) ‹_›, ‹_›⟩ | exact (Int.toNat_of_nonneg ‹_›).symm | exact dE (Nat.le_max_right ..) ‹_› | exact Nat.sub_lt_sub_right ‹_› ‹_› | exact Nat.add_sub_of_le ‹_› | exact Nat.le_add_right_of_le ‹_› | exact dE (Nat.le_add_right ..) ‹_› | exact Nat.le_antisymm ‹_› (Nat.not_lt.mp ‹_›) | exact Nat.le_of_eq ‹_› | exact dE ‹_› (Nat.le_max_right ..) | exact Int.ofNat_lt.mpr ‹_› | exact Nat.lt_of_le_of_lt ‹_› (by decide) | exact Int.natCast_nonneg _ | exact dE (Nat.le_of_eq ‹_›) ‹_›) | lia | omega (config := {}))
set_option Elab.async false
set_option linter.all false
set_option maxRecDepth 100000
open PySem
variable {us bt:List au} {a it C:af} {P prog:dA} {w:cZ} {h base:bA} {g':Array GenState} {t' i j k n:Nat} {d':Drawn} {ch b7:List af} {x eW:ae} {N ns aK:List ae} {M:Model} {A:dF} {E Q:au->aO->Prop} {u doc pm bx ct i7:au} {bl:aO} {e eP iter:cO} {α:Type} {aZ pos':Pos} {ar:List (af×bU)} {K:bM} {body:List bD} {lo:Int} {f:au->au->Sem au} {op:CmpOp} {fy mg:ae->Option au} {kw:List (ae×au)} {env:Env} {fd:iP} {outer:List Env} {sc dC:Scope} {an gM:Option af} {nQ:Array (Option au)}
namespace c0
open PySem PySem.Spec PyProof.Rows
noncomputable abbrev Key:=Sum Int ae
noncomputable def OJ:Key->au->Bool
 |.inl k,v=>au.isInt k v
 |.inr x,v=>au.isStrOf x v
noncomputable def adB(w:cZ):Key->Int
 |.inl k=>hashInt k
 |.inr x=>hashStr w x
theorem qm:∀{k:Key}{v:au},OJ k v=ah->(∃i t,k=Sum.inl i/\v=au.int i t)\/(∃x t,k=Sum.inr x/\v=au.str x t)
 |.inl i,v,h=>by
  obtain⟨t,e⟩:=au.isInt_shape (k:=i) (v:=v) h
  exact .inl ⟨i,t,I,e⟩
 |.inr x,v,h=>by
  obtain⟨t,e⟩:=au.isStrOf_shape (x:=x) (v:=v) h
  exact .inr ⟨x,t,I,e⟩
theorem UC(a b:Int):decide ((Sum.inl a:Key)=Sum.inl b)=(a == b):=by
 by_cases e:a=b
 .subst e;simp
 ·have h:¬(Sum.inl a:Key)=Sum.inl b:=fun q=>e (Sum.inl.inj q)
  rw[fC h]
  exact(beq_eq_false_iff_ne.mpr e).symm
theorem Uz(a b:ae):decide ((Sum.inr a:Key)=Sum.inr b)=decide (a=b):=by
 by_cases e:a=b
 .subst e;simp
 ·have h:¬(Sum.inr a:Key)=Sum.inr b:=fun q=>e (Sum.inr.inj q)
  rw[fC h,fC e]
theorem UB(a:Int)(b:ae):decide ((Sum.inl a:Key)=Sum.inr b)=aF:=fC (fun q=>nomatch q)
theorem UA(a:ae)(b:Int):decide ((Sum.inr a:Key)=Sum.inl b)=aF:=fC (fun q=>nomatch q)
noncomputable def OT(prog:dA)(w:cZ):PySem.KeyKind prog w Key where
 is:=OJ
 hash:=adB w
 inj:=fun v a b aJ ag=>by
  rcases qm aJ with⟨i,t,rfl,rfl⟩|⟨x,t,rfl,rfl⟩
  ·rcases qm ag with⟨j,u,rfl,e⟩|⟨y,u,rfl,e⟩
   .injection e with aS _;rw[aS]
   .exact nomatch e
  ·rcases qm ag with⟨j,u,rfl,e⟩|⟨y,u,rfl,e⟩
   .exact nomatch e
   .injection e with aS _;rw[aS]
 byValue:=fun k v h=>by
  rcases qm h with⟨i,t,rfl,rfl⟩|⟨x,t,rfl,rfl⟩<;>rfl
 pyHash:=fun br h=>by
  rcases qm br with⟨i,t,rfl,rfl⟩|⟨x,t,rfl,rfl⟩
  .exact wpAny_pyHash_int h
  .exact wpAny_pyHash_str h
 eqBool:=fun cC br h=>by
  rcases qm cC with⟨i,t,rfl,rfl⟩|⟨x,t,rfl,rfl⟩
  ·rcases qm br with⟨j,u,rfl,rfl⟩|⟨y,u,rfl,rfl⟩
   .rw[UC]at h;exact wpAny_eqBool_int h
   .rw[UB]at h;exact SeqAt.EqAt.int_str i t y u _ _ _ _ h
  ·rcases qm br with⟨j,u,rfl,rfl⟩|⟨y,u,rfl,rfl⟩
   .rw[UA]at h;exact SeqAt.EqAt.str_int x t j u _ _ _ _ h
   .rw[Uz]at h;exact wpAny_eqBool_str h
 «strs» := fun k x t v h=>by
  rcases qm h with⟨i,u,rfl,e⟩|⟨y,u,rfl,e⟩
  .exact nomatch e
  ·injection e with aS _
   subst aS
   cases v<;>rfl
inductive V where
 |aT|aQ (b:Bool)|int (i:Int)|str (x:ae)|kS (b:Array UInt8)|te (b:UInt64)|ref (a:af)|ty (n:String)
 deriving DecidableEq
noncomputable def RelV:V->au->Prop
 |.aT,u=>u=au.none
 |.aQ b,u=>u=au.bool b
 |.int i,u=>∃t,u=au.int i t
 |.str x,u=>∃t,u=au.str x t
 |.kS b,u=>∃t,u=au.bytes b t
 |.te b,u=>∃t,u=au.float b t
 |.ref a,u=>u=au.ref a
 |.ty n,u=>u=au.type n
noncomputable abbrev Vals:List V->List au->Prop:=Paired RelV
theorem Vals.length{xs:List V}(r:Vals xs us):xs.length=us.length:=Paired.length r
theorem Vals.get:∀{xs:List V}{us:List au}{i:Nat}{x:V},Vals xs us->xs[i]?=J x->∃u,us[i]?=J u/\RelV x u
 |_,_,_,_,.nil,e=>by simp at e
 |_,_,0,_,.cons r _,e=>by simp at e;subst e;exact⟨_,I,r⟩
 |_,_,i+1,x,.cons _ t,e=>by
  obtain⟨u,ai,aj⟩:=Vals.get (i:=i) (x:=x) t (by simpa using e)
  exact⟨u,by simpa using ai,aj⟩
theorem Vals.append:∀{xs aA:List V}{us ws:List au},Vals xs us->Vals aA ws->Vals (xs++aA) (us++ws)
 |_,_,_,_,.nil,s=>s
 |_,_,_,_,.cons r t,s =>.cons r (Vals.append t s)
theorem Vals.take:∀{xs:List V}{us:List au}(n:Nat),Vals xs us->Vals (xs.take n) (us.take n)
 |_,_,0,_ =>.nil
 |_,_,_+1,.nil =>.nil
 |_,_,n+1,.cons r t =>.cons r (Vals.take n t)
theorem Vals.drop:∀{xs:List V}{us:List au}(n:Nat),Vals xs us->Vals (xs.drop n) (us.drop n)
 |_,_,0,r=>r
 |_,_,_+1,.nil =>.nil
 |_,_,n+1,.cons _ t=>Vals.drop n t
noncomputable def pz:Option V->Option au->Prop
 |some v,J u=>RelV v u
 |none,aw=>True
 |_,_=>False
noncomputable def D4{um:Type}:List (um×V)->List (um×au)->Prop:=Paired fun(p:um×V)(q:um×au)=>p.1=q.1/\RelV p.2 q.2
noncomputable def gL:Key->V
 |.inl i =>.int i
 |.inr x =>.str x
inductive df where
  |lst (xs:List V)
  |tup (xs:List V)
  |my (f9:List (Key×V))|pM (f9:List (List Key×V))
  |set (S:Int->Bool) (n:Nat)
  |ins (C ak:af) (fs:List (ae×V))
  |own (x:af)
  |hE (fs:List (ae×V))
  |met (f x:af)
  |yZ (lo ay:Int)
  |ji (o:bU) (u:df)
  |q0 (aK:Array au)
  |ext (uo:bA->Prop)
noncomputable abbrev aq:=af->Option df
noncomputable def upd(H:aq)(a:af)(o:df):aq:=fun b=>if b=a then J o else H b
variable {H:aq}
theorem aG{o:df}:upd H a o a=J o:=by unfold upd;rw[if_pos rfl]
theorem bK{b:af}{o:df}(h:b≠a):upd H a o b=H b:=by unfold upd;rw[if_neg h]
theorem f5{b:af}{o:df}(h:H a=J o)(h':H b=aw):a≠b:=by
 intro e;subst e;rw[h]at h';cases h'
section
variable (P:dA) (w:cZ)
noncomputable def ih(H:aq)(h:bA)(a:af):df->Prop
 |.lst xs=>xs.length<=cj/\∃(bt:List au)(n:Nat),Vals xs bt/\h.get? a=J {cls :=.type "list",data :=.seq bt.toArray n}
 |.tup xs=>xs.length<=cj/\∃bt:List au,Vals xs bt/\IsTup h a bt.toArray
 |.my f9=>f9.length<=cj/\(a == sysModules)=aF/\∃vs,D4 f9 vs/\h.DictOf (OT P w) a vs
 |.pM _=>False
 |.set S n=>h.SetOf (intKind P w) a S n
 | .ins C ak fs=>H ak=J (.own a)/\fs.length<=1000/\ak≠a/\h.get? a=J (mX C ak)/\
   ∃fy,h.Ns1 ak fy/\(∀f,pz (fs.lookup f) (fy f))/\PySem.Within fy (fs.map (·.1))
 |.own _=>∃o,h.get? a=J o
 |.hE fs=>∃fy,h.Ns1 a fy/\∀f,pz (fs.lookup f) (fy f)
 |.yZ lo ay=>∃t u v,h.get? a=J {cls :=.type "range",data :=.fields #[.int lo t,.int ay u,.int 1 v]}
 |.ji o u=>h.get? a=J o/\ih H h a u
 |.q0 aK=>h.get? a=J {cls :=.none,data :=.fields aK}
 |.met f x=>h.get? a=J (PySem.W.methodObj (.ref f) (.ref x))
 |.ext uo=>uo h/\(∃o,h.get? a=J o)/\∀ai aj:bA,uo ai->(∀o,ai.get? a=J o->aj.get? a=J o)->uo aj
def f3(H:aq)(h:bA):Prop:=∀a o,H a=J o->ih P w H h a o
end
section
variable {P:dA} {w:cZ} {H H':aq} {h h':bA} {a:af} {o:df}
theorem ih.lt(x:ih P w H h a o):a<h.objs.size:=by
 cases o with
 |lst xs=>obtain⟨_,_,_,_,e⟩:=x;exact eS e
 |tup xs=>obtain⟨_,_,_,p⟩:=x;exact p.lt
 |my f9=>obtain⟨_,_,_,_,o,_,_,e,_⟩:=x;exact eS e
 |pM f9=>exact(show False from x).elim
 |set S n=>obtain⟨o,_,_,_,e,_⟩:=x;exact eS e
 |ins C ak fs=>obtain⟨_,_,_,e,_⟩:=x;exact eS e
 |own y=>obtain⟨_,e⟩:=x;exact eS e
 |hE fs=>obtain⟨_,⟨_,_,_,e,_⟩,_⟩:=x;exact eS e
 |yZ lo ay=>obtain⟨_,_,_,e⟩:=x;exact eS e
 |ji ec u=>obtain⟨e,_⟩:=x;exact eS e
 |q0 aK=>exact eS (show h.get? a=J _ from x)
 |met f y=>exact eS (show h.get? a=J _ from x)
 |ext uo=>obtain⟨_,⟨_,e⟩,_⟩:=x;exact eS e
theorem ih.sg(x:ih P w H h a o)(k:∀b u,(b=a\/H b=J (.own a))->h.get? b=J u->h'.get? b=J u)
  (aH:∀b,H b=J (.own a)->H' b=J (.own a)) (aM:∀b xs,H b=J (.tup xs)->H' b=J (.tup xs)):ih P w H' h' a o:=by
 induction o with
 |lst xs=>obtain⟨z,bt,n,r,e⟩:=x;exact⟨z,bt,n,r,k _ _ (.inl I) e⟩
 |tup xs=>obtain⟨z,bt,r,ec,e,c⟩:=x;exact⟨z,bt,r,ec,k _ _ (.inl I) e,c⟩
 |my f9=>obtain⟨z,y,vs,r,ec,es,gu,e,c⟩:=x;exact⟨z,y,vs,r,ec,es,gu,k _ _ (.inl I) e,c⟩
 |pM f9=>exact(show False from x).elim
 |set S n=>obtain⟨ec,es,gu,t,e,c⟩:=x;exact⟨ec,es,gu,t,k _ _ (.inl I) e,c⟩
 |ins C ak fs =>
  obtain⟨d,z,ne,e,fy,⟨gM,es,gu,aV,c⟩,r⟩:=x
  exact⟨aH _ d,z,ne,k _ _ (.inl I) e,fy,⟨gM,es,gu,k _ _ (.inr d) aV,c⟩,r⟩
 |own y=>obtain⟨ec,e⟩:=x;exact⟨ec,k _ _ (.inl I) e⟩
 |hE fs=>obtain⟨fy,⟨gM,es,gu,e,c⟩,r⟩:=x;exact⟨fy,⟨gM,es,gu,k _ _ (.inl I) e,c⟩,r⟩
 |yZ lo ay=>obtain⟨t,u,v,e⟩:=x;exact⟨t,u,v,k _ _ (.inl I) e⟩
 |ji ec u bT=>obtain⟨e,q⟩:=x;exact⟨k _ _ (.inl I) e,bT q⟩
 |q0 aK =>
  have e:h.get? a=J {cls :=.none,data :=.fields aK}:=x
  show h'.get? a=J {cls :=.none,data :=.fields aK}
  exact k a _ (.inl I) e
 |met f y =>
  have e:h.get? a=J (PySem.W.methodObj (.ref f) (.ref y)):=x
  show h'.get? a=J (PySem.W.methodObj (.ref f) (.ref y))
  exact k a _ (.inl I) e
 |ext uo=>obtain⟨p,⟨o,e⟩,st⟩:=x;exact⟨st _ _ p fun o q=>k _ _ (.inl I) q,⟨o,k _ _ (.inl I) e⟩,st⟩
theorem f3.lt(x:f3 P w H h)(e:H a=J o):a<h.objs.size:=(x a o e).lt
theorem f3.fresh(x:f3 P w H h)(e:h.objs.size<=a):H a=aw:=by
 cases q:H a with
 |none=>rfl
 |some u=>exact absurd (fB (x.lt q) e) (Nat.lt_irrefl _)
theorem f3.kept(x:f3 P w H h)(k:∀b u,h.get? b=J u->h'.get? b=J u):f3 P w H h':=fun a o e =>
 (x a o e).sg (fun b u _ q=>k b u q) (fun _ q=>q) fun _ _ q=>q
theorem f3.laid(x:f3 P w H h)(k:∀b u,h.get? b=J u->h'.get? b=J u)(aY:h.objs.size<=a)(new:ih P w (upd H a o) h' a o):f3 P w (upd H a o) h':=fun b u e=>by
 have aW:=x.fresh aY
 by_cases ag:b=a
 .subst ag;rw[aG]at e;cases e;exact new
 ·rw[bK ag]at e
  exact(x b u e).sg (fun c v _ q=>k c v q) (fun c q=>by rw[bK (f5 q aW)];exact q) fun c xs q=>by rw[bK (f5 q aW)];exact q
end
def z1(H:aq)(a:af)(u:df):Prop:=H a=J u\/∃o,H a=J (.ji o u)
theorem z1.ok{u:df}(r:z1 H a u)(x:f3 P w H h):ih P w H h a u:=by
 rcases r with r|⟨o,r⟩
 .exact x a u r
 ·obtain⟨_,q⟩:=x a _ r
  exact q
noncomputable def zK:Option df->Prop
 |some (.lst _)=>True
 |some (.my _)=>True
 |some (.pM _)=>True
 |some (.set _ _)=>True
 |some (.ins _ _ _)=>True
 |some (.ext _)=>True
 |_=>False
section
variable {P:dA} {w:cZ} {H:aq} {h h':bA} {x e:af} {o':df}
theorem f3.write(ok:f3 P w H h)(nN:zK (H x))(he:e=x\/H e=J (.own x))(k:∀b u,b≠e->h.get? b=J u->h'.get? b=J u)(vJ:∃u,h'.get? e=J u)
  (new:ih P w (upd H x o') h' x o'):f3 P w (upd H x o') h':=fun b u q=>by
 have O2:∀c y,H c=J (.own y)->c≠x:=fun c y r z=>by subst z;rw[r]at nN;exact nN
 have aeG:∀c xs,H c=J (.tup xs)->c≠x:=fun c xs r z=>by subst z;rw[r]at nN;exact nN
 by_cases ag:b=x
 .subst ag;rw[aG]at q;cases q;exact new
 ·rw[bK ag]at q
  by_cases mD:b=e
  ·have jH:H b=J (.own x):=by
    rcases he with z|z
    .exact absurd (mD.trans z) ag
    .rw[mD];exact z
   rw[q]at jH;cases jH
   obtain⟨v,br⟩:=vJ
   exact⟨v,by rw[mD];exact br⟩
  ·refine(ok b u q).sg (fun c v hc r=>k c v ?_ r) (fun c r=>by rw[bK (O2 c b r)];exact r) fun c xs r=>by rw[bK (aeG c xs r)];exact r
   rcases hc with rfl|hc
   .exact mD
   ·rintro rfl
    rcases he with z|z
    .exact O2 c b hc z
    .rw[hc]at z;cases z;exact ag I
end
structure gR(fs ex:List af)(H H':aq)(h h':bA):Prop where
 keep:∀b o,h.get? b=J o->H b=aw->b∉fs->b∉ex->h'.get? b=J o
 slot:∀b o,h.get? b=J o->H b=aw->b∈fs->b∉ex->∃dp,h'.get? b=J {o with slots:=dp}
 free:∀b o,h.get? b=J o->H b=aw->b∉ex->H' b=aw
 there:∀b o,h.get? b=J o->b∉ex->∃o',h'.get? b=J o'
 pa:∀b xs,H b=J (.tup xs)->H' b=J (.tup xs)
 nq:∀b o u,H b=J (.ji o u)->H' b=J (.ji o u)
 o9:∀b aK,H b=J (.q0 aK)->∃more,H' b=J (.q0 (aK++more))
section
variable {fs ox ex rF:List af} {H H1 av:aq} {h ai aj h':bA} {a x e:af} {o:df}
theorem gR.any(u:gR fs ex H H1 h ai){b:af}{ec:bU}(q:h.get? b=J ec)(n:H b=aw)(ao:b∉ex):∃dp,ai.get? b=J {ec with slots:=dp}:=by
 by_cases ag:b∈fs
 .exact u.slot b ec q n ag ao
 .exact⟨ec.slots,u.keep b ec q n ag ao⟩
theorem gR.kept(k:∀b u,h.get? b=J u->h'.get? b=J u):gR fs ex H H h h' :=
 ⟨fun b ec q _ _ _=>k b ec q,fun b ec q _ _ _=>⟨ec.slots,k b ec q⟩,fun _ _ _ n _=>n,fun b ec q _=>⟨ec,k b ec q⟩,fun _ _ q=>q,fun _ _ _ q=>q,fun _ aK q=>⟨#[],by rw[q];simp⟩⟩
theorem gR.refl:gR fs ex H H h h:=gR.kept fun _ _ q=>q
theorem gR.laid(k:∀b u,h.get? b=J u->h'.get? b=J u)(aY:h.objs.size<=a)(aW:H a=aw):gR fs ex H (upd H a o) h h' where
 keep:=fun b u q _ _ _=>k b u q
 slot:=fun b u q _ _ _=>⟨u.slots,k b u q⟩
 free:=fun b u q n _=>by rw[bK (g0 (fB (eS q) aY))];exact n
 there:=fun b u q _=>⟨u,k b u q⟩
 pa:=fun b xs q=>by rw[bK (f5 q aW)];exact q
 nq:=fun b u xs q=>by rw[bK (f5 q aW)];exact q
 o9:=fun b aK q=>⟨#[],by rw[bK (f5 q aW),q];simp⟩
theorem gR.write(nN:zK (H x))(he:e=x\/H e=J (.own x))(k:∀b u,b≠e->h.get? b=J u->h'.get? b=J u)(vJ:∃u,h'.get? e=J u):gR fs ex H (upd H x o) h h':=by
 have ao:∀b,H b=aw->b≠x:=fun b n z=>by subst z;rw[n]at nN;exact nN
 have ag:∀b,H b=aw->b≠e:=fun b n z=>by
  subst z
  rcases he with r|r
  .exact ao b n r
  .rw[n]at r;cases r
 have hm:∀b u,H b=J u->¬zK (J u)->b≠x:=fun b u q nm z=>by subst z;rw[q]at nN;exact nm nN
 refine⟨fun b u q n _ _=>k b u (ag b n) q,fun b u q n _ _=>⟨u.slots,k b u (ag b n) q⟩,fun b u q n _=>by rw[bK (ao b n)];exact n,fun b u q _=>?_,
  fun b xs q=>by rw[bK (hm b _ q fun z=>z)];exact q,fun b u xs q=>by rw[bK (hm b _ q fun z=>z)];exact q,fun b aK q=>⟨#[],by rw[bK (hm b _ q fun z=>z),q];simp⟩⟩
 by_cases mD:b=e
 .subst mD;exact vJ
 .exact⟨u,k b u mD q⟩
end
noncomputable def Df(h:bA)(H:aq):List af:=(List.range h.objs.size).filter fun a=>(H a).isSome
noncomputable def qI(h:bA)(H:aq):bA:=PySem.W.hideAll h (Df h H)
theorem YH(h:bA)(H:aq):(qI h H).objs.size=h.objs.size:=PySem.W.hideAll_size _ _
variable {o:bU}
theorem Zw{b:af}(e:h.get? b=J o)(n:H b=aw):(qI h H).get? b=J o :=
 PySem.W.hideAll_get _ e fun hm=>by
  have q:(H b).isSome=ah:=(List.mem_filter.mp hm).2
  rw[n]at q;simp at q
theorem TM{b:af}(e:(qI h H).get? b=J o):h.get? b=J o/\H b=aw:=by
 have e':h.get? b=J o:=PySem.W.of_hideAll (Df h H) e
 refine⟨e',?_⟩
 cases q:H b with
 |none=>rfl
 |some x =>
  have hm:b∈Df h H:=List.mem_filter.mpr ⟨List.mem_range.mpr (eS e'),by simp[q]⟩
  have z:(qI h H).get? b=aw:=PySem.W.hideAll_none (Df h H) hm
  rw[z]at e;cases e
noncomputable def ZG(g h:bA)(L:af):List (af×bU):=(List.range h.objs.size).filterMap fun a=>if a=L\/(g.get? a).isSome=ah then aw else(h.get? a).map fun o=>(a,o)
noncomputable def rest(g h:bA)(L d:af):List (af×bU):=(ZG g h L).filter fun p=>decide (p.1≠d)
structure Mod(K:bM)(mg:ae->Option au)(base:bA):Prop where
 vZ:K.In base
 glob:base.Ns fl mg
 blt:∃nL,base.Ns builtinsNs nL/\∀x:ae,x≠"__name__"->nL x=kp x
 nolimit:base.NoLimit
structure bS where
 prog:dA
 w:cZ
 K:bM
 mg:ae->Option au
 base:bA
 A:dF
 N:List ae
 eE:aO
 jt:aq
 env:Env
 outer:List Env
 stack:List Env
 ex:List af
 fn:ae->Bool
 calm:Bool
 nR:List (af×bU)
 xe:au->aO->Prop
noncomputable def kf(l:List Env):List af:=l.filterMap (·.frame)
noncomputable abbrev bS.fs(X:bS):List af:=kf X.outer
def z9(sc:Scope)(x:ae):Prop:=sc.names.lookup x=J .local\/sc.names.lookup x=J .cell\/sc.names.lookup x=J .free
def Loc(sc:Scope)(x:ae):Prop:=sc.names.lookup x=J .local\/sc.names.lookup x=J .cell
def Look(env:Env)(h:bA)(m:ae->Option au)(x:ae)(u:au):Prop :=
 (env.kindOf x=J .local/\m x=J u)\/((env.kindOf x=J .cell\/env.kindOf x=J .free)/\∃c,env.cells.lookup x=J c/\h.IsCell c (J u))
structure bS.Ok(X:bS):Prop where
 mod:Mod X.K X.mg X.base
 kind:X.env.scope.kind=.function
 glob:X.env.globals=fl
 blt:X.env.builtins=builtinsNs
 above:X.eE.heap.objs.size<=X.env.locals
 inj:∀x y c,X.env.cells.lookup x=J c->X.env.cells.lookup y=J c->x=y
 has:∀x,(X.env.kindOf x=J .cell\/X.env.kindOf x=J .free)->∃c,X.env.cells.lookup x=J c
 xN:∀x c,X.fn x=ah->X.env.cells.lookup x=J c->X.eE.heap.objs.size<=c
 hd:X.calm=ah->X.A.handled=aw
 frames:X.A.frames=J X.stack
 C9:X.stack=X.outer\/(X.stack=X.env::X.outer/\X.env.frame=J X.env.locals)
 Nc:∀b∈X.ex,b≠X.env.locals/\∀x c,X.env.cells.lookup x=J c->c≠b
 bs:∀b o,X.base.get? b=J o->X.eE.heap.get? b=J o/\X.jt b=aw
 qw:X.base.objs.size<=X.eE.heap.objs.size
 yP:∀b o,X.base.get? b=J o->b∉X.ex
 BM:∀b∈X.ex,b∉X.fs
 nr:X.eE.heap.FunFrames X.base X.outer
 tf:∀b∈X.fs,X.jt b=aw
structure Inv(X:bS)(ar:List (af×bU))(U:List (Option V))(H:aq)(s:aO):Prop where
 ok:X.Ok
 os:s.os=X.eE.os
 bare:AllBare s.gens
 base:gR X.fs X.ex X.jt H X.eE.heap s.heap
 loc:∃m,s.heap.Ns X.env.locals m/\∀(i:Nat)(x:ae)(v:V),X.N[i]?=J x->U[i]?=J (J v)->z9 X.env.scope x->∃u,RelV v u/\Look X.env s.heap m x u
 cell:∀x c,X.env.cells.lookup x=J c->∃v,s.heap.IsCell c v
 free:H X.env.locals=aw
 pP:∀x c,X.env.cells.lookup x=J c->H c=aw
 pin:∀p∈X.nR++ar,s.heap.get? p.1=J p.2/\H p.1=aw/\p.1≠X.env.locals/\p.1∉X.fs/\∀v,p.2.data≠.cell v
 aL:f3 X.prog X.w H s.heap
 len:U.length=X.N.length
variable {Q:Unit->aO->Prop}
section
variable {X:bS} {ar:List (af×bU)} {U:List (Option V)} {H H':aq} {s:aO} {h':bA}
theorem bS.Ok.aez(ok:X.Ok){b:af}(e:X.base.get? b=J o):b∉X.fs:=fun ag=>by
 have:=(ok.nr.mem ag).1
 rw[e]at this;cases this
theorem Inv.bs(aa:Inv X ar U H s):∀b o,X.base.get? b=J o->s.heap.get? b=J o/\H b=aw:=fun b o e =>
 ⟨aa.base.keep b o (aa.ok.bs b o e).1 (aa.ok.bs b o e).2 (aa.ok.aez e) (aa.ok.yP b o e),aa.base.free b o (aa.ok.bs b o e).1 (aa.ok.bs b o e).2 (aa.ok.yP b o e)⟩
theorem Inv.bk(aa:Inv X ar U H s):∀b o,X.base.get? b=J o->s.heap.get? b=J o:=fun b o e=>(aa.bs b o e).1
theorem Inv.mod(aa:Inv X ar U H s):Mod X.K X.mg X.base:=aa.ok.mod
theorem Inv.hB(aa:Inv X ar U H s):X.K.In s.heap:=aa.ok.mod.vZ.keeps aa.bk
theorem Inv.lt(aa:Inv X ar U H s):X.env.locals<s.heap.objs.size:=let ⟨_,aW,_⟩:=aa.loc;aW.lt
theorem Inv.dD(aa:Inv X ar U H s):X.eE.heap.objs.size<=s.heap.objs.size:=dE aa.ok.above (Nat.le_of_lt aa.lt)
theorem Inv.aeB(aa:Inv X ar U H s)(h:s.heap.objs.size<=a):a∉X.fs:=fun ag=>by
 obtain⟨_,o,aH,_⟩:=aa.ok.nr.mem ag
 exact absurd (fB (eS aH) (dE aa.dD h)) (Nat.lt_irrefl _)
theorem Inv.s6(aa:Inv X ar U H s):∀x c,X.env.cells.lookup x=J c->c≠X.env.locals:=fun x c e z=>by
 obtain⟨v,o,aH,hd⟩:=aa.cell x c e
 obtain⟨m,⟨o',es,gu,mH,tr,_⟩,_⟩:=aa.loc
 rw[z,mH]at aH;cases aH;rw[tr]at hd;cases hd
theorem Inv.nr(aa:Inv X ar U H s):s.heap.FunFrames X.base X.outer:=by
 have all:∀(l:List Env),(∀b∈kf l,b∈X.fs)->X.eE.heap.FunFrames X.base l->s.heap.FunFrames X.base l:=by
  intro l
  induction l with
  |nil=>intro _ _;trivial
  |cons env r bT =>
   intro hs aD
   obtain⟨hk,⟨L,o,az,aW,aH,hd⟩,ax⟩:=aD
   have hY:L∈X.fs:=hs L (by unfold kf;rw[List.filterMap_cons,az];exact gF)
   obtain⟨dp,e⟩:=aa.base.slot L o aH (aa.ok.tf L hY) hY fun z=>aa.ok.BM L z hY
   exact⟨hk,⟨L,_,az,aW,e,hd⟩,bT (fun b ag=>hs b (by unfold kf;rw[List.filterMap_cons,az];exact en _ ag)) ax⟩
 exact all X.outer (fun _ ag=>ag) aa.ok.nr
theorem Inv.stack(aa:Inv X ar U H s):s.heap.FunFrames X.base X.stack:=by
 rcases aa.ok.C9 with e|⟨e,az⟩
 .rw[e];exact aa.nr
 ·rw[e]
  obtain⟨m,aW,_⟩:=aa.loc
  refine .cons (by rw[aa.ok.kind];decide) az aW ?_ aa.nr
  exact bA.get?_none_of_le (dE aa.ok.qw aa.ok.above)
theorem Inv.ze(aa:Inv X ar U H s):∀b∈kf X.stack,b∈X.env.locals::X.fs:=fun b ag=>by
 rcases aa.ok.C9 with e|⟨e,az⟩
 .rw[e]at ag;exact en _ ag
 ·rw[e]at ag
  unfold kf at ag
  rw[List.filterMap_cons,az]at ag
  exact ag
theorem Inv.I6(aa:Inv X ar U H s):∀b∈kf X.stack,H b=aw:=fun b ag=>by
 rcases c9.mp (aa.ze b ag)with e|ag
 .rw[e];exact aa.free
 ·obtain⟨_,o,aH,_⟩:=aa.ok.nr.mem ag
  exact aa.base.free b o aH (aa.ok.tf b ag) fun z=>aa.ok.BM b z ag
theorem Inv.step(aa:Inv X ar U H s)
  (nA:∀b∈ch,(b∈X.ex\/X.eE.heap.objs.size<=b)/\b≠X.env.locals/\(∀x c,X.env.cells.lookup x=J c->c≠b)/\∀p∈X.nR++ar,p.1≠b)
  (keep:∀b o,b≠X.env.locals->b∉X.fs->b∉ch->s.heap.get? b=J o->H b=aw->h'.get? b=J o)
  (slot:∀b o,b≠X.env.locals->b∈X.fs->b∉ch->s.heap.get? b=J o->H b=aw->∃dp,h'.get? b=J {o with slots:=dp}) (free:∀b o,b∉ch->s.heap.get? b=J o->H b=aw->H' b=aw)
  (there:∀b o,b∉ch->s.heap.get? b=J o->∃o',h'.get? b=J o')
  (pa:∀b xs,H b=J (.tup xs)->H' b=J (.tup xs)) (nq:∀b o u,H b=J (.ji o u)->H' b=J (.ji o u)) (o9:∀b aK,H b=J (.q0 aK)->∃more,H' b=J (.q0 (aK++more)))
  (ns:∀m,s.heap.Ns X.env.locals m->h'.Ns X.env.locals m) (aL:f3 X.prog X.w H' h') (aX:AllBare g') :
  Inv X ar U H' {s with heap:=h',gens:=g',drawn:=d',toks:=t'}:=by
 have CJ:∀b o,X.eE.heap.get? b=J o->b≠X.env.locals:=fun b o e=>g0 (fB (eS e) aa.ok.above)
 have CI:∀b o,X.eE.heap.get? b=J o->b∉X.ex->b∉ch:=fun b o e ao ag=>by
  rcases(nA b ag).1 with z|z
  .exact ao z
  .exact absurd (fB (eS e) z) (Nat.lt_irrefl _)
 have cellK:∀x c,X.env.cells.lookup x=J c->∀v,s.heap.IsCell c v->h'.IsCell c v:=fun x c e v ⟨o,aH,hd⟩=>by
  have oV:c∉ch:=fun z=>(nA c z).2.2.1 x c e rfl
  by_cases hc:c∈X.fs
  ·obtain⟨dp,q⟩:=slot c o (aa.s6 x c e) hc oV aH (aa.pP x c e)
   exact⟨_,q,hd⟩
  .exact⟨o,keep c o (aa.s6 x c e) hc oV aH (aa.pP x c e),hd⟩
 refine⟨aa.ok,aa.os,aX,⟨fun b o e n ag ao=>?_,fun b o e n ag ao=>?_,fun b o e n ao=>?_,fun b o e ao=>?_,fun b xs e=>pa b xs (aa.base.pa b xs e),fun b o xs e=>nq b o xs (aa.base.nq b o xs e),fun b aK e=>?_⟩,?_,fun x c e=>?_,?_,fun x c e=>?_,fun p aY=>?_,aL,aa.len⟩
 .exact keep b o (CJ b o e) ag (CI b o e ao) (aa.base.keep b o e n ag ao) (aa.base.free b o e n ao)
 ·obtain⟨dp,aS⟩:=aa.base.slot b o e n ag ao
  obtain⟨wt,aV⟩:=slot b _ (CJ b o e) ag (CI b o e ao) aS (aa.base.free b o e n ao)
  exact⟨wt,aV⟩
 ·obtain⟨o',aS⟩:=aa.base.there b o e ao
  exact free b o' (CI b o e ao) aS (aa.base.free b o e n ao)
 ·obtain⟨o',aS⟩:=aa.base.there b o e ao
  exact there b o' (CI b o e ao) aS
 ·obtain⟨fj,aS⟩:=aa.base.o9 b aK e
  obtain⟨kD,aV⟩:=o9 b _ aS
  exact⟨fj++kD,by rw[aV,Array.append_assoc]⟩
 ·obtain⟨m,aW,aD⟩:=aa.loc
  refine⟨m,ns m aW,fun i x v aS aV gh=>?_⟩
  obtain⟨u,r,l⟩:=aD i x v aS aV gh
  refine⟨u,r,?_⟩
  rcases l with l|⟨k,c,e,z⟩
  .exact .inl l
  .exact .inr ⟨k,c,e,cellK x c e _ z⟩
 ·obtain⟨v,z⟩:=aa.cell x c e
  exact⟨v,cellK x c e v z⟩
 ·obtain⟨m,⟨o,_,_,aH,_⟩,_⟩:=aa.loc
  exact free _ o (fun z=>(nA _ z).2.1 I) aH aa.free
 ·obtain⟨v,o,aH,hd⟩:=aa.cell x c e
  exact free c o (fun z=>(nA c z).2.2.1 x c e I) aH (aa.pP x c e)
 ·obtain⟨e,n,ne,r7,d⟩:=aa.pin p aY
  have oV:p.1∉ch:=fun z=>(nA p.1 z).2.2.2 p aY rfl
  exact⟨keep p.1 p.2 ne r7 oV e n,free p.1 p.2 oV e n,ne,r7,d⟩
theorem Inv.un(aa:Inv X ar U H s)(u:gR X.fs [] H H' s.heap h')(aL:f3 X.prog X.w H' h'):Inv X ar U H' {s with heap:=h',toks:=t'}:=by
 obtain⟨m,⟨o,es,gu,aH,r⟩,_⟩:=id aa.loc
 obtain⟨dp,hY⟩:=u.any aH aa.free (by simp)
 exact aa.step (g':=s.gens) (d':=s.drawn) (ch:=[]) (fun _ z=>nomatch z) (fun b o _ ag _ e n=>u.keep b o e n ag (by simp)) (fun b o _ ag _ e n=>u.slot b o e n ag (by simp)) (fun b o _ e n=>u.free b o e n (by simp)) (fun b o _ e=>u.there b o e (by simp)) u.pa u.nq u.o9 (fun bY hm=>by
  obtain⟨o',ov,GI,mH,eD⟩:=hm
  rw[aH]at mH;cases mH
  exact⟨_,ov,GI,hY,eD⟩) aL aa.bare
theorem Inv.call(aa:Inv X ar U H s)(u:gR (kf X.stack) ch H H' s.heap h')(aL:f3 X.prog X.w H' h')(aX:AllBare g')
  (nA:∀b∈ch,(b∈X.ex\/X.eE.heap.objs.size<=b)/\b≠X.env.locals/\(∀x c,X.env.cells.lookup x=J c->c≠b)/\∀p∈X.nR++ar,p.1≠b) :
  Inv X ar U H' {s with heap:=h',gens:=g',drawn:=d',toks:=t'}:=by
 obtain⟨m,⟨o,es,gu,aH,r⟩,_⟩:=id aa.loc
 obtain⟨dp,hY⟩:=u.any aH aa.free fun z=>(nA _ z).2.1 rfl
 exact aa.step (ch:=ch) nA (fun b o hY ag hc e n=>u.keep b o e n (fun z=>(c9.mp (aa.ze b z)).elim hY ag) hc) (fun b o _ _ hc e n=>u.any e n hc) (fun b o hc e n=>u.free b o e n hc) (fun b o hc e=>u.there b o e hc) u.pa u.nq u.o9 (fun bY hm=>by
  obtain⟨o',ov,GI,mH,eD⟩:=hm
  rw[aH]at mH;cases mH
  exact⟨_,ov,GI,hY,eD⟩) aL aX
theorem Inv.turned(aa:Inv X ar U H s)(k:∀b o,b≠it->s.heap.get? b=J o->h'.get? b=J o)(aW:H it=aw)(hY:it≠X.env.locals)
  (ai:it∈X.ex\/X.eE.heap.objs.size<=it) (aj:∀x c,X.env.cells.lookup x=J c->c≠it) (bE:∀p∈X.nR++ar,p.1≠it):Inv X ar U H {s with heap:=h',toks:=t'}:=by
 have O0:∀b u,H b=J u->b≠it:=fun b u e z=>by rw[z,aW]at e;cases e
 refine aa.step (g':=s.gens) (d':=s.drawn) (ch:=[it]) (fun b ag=>?_) (fun b o _ _ hc e _=>k b o (fun z=>hc (by simp[z])) e) (fun b o _ _ hc e _=>⟨o.slots,k b o (fun z=>hc (by simp[z])) e⟩) (fun _ _ _ _ n=>n)
  (fun b o hc e=>⟨o,k b o (fun z=>hc (by simp[z])) e⟩) (fun _ _ e=>e) (fun _ _ _ e=>e) (fun b aK e=>⟨#[],by rw[e];simp⟩) (fun m hm=>?_) (fun b u e=>?_) aa.bare
 ·have e:b=it:=by simpa using ag
  subst e
  exact⟨ai,hY,aj,bE⟩
 ·obtain⟨o,es,gu,aH,r⟩:=hm
  exact⟨o,es,gu,k _ o (eF hY) aH,r⟩
 ·refine(aa.aL b u e).sg (fun c v hc q=>k c v ?_ q) (fun _ q=>q) fun _ _ q=>q
  rcases hc with z|z
  .rw[z];exact O0 b u e
  .exact O0 c _ z
theorem Inv.tok(aa:Inv X ar U H s)(t:Nat):Inv X ar U H {s with toks:=t}:=aa.un (h':=s.heap) (t':=t) gR.refl aa.aL
theorem Inv.kept(aa:Inv X ar U H s)(k:∀b u,s.heap.get? b=J u->h'.get? b=J u):Inv X ar U H {s with heap:=h',toks:=t'}:=aa.un (gR.kept k) (aa.aL.kept k)
theorem Inv.laid{o:df}(aa:Inv X ar U H s)(k:∀b u,s.heap.get? b=J u->h'.get? b=J u)(aY:s.heap.objs.size<=a)(new:ih X.prog X.w (upd H a o) h' a o):
  Inv X ar U (upd H a o) {s with heap:=h',toks:=t'}:=aa.un (gR.laid k aY (aa.aL.fresh aY)) (aa.aL.laid k aY new)
theorem Inv.write{x e:af}{o:df}(aa:Inv X ar U H s)(nN:zK (H x))(he:e=x\/H e=J (.own x))(k:∀b u,b≠e->s.heap.get? b=J u->h'.get? b=J u)(vJ:∃u,h'.get? e=J u)
  (new:ih X.prog X.w (upd H x o) h' x o):Inv X ar U (upd H x o) {s with heap:=h',toks:=t'}:=aa.un (gR.write nN he k vJ) (aa.aL.write nN he k vJ new)
theorem Inv.Pf{yX:List (af×bU)}(aa:Inv X ar U H s)(h:∀p∈yX,s.heap.get? p.1=J p.2/\H p.1=aw/\p.1≠X.env.locals/\p.1∉X.fs/\∀v,p.2.data≠.cell v):Inv X yX U H s :=
 ⟨aa.ok,aa.os,aa.bare,aa.base,aa.loc,aa.cell,aa.free,aa.pP,fun p aY=>(List.mem_append.mp aY).elim (fun z=>aa.pin p (List.mem_append_left _ z)) (h p),aa.aL,aa.len⟩
theorem LS(b3:N.Nodup)(a:N[i]?=J x)(b:N[j]?=J x):i=j:=by
 obtain⟨ai,aS⟩:=g5.mp a
 obtain⟨aj,aV⟩:=g5.mp b
 exact(List.getElem_inj b3).mp (aS.trans aV.symm)
theorem K6{v:V}(aa:Inv X ar U H s)(b3:X.N.Nodup)(ay:X.N[i]?=J x)(ao:Loc X.env.scope x)(r:RelV v u)
  (h:∀bl,Inv X ar (U.set i (J v)) H bl->(∃a,bA.SameBut a s.heap bl.heap/\(a=X.env.locals\/X.env.cells.lookup x=J a))->Q () bl) (az:X.fn x=ah\/X.env.scope.names.lookup x=J .local:=by first|exact .inl I|exact .inr I|assumption):bN M A (storeName X.env x u) Q E s:=by
 obtain⟨m,aW,aD⟩:=id aa.loc
 have abO:(X.env.scope.kind ==.class||(X.env.scope.kind ==.module&&X.env.locals != X.env.globals))=aF:=by rw[aa.ok.kind];rfl
 have N8:i<U.length:=by rw[aa.len];exact(g5.mp ay).1
 have s6:=aa.s6
 have tracked:∀{a:af}{h':bA},(∃o,s.heap.get? a=J o/\H a=aw)->bA.SameBut a s.heap h'->f3 X.prog X.w H h':=fun{a h'}aJ hs b ec e=>by
  obtain⟨_,_,ye⟩:=aJ
  refine(aa.aL b ec e).sg (fun c ie hc q=>(hs.2 c ?_).trans q) (fun _ q=>q) fun _ _ q=>q
  rintro rfl
  rcases hc with rfl|hc
  .rw[ye]at e;cases e
  .rw[ye]at hc;cases hc
 rcases ao with hk|hk
 ·refine wpAny_storeName_local hk aW (fun h' kW hs=>?_) abO
  obtain⟨aeJ,_,_,acB,_⟩:=id aW
  refine h _ ⟨aa.ok,aa.os,aa.bare,⟨fun b o e n ag ao=>?_,fun b o e n ag ao=>?_,aa.base.free,fun b o e ao=>?_,aa.base.pa,aa.base.nq,aa.base.o9⟩,⟨_,kW,fun j y hp aS aV gh=>?_⟩,fun y c e=>?_,aa.free,aa.pP,fun p aY=>?_,tracked ⟨aeJ,acB,aa.free⟩ hs,by simpa using aa.len⟩ ⟨_,hs,.inl rfl⟩
  .exact(hs.2 b (g0 (fB (eS e) aa.ok.above))).trans (aa.base.keep b o e n ag ao)
  ·obtain⟨dp,aS⟩:=aa.base.slot b o e n ag ao
   exact⟨dp,(hs.2 b (g0 (fB (eS e) aa.ok.above))).trans aS⟩
  ·obtain⟨o',aS⟩:=aa.base.there b o e ao
   exact⟨o',(hs.2 b (g0 (fB (eS e) aa.ok.above))).trans aS⟩
  ·by_cases b2:j=i
   ·subst b2
    rw[ay]at aS;cases aS
    rw[List.getElem?_set_self N8]at aV
    cases aV
    exact⟨u,r,.inl ⟨hk,by simp⟩⟩
   ·rw[List.getElem?_set_ne (eF b2)]at aV
    obtain⟨u',eD,q⟩:=aD j y hp aS aV gh
    refine⟨u',eD,?_⟩
    rcases q with⟨k,e⟩|⟨k,c,e,z⟩
    ·refine .inl ⟨k,?_⟩
     have:y≠x:=fun e=>b2 (LS b3 aS (e ▸ ay))
     simp[this,e]
    .exact .inr ⟨k,c,e,z.sameBut hs (s6 y c e)⟩
  ·obtain⟨ie,z⟩:=aa.cell y c e
   exact⟨ie,z.sameBut hs (s6 y c e)⟩
  ·obtain⟨e,n,ne,r7,d⟩:=aa.pin p aY
   exact⟨(hs.2 p.1 ne).trans e,n,ne,r7,d⟩
 ·have Cb:X.fn x=ah:=by
   rcases az with z|z
   .exact z
   .rw[z]at hk;cases hk
  obtain⟨c,hc⟩:=aa.ok.has x (.inl hk)
  obtain⟨ie,z⟩:=aa.cell x c hc
  refine wpAny_storeName_cell aa.ok.kind hk hc z (fun h' l5 hs=>?_)
  obtain⟨i7,Ch,HL⟩:=id z
  refine h {s with heap:=h'} ⟨aa.ok,aa.os,aa.bare,⟨fun b o e n ag ao=>?_,fun b o e n ag ao=>?_,aa.base.free,fun b o e ao=>?_,aa.base.pa,aa.base.nq,aa.base.o9⟩,⟨m,aW.sameBut hs (eF (s6 x c hc)),fun j y hp aS aV gh=>?_⟩,fun y h7 e=>?_,aa.free,aa.pP,fun p aY=>?_,tracked ⟨i7,Ch,aa.pP x c hc⟩ hs,by simpa using aa.len⟩ ⟨c,hs,.inr hc⟩
  .exact(hs.2 b (g0 (fB (eS e) (aa.ok.xN x c Cb hc)))).trans (aa.base.keep b o e n ag ao)
  ·obtain⟨dp,aS⟩:=aa.base.slot b o e n ag ao
   exact⟨dp,(hs.2 b (g0 (fB (eS e) (aa.ok.xN x c Cb hc)))).trans aS⟩
  ·obtain⟨o',aS⟩:=aa.base.there b o e ao
   exact⟨o',(hs.2 b (g0 (fB (eS e) (aa.ok.xN x c Cb hc)))).trans aS⟩
  ·by_cases b2:j=i
   ·subst b2
    rw[ay]at aS;cases aS
    rw[List.getElem?_set_self N8]at aV
    cases aV
    exact⟨u,r,.inr ⟨.inl hk,c,hc,l5⟩⟩
   ·rw[List.getElem?_set_ne (eF b2)]at aV
    obtain⟨u',eD,q⟩:=aD j y hp aS aV gh
    refine⟨u',eD,?_⟩
    rcases q with q|⟨k,h7,e,pd⟩
    .exact .inl q
    ·refine .inr ⟨k,h7,e,pd.sameBut hs ?_⟩
     rintro rfl
     exact b2 (LS b3 aS (aa.ok.inj _ _ _ e hc ▸ ay))
  ·by_cases B5:h7=c
   .subst B5;exact⟨_,l5⟩
   ·obtain⟨k7,cL⟩:=aa.cell y h7 e
    exact⟨k7,cL.sameBut hs B5⟩
  ·obtain⟨e,n,ne,r7,d⟩:=aa.pin p aY
   refine⟨(hs.2 p.1 ?_).trans e,n,ne,r7,d⟩
   intro q
   rw[q,Ch]at e
   have jH:i7=p.2:=e8 e
   exact d ie (by rw[<-jH];exact HL)
theorem LL{v:V}(aa:Inv X ar U H s)(b3:X.N.Nodup)(ay:X.N[i]?=J x)(ao:Loc X.env.scope x)(r:RelV v u)
  (h:∀bl,Inv X ar (U.set i (J v)) H bl->Q () bl) (az:X.fn x=ah\/X.env.scope.names.lookup x=J .local:=by first|exact .inl I|exact .inr I|assumption):bN M A (storeName X.env x u) Q E s :=
 K6 aa b3 ay ao r (fun bl h3 _=>h bl h3) az
theorem Inv.Gp(aa:Inv X ar U H s)(aH:bl.os=s.os)(u:gR (kf X.stack) ch H H' s.heap bl.heap)(aL:f3 X.prog X.w H' bl.heap)(aX:AllBare bl.gens)
  (nA:∀b∈ch,(b∈X.ex\/X.eE.heap.objs.size<=b)/\b≠X.env.locals/\(∀x c,X.env.cells.lookup x=J c->c≠b)/\∀p∈X.nR++ar,p.1≠b):Inv X ar U H' bl:=by
 obtain⟨h',g',d',t',o'⟩:=bl
 have e:o'=s.os:=aH
 subst e
 exact aa.call (g':=g') (t':=t') (d':=d') u aL aX nA
end
noncomputable abbrev cN:=au->Option af->aq->Prop
noncomputable abbrev St:=List (Option V)
noncomputable abbrev bJ:=V->aq->Prop
noncomputable abbrev TE:=St->aq->bJ->Prop
noncomputable abbrev gQ:=St->aq->(Bool->aq->Prop)->Prop
noncomputable abbrev h4:=St->aq->(List V->aq->Prop)->Prop
structure Ends where
 nx:St->aq->Prop
 rt:bJ
 bk:St->aq->Prop:=fun _ _=>False
 ct:St->aq->Prop:=fun _ _=>False
noncomputable abbrev e1:=Ends->St->aq->Prop
def iA(X:bS)(ar:List (af×bU))(U:St)(Q:bJ)(u:au)(bl:aO):Prop:=∃v H',Inv X ar U H' bl/\RelV v u/\Q v H'
def z5(X:bS)(ar:List (af×bU))(U:St)(Q:Bool->aq->Prop)(b:Bool)(bl:aO):Prop:=∃H',Inv X ar U H' bl/\Q b H'
def Rp(X:bS)(ar:List (af×bU))(U:St)(Q:List V->aq->Prop)(us:List au)(bl:aO):Prop:=∃vs H',Inv X ar U H' bl/\Vals vs us/\Q vs H'
def uW(X:bS)(ar:List (af×bU))(D:Ends)(f:Flow)(bl:aO):Prop :=
 match f with
 |.next=>∃cg H',Inv X ar cg H' bl/\D.nx cg H'
 |.brk=>∃cg H',Inv X ar cg H' bl/\D.bk cg H'
 |.cont=>∃cg H',Inv X ar cg H' bl/\D.ct cg H'
 |.ret u=>∃v cg H',Inv X ar cg H' bl/\RelV v u/\D.rt v H'
def cz(X:bS)(e:cO)(t:TE):Prop :=
 ∀(ar:List (af×bU))(s:aO)(U:St)(H:aq)(Q:bJ),Inv X ar U H s->t U H Q->bN (model X.prog X.w) X.A (eval e X.env) (iA X ar U Q) X.xe s
def kM(X:bS)(e:cO)(t:gQ):Prop :=
 ∀(ar:List (af×bU))(s:aO)(U:St)(H:aq)(Q:Bool->aq->Prop),Inv X ar U H s->t U H Q->bN (model X.prog X.w) X.A (isTrue e X.env (eval e X.env)) (z5 X ar U Q) X.xe s
def gc(X:bS)(e:cO)(t:gQ):Prop :=
 ∀(whole:Sem au)(ar:List (af×bU))(s:aO)(U:St)(H:aq)(Q:Bool->aq->Prop),Inv X ar U H s->t U H Q->bN (model X.prog X.w) X.A (isTrue e X.env whole) (z5 X ar U Q) X.xe s
variable {X:bS}
theorem gc.pt{t:gQ}(h:gc X e t):kM X e t:=h _
def iQ(X:bS)(es:List cO)(t:h4):Prop :=
 ∀(aZ:Pos)(ar:List (af×bU))(s:aO)(U:St)(H:aq)(Q:List V->aq->Prop),Inv X ar U H s->t U H Q->bN (model X.prog X.w) X.A (spliced (backTo aZ (ek es X.env))) (Rp X ar U Q) X.xe s
def lr(X:bS)(st:bD)(t:e1):Prop :=
 ∀(ar:List (af×bU))(s:aO)(U:St)(H:aq)(D:Ends),Inv X ar U H s->t D U H->bN (model X.prog X.w) X.A (exec st X.env) (uW X ar D) X.xe s
def jx(X:bS)(st:List bD)(t:e1):Prop :=
 ∀(ar:List (af×bU))(s:aO)(U:St)(H:aq)(D:Ends),Inv X ar U H s->t D U H->bN (model X.prog X.w) X.A (execs st X.env) (uW X ar D) X.xe s
variable {s:aO}
theorem dm{t:Sem α}{Q qj:α->aO->Prop}(h:bN M A t Q E s)(gq:∀a s,Q a s->qj a s):bN M A t qj E s:=mY h gq fun _ _ x=>x
variable {c:cO}
section
variable {X:bS}
inductive J3(o:Option (Option V))(Q:V->Prop):Prop where
 |mk (v:V) (e:o=J (J v)) (h:Q v):J3 o Q
def o8(i:Nat):TE:=fun U H Q=>J3 U[i]? fun v=>Q v H
def lK(v:V):TE:=fun _ H Q=>Q v H
theorem Uq(b3:X.N[i]?=J x)(br:z9 X.env.scope x)(hd:(x == ("__debug__":ae))=aF:=by decide)(oH:(x == ("__classdict__":ae))=aF:=by decide):cz X (.Name x aZ) (o8 i):=by
 intro ar s U H Q aa h
 obtain⟨v,e,h⟩:=h
 obtain⟨m,aW,aD⟩:=aa.loc
 obtain⟨u,r,l⟩:=aD i x v b3 e br
 have ck:iA X ar U Q u s:=⟨v,H,aa,r,h⟩
 rcases l with⟨hk,hm⟩|⟨hk,c,hc,NR⟩
 .exact wpAny_Name (wpAny_loadName_local aa.ok.kind hk aW hm ck) hd
 ·rcases hk with hk|hk
  .exact wpAny_Name (wpAny_loadName_cell aa.ok.kind hk hc NR ck) hd
  .exact wpAny_Name (wpAny_loadName_free aa.ok.kind hk hc NR ck oH) hd
theorem aC{i j aZ}:cz X (.Constant (.int i) j aZ) (lK (.int i)):=fun _ _ _ H _ aa h=>wpAny_Constant_int ⟨.int i,H,aa.tok _,⟨_,rfl⟩,h⟩
theorem jO{b j aZ}:cz X (.Constant (.bool b) j aZ) (lK (.aQ b)):=fun _ _ _ H _ aa h=>Constant_bool ⟨.aQ b,H,aa,rfl,h⟩
theorem qv{j aZ}:cz X (.Constant .none j aZ) (lK .aT):=fun _ _ _ H _ aa h=>Constant_none ⟨.aT,H,aa,rfl,h⟩
theorem cT{x j aZ}:cz X (.Constant (.str x) j aZ) (lK (.str x)):=fun _ _ _ H _ aa h=>Calls.Constant_str ⟨.str x,H,aa.tok _,⟨_,rfl⟩,h⟩
def jr(X:bS)(x:ae):Prop:=X.env.kindOf x=J .globalImplicit
theorem Bf{U:St}{Q:au->aO->Prop}(aa:Inv X ar U H s)(aX:jr X x)(hm:X.mg x=J u)(h:Q u s)
  (hd:(x == ("__debug__":ae))=aF:=by decide):bN (model X.prog X.w) X.A (eval (.Name x aZ) X.env) Q E s :=
 Calls.Name_function_global aa.ok.kind aX (Calls.loadGlobal_global (by rw[aa.ok.glob];exact aa.mod.glob.keeps aa.bk) hm h) hd
theorem ot{U:St}{Q:au->aO->Prop}(aa:Inv X ar U H s)(aX:jr X x)(hm:X.mg x=aw)(br:kp x=J u)(h:Q u s)
  (aW:x≠"__name__":=by decide) (hd:(x == ("__debug__":ae))=aF:=by decide):bN (model X.prog X.w) X.A (eval (.Name x aZ) X.env) Q E s:=by
 obtain⟨nL,ai,aj⟩:=aa.mod.blt
 exact Calls.Name_function_global aa.ok.kind aX (Calls.loadGlobal_builtin (by rw[aa.ok.glob];exact aa.mod.glob.keeps aa.bk) hm (by rw[aa.ok.blt];exact ai.keeps aa.bk) ((aj x aW).trans br) h) hd
theorem Tv{v:V}(aX:jr X x)(hm:X.mg x=J u)(r:RelV v u)(hd:(x == ("__debug__":ae))=aF:=by decide):cz X (.Name x aZ) (lK v) :=
 fun _ _ _ H _ aa h=>Bf aa aX hm ⟨v,H,aa,r,h⟩ hd
theorem iX{v:V}(aX:jr X x)(hm:X.mg x=aw)(br:kp x=J u)(r:RelV v u)(aW:x≠"__name__":=by decide)(hd:(x == ("__debug__":ae))=aF:=by decide):cz X (.Name x aZ) (lK v) :=
 fun _ _ _ H _ aa h=>ot aa aX hm br ⟨v,H,aa,r,h⟩ aW hd
variable {a b:cO} {cH dO:TE} {aZ:Pos}
def So(X:bS)(op:CmpOp)(a b:cO)(t:TE):Prop :=
 ∀(ar:List (af×bU))(s:aO)(U:St)(H:aq)(Q:bJ),Inv X ar U H s->t U H Q->
  bN (model X.prog X.w) X.A (eval a X.env) (fun v eg=>bN (model X.prog X.w) X.A (eval b X.env) (fun u nU=>bN (model X.prog X.w) X.A (gW op v u) (iA X ar U Q) X.xe nU) X.xe eg) X.xe s
def o7(t:TE):gQ:=fun U H Q=>t U H fun x H1=>∃c,x=.aQ c/\Q c H1
variable {nV Dc:gQ} {rest:List cO}
def ahu(t u:gQ):gQ:=fun U H Q=>t U H fun c H1=>if c=ah then u U H1 Q else Q aF H1
def Ja(t u:gQ):gQ:=fun U H Q=>t U H fun c H1=>if c=ah then Q ah H1 else u U H1 Q
def ahI(t:gQ):gQ:=fun U H Q=>t U H fun c H1=>Q (!c) H1
theorem od(aJ:kM X a nV):gc X (.BoolOp .And [a] aZ) nV:=by
 intro jq ar s U H Q aa h
 refine isTrue_and (dm (aJ ar s U H Q aa h) fun c s1 e=>?_)
 cases c with
 |true=>exact isTrue_and_nil e
 |false=>exact e
theorem lq(aJ:kM X a nV):gc X (.BoolOp .Or [a] aZ) nV:=by
 intro jq ar s U H Q aa h
 refine isTrue_or (dm (aJ ar s U H Q aa h) fun c s1 e=>?_)
 cases c with
 |false=>exact isTrue_or_nil e
 |true=>exact e
theorem oq(aJ:kM X a nV)(ag:gc X (.BoolOp .And (b::rest) aZ) Dc):gc X (.BoolOp .And (a::b::rest) aZ) (ahu nV Dc):=by
 intro jq ar s U H Q aa h
 refine isTrue_and (dm (aJ ar s U H _ aa h) fun c s1 b4=>?_)
 obtain⟨H1,bC,cu⟩:=b4
 cases c with
 |true=>exact ag jq ar s1 U H1 Q bC cu
 |false=>exact⟨H1,bC,cu⟩
theorem j6(aJ:kM X a nV)(ag:gc X (.BoolOp .Or (b::rest) aZ) Dc):gc X (.BoolOp .Or (a::b::rest) aZ) (Ja nV Dc):=by
 intro jq ar s U H Q aa h
 refine isTrue_or (dm (aJ ar s U H _ aa h) fun c s1 b4=>?_)
 obtain⟨H1,bC,cu⟩:=b4
 cases c with
 |true=>exact⟨H1,bC,cu⟩
 |false=>exact ag jq ar s1 U H1 Q bC cu
theorem jP(aJ:kM X a nV):kM X (.UnaryOp .Not a aZ) (ahI nV):=by
 intro ar s U H Q aa h
 exact isTrue_not (aJ ar s U H (fun c H1=>Q (!c) H1) aa h)
def ahv(cH dO:TE):TE:=fun U H Q=>cH U H fun x H1=>∃c,x=.aQ c/\if c=ah then dO U H1 Q else Q (.aQ aF) H1
def ahJ(cH dO:TE):TE:=fun U H Q=>cH U H fun x H1=>∃c,x=.aQ c/\if c=ah then Q (.aQ ah) H1 else dO U H1 Q
theorem jQ{op}{t:TE}(h:cz X a t):cz X (.BoolOp op [a] aZ) t:=fun ar s U H Q aa hw=>BoolOp_one (h ar s U H Q aa hw)
theorem jg(aJ:cz X a cH)(ag:cz X (.BoolOp .And (b::rest) aZ) dO):cz X (.BoolOp .And (a::b::rest) aZ) (ahv cH dO):=by
 intro ar s U H Q aa h
 refine BoolOp_and (dm (aJ ar s U H _ aa h) fun v s1 b4=>?_)
 obtain⟨x,H1,bC,cv,cu⟩:=b4
 obtain⟨c,rfl,cu⟩:=cu
 cases cv
 refine zp ?_
 cases c with
 |true=>exact ag ar s1 U H1 Q bC cu
 |false=>exact⟨.aQ aF,H1,bC,I,cu⟩
theorem Bp(aJ:cz X a cH)(ag:cz X (.BoolOp .Or (b::rest) aZ) dO):cz X (.BoolOp .Or (a::b::rest) aZ) (ahJ cH dO):=by
 intro ar s U H Q aa h
 refine BoolOp_or (dm (aJ ar s U H _ aa h) fun v s1 b4=>?_)
 obtain⟨x,H1,bC,cv,cu⟩:=b4
 obtain⟨c,rfl,cu⟩:=cu
 cases cv
 refine zp ?_
 cases c with
 |false=>exact ag ar s1 U H1 Q bC cu
 |true=>exact⟨.aQ ah,H1,bC,I,cu⟩
def ahC(t:gQ)(cH dO:TE):TE:=fun U H Q=>t U H fun c H1=>if c=ah then cH U H1 Q else dO U H1 Q
theorem lU(hc:kM X c nV)(aJ:cz X a cH)(ag:cz X b dO):cz X (.IfExp c a b aZ) (ahC nV cH dO):=by
 intro ar s U H Q aa h
 refine wpAny_IfExp (dm (hc ar s U H _ aa h) fun d s1 b4=>?_)
 obtain⟨H1,bC,cu⟩:=b4
 cases d with
 |true=>exact aJ ar s1 U H1 Q bC cu
 |false=>exact ag ar s1 U H1 Q bC cu
end
def cK(K:bM)(H:aq)(a:af)(xs:List V):Prop :=
 z1 H a (.lst xs)\/
  ∃(o:bU)(bt:Array au)(n:Nat),K.lookup a=J o/\o.cls=.type "list"/\o.dict=aw/\o.data=.seq bt n/\bt.size<=cj/\Vals xs bt.toList
def gd(K:bM)(H:aq)(a:af)(xs:List V):Prop :=
 z1 H a (.tup xs)\/
  ∃(o:bU)(bt:Array au)(n:Nat),K.lookup a=J o/\o.cls=.type "tuple"/\o.data=.seq bt n/\bt.size<=cj/\Vals xs bt.toList
noncomputable def ZE:au->Option V
 |.none=>J .aT
 |.bool b=>J (.aQ b)
 |.int i _=>J (.int i)
 |.str x _=>J (.str x)
 |.bytes b _=>J (.kS b)
 |.float b _=>J (.te b)
 |.ref a=>J (.ref a)
 |.type n=>J (.ty n)
 |_=>aw
theorem RelV.abs{x:V}(r:RelV x u):ZE u=J x:=by
 cases x with
 |aT=>cases r;rfl
 |aQ _=>cases r;rfl
 |int _=>obtain⟨t,rfl⟩:=r;rfl
 |str _=>obtain⟨t,rfl⟩:=r;rfl
 |kS _=>obtain⟨t,rfl⟩:=r;rfl
 |te _=>obtain⟨t,rfl⟩:=r;rfl
 |ref _=>cases r;rfl
 |ty _=>cases r;rfl
variable {y:V}
theorem RelV.inj{x:V}(r:RelV x u)(q:RelV y u):x=y:=e8 (r.abs.symm.trans q.abs)
theorem Vals.inj:∀{xs aA:List V}{us:List au},Vals xs us->Vals aA us->xs=aA
 |_,_,_,.nil,.nil=>rfl
 |_,_,_,.cons r t,.cons eD t'=>by rw[r.inj eD,Vals.inj t t']
section
variable {X:bS} {ar:List (af×bU)} {U:St} {H:aq} {s:aO} {a:af} {xs aA:List V}
theorem cK.of(h:H a=J (.lst xs)):cK K H a xs :=.inl (.inl h)
theorem gd.of(h:H a=J (.tup xs)):gd K H a xs :=.inl (.inl h)
theorem Inv.list(aa:Inv X ar U H s)(h:cK X.K H a xs):∃bt:List au,Vals xs bt/\PlainL s.heap a bt.toArray/\xs.length<=cj:=by
 rcases h with h|⟨o,bt,n,hk,hc,hd,hs,bz,r⟩
 ·obtain⟨z,bt,n,r,e⟩:=h.ok aa.aL
  exact⟨bt,r,⟨_,n,e,I,I,I⟩,z⟩
 ·refine⟨bt.toList,r,⟨o,n,aa.hB a o hk,hc,hd,by simpa using hs⟩,?_⟩
  have e:=r.length
  simp only[iB]at e
  omega
theorem Inv.tuple(aa:Inv X ar U H s)(h:gd X.K H a xs):∃bt:List au,Vals xs bt/\IsTup s.heap a bt.toArray/\xs.length<=cj:=by
 rcases h with h|⟨o,bt,n,hk,hc,hs,bz,r⟩
 ·obtain⟨z,bt,r,p⟩:=h.ok aa.aL
  exact⟨bt,r,p,z⟩
 ·refine⟨bt.toList,r,⟨o,aa.hB a o hk,hc,n,by simpa using hs⟩,?_⟩
  have e:=r.length
  simp only[iB]at e
  omega
theorem Inv.adL(aa:Inv X ar U H s)(h:cK X.K H a xs)(h':cK X.K H a aA):xs=aA:=by
 obtain⟨bt,r,⟨o,n,e,_,_,d⟩,_⟩:=aa.list h
 obtain⟨its',eD,⟨o',n',e',_,_,d'⟩,_⟩:=aa.list h'
 rw[e]at e';cases e'
 rw[d]at d'
 injection d' with hj _
 have:bt=its':=by simpa using congrArg Array.toList hj
 subst this
 exact r.inj eD
end
noncomputable abbrev bS.pb(X:bS)(E:au->aO->Prop):bS:={X with xe:=E}
noncomputable abbrev bS.r8(X:bS):bS:=X.pb fun _ _=>False
theorem bS.Ok.pb(ok:X.Ok)(E:au->aO->Prop):(X.pb E).Ok :=
 ⟨ok.mod,ok.kind,ok.glob,ok.blt,ok.above,ok.inj,ok.has,ok.xN,ok.hd,ok.frames,ok.C9,ok.Nc,ok.bs,ok.qw,ok.yP,ok.BM,ok.nr,ok.tf⟩
theorem bS.Ok.sh(ok:(X.pb E).Ok):X.Ok :=
 ⟨ok.mod,ok.kind,ok.glob,ok.blt,ok.above,ok.inj,ok.has,ok.xN,ok.hd,ok.frames,ok.C9,ok.Nc,ok.bs,ok.qw,ok.yP,ok.BM,ok.nr,ok.tf⟩
section
variable {X:bS} {ar:List (af×bU)} {U:St} {H:aq} {s:aO} {E:au->aO->Prop}
theorem Inv.pb(aa:Inv X ar U H s)(E:au->aO->Prop):Inv (X.pb E) ar U H s:=⟨aa.ok.pb E,aa.os,aa.bare,aa.base,aa.loc,aa.cell,aa.free,aa.pP,aa.pin,aa.aL,aa.len⟩
theorem Inv.sh(aa:Inv (X.pb E) ar U H s):Inv X ar U H s:=⟨aa.ok.sh,aa.os,aa.bare,aa.base,aa.loc,aa.cell,aa.free,aa.pP,aa.pin,aa.aL,aa.len⟩
theorem uW.sh{D:Ends}{f:Flow}(h:uW (X.pb E) ar D f bl):uW X ar D f bl:=by
 cases f with
 |next=>obtain⟨cg,H',aa,q⟩:=h;exact⟨cg,H',aa.sh,q⟩
 |brk=>obtain⟨cg,H',aa,q⟩:=h;exact⟨cg,H',aa.sh,q⟩
 |cont=>obtain⟨cg,H',aa,q⟩:=h;exact⟨cg,H',aa.sh,q⟩
 |ret u=>obtain⟨v,cg,H',aa,r,q⟩:=h;exact⟨v,cg,H',aa.sh,r,q⟩
theorem jx.r8{st:List bD}{t:e1}(h:jx X.r8 st t):jx X st t:=fun ar s U H D aa hw =>
 mY (h ar s U H D (aa.pb _) hw) (fun _ _ q=>q.sh) fun _ _ z=>False.elim z
end
section
variable {X:bS} {st:bD} {rest:List bD} {t u:e1} {e:cO} {cI:TE} {aZ:Pos}
def wD:e1:=fun D U H=>D.nx U H
def kH(t u:e1):e1:=fun D U H=>t {D with nx:=u D} U H
theorem cF:jx X [] wD:=fun _ _ U H _ aa h=>wpAny_execs_nil ⟨U,H,aa,h⟩
theorem aI(ai:lr X st t)(aj:jx X rest u):jx X (st::rest) (kH t u):=by
 intro ar s U H D aa h
 refine wpAny_execs_cons (dm (ai ar s U H {D with nx:=u D} aa h) fun f s1 q=>?_)
 cases f with
 |next =>
  obtain⟨cg,H',h3,q⟩:=q
  exact aj ar s1 cg H' D h3 q
 |ret v=>exact q
 |brk=>exact q
 |cont=>exact q
theorem aR(ai:lr X st t):jx X [st] t:=by
 intro ar s U H D aa h
 refine wpAny_execs_cons (dm (ai ar s U H D aa h) fun f s1 q=>?_)
 cases f with
 |next=>exact wpAny_execs_nil q
 |ret v=>exact q
 |brk=>exact q
 |cont=>exact q
theorem Inv.quiet{U:St}(aa:Inv X ar U H s):interactive X.env=aF:=by simp[interactive,aa.ok.kind]
def ahz(cI:TE):e1:=fun D U H=>cI U H fun _ H1=>D.nx U H1
theorem iW(he:cz X e cI)(hs:swapsWith e aw aZ.line X.env=pure aF:=by rfl):lr X (.Expr e aZ) (ahz cI):=by
 intro ar s U H D aa h
 refine wpAny_Expr_any (dm (he ar s U H _ aa h) fun v s1 b4=>?_) aa.quiet hs
 obtain⟨x,H1,bC,cv,cu⟩:=b4
 exact ⟨U,H1,bC,cu⟩
def ahL(cI:TE):e1:=fun D U H=>cI U H D.rt
theorem bB(he:cz X e cI):lr X (.Return (J e) aZ) (ahL cI):=by
 intro ar s U H D aa h
 refine wpAny_Return_some (dm (he ar s U H _ aa h) fun v s1 b4=>?_)
 obtain⟨x,H1,bC,cv,cu⟩:=b4
 exact ⟨x,U,H1,bC,cv,cu⟩
def wC(c:gQ)(t u:e1):e1:=fun D U H=>c U H fun b H1=>if b=ah then t D U H1 else u D U H1
theorem cE{a b:List bD}{gb:gQ}(hc:kM X c gb)(aJ:jx X a t)(ag:jx X b u):lr X (.If c a b aZ) (wC gb t u):=by
 intro ar s U H D aa h
 refine wpAny_If (dm (hc ar s U H _ aa h) fun d s1 b4=>?_)
 obtain⟨H1,bC,cu⟩:=b4
 cases d with
 |true=>exact aJ ar s1 U H1 D bC cu
 |false=>exact ag ar s1 U H1 D bC cu
def ahG:e1:=fun _ _ _=>False
theorem lz:lr X st ahG:=fun _ _ _ _ _ _ h=>h.elim
end
noncomputable abbrev gC:=V->St->aq->(St->aq->Prop)->Prop
noncomputable abbrev sJ:=List V->St->aq->(St->aq->Prop)->Prop
def qi(X:bS)(jc:cO)(t:gC):Prop :=
 ∀(ar:List (af×bU))(s:aO)(U:St)(H:aq)(v:V)(u:au)(Q:St->aq->Prop),Inv X ar U H s->RelV v u->t v U H Q->
  bN (model X.prog X.w) X.A (assign jc X.env u) (fun _ bl=>∃cg H',Inv X ar cg H' bl/\Q cg H') X.xe s
def xf(X:bS)(jK:List cO)(t:sJ):Prop :=
 ∀(ar:List (af×bU))(s:aO)(U:St)(H:aq)(vs:List V)(us:List au)(Q:St->aq->Prop),Inv X ar U H s->Vals vs us->t vs U H Q->
  bN (model X.prog X.w) X.A (assignInOrder ((assignEach jK X.env).map (·.2)) us) (fun _ bl=>∃cg H',Inv X ar cg H' bl/\Q cg H') X.xe s
variable {es:List cO}
section
variable {X:bS} {aZ:Pos}
def vu(i:Nat):gC:=fun v U H Q=>Q (U.set i (J v)) H
theorem d7(b3:X.N.Nodup)(ay:X.N[i]?=J x:=by rfl)(ao:Loc X.env.scope x:=by first|exact Or.inl I|exact Or.inr I)(az:X.fn x=ah\/X.env.scope.names.lookup x=J .local:=by first|exact .inl I|exact .inr I|assumption):qi X (.Name x aZ) (vu i):=by
 intro ar s U H v u Q aa r h
 exact wpAny_assign_Name (LL aa b3 ay ao r (fun bl h3=>⟨_,H,h3,h⟩) az)
noncomputable def abh:sJ:=fun vs U H Q=>vs=[]/\Q U H
noncomputable def abg(t:gC)(u:sJ):sJ:=fun vs U H Q=>∃v r,vs=v::r/\t v U H fun cg H'=>u r cg H' Q
theorem px:xf X [] abh:=by
 intro ar s U H vs us Q aa r h
 obtain⟨e,h⟩:=h
 subst e
 cases r
 exact assignInOrder_nil ⟨U,H,aa,h⟩
theorem jB{t:gC}{u:sJ}(ai:qi X e t)(aj:xf X es u)
  (hs:(assignEach (e::es) X.env).map (·.2)=assign e X.env::(assignEach es X.env).map (·.2):=by rfl):xf X (e::es) (abg t u):=by
 intro ar s U H vs us Q aa r h
 obtain⟨v,aj6,aS,h⟩:=h
 subst aS
 cases r with
 |cons r jY =>
  rw[hs]
  refine assignInOrder_cons (dm (ai ar s U H _ _ _ aa r h) fun _ s1 b4=>?_)
  obtain⟨bL,H1,bC,cu⟩:=b4
  exact aj ar s1 bL H1 _ _ Q bC jY cu
def abi(K:bM)(n:Nat)(t:sJ):gC:=fun v U H Q=>∃a xs,v=.ref a/\gd K H a xs/\xs.length=n/\t xs U H Q
theorem pI{t:sJ}(hc:X.calm=ah)(h:xf X es t)
  (aW:(assignEach es X.env).length=n:=by rfl) (qP:(assignEach es X.env).findIdx? (·.1)=aw:=by rfl):qi X (.Tuple es k aZ) (abi X.K n t):=by
 intro ar s U H v u Q aa r hw
 obtain⟨a,xs,aS,bj,aD,hw⟩:=hw
 subst aS
 cases r
 obtain⟨bt,d0,aM,bz⟩:=aa.tuple bj
 refine assign_Tuple_tuple (aa.ok.hd hc) aM (by simp[aW,<-aD,d0.length]) qP fun h' ao=>?_
 have bC:Inv X ar U H {s with heap:=h'}:=aa.kept (t':=s.toks) fun b o e=>ao b o (g0 (eS e)) e
 exact h ar _ U H xs _ Q bC (by simpa using d0) hw
def wB(cI:TE)(g:gC):e1:=fun D U H=>cI U H fun x H1=>g x U H1 D.nx
theorem Ul{cI:TE}{g:gC}(he:cz X e cI)(aX:qi X eP g)(hs:swapsWithSole [eP] e aZ.line X.env=pure aF:=by rfl)(hw:swappedStores [eP] e X.env=pure aw:=by rfl)
  (ai:(assignEach [eP] X.env).map (·.2)=[assign eP X.env]:=by rfl):lr X (.Assign [eP] e aZ) (wB cI g):=by
 intro ar s U H D aa h
 refine wpAny_Assign_stores (dm (he ar s U H _ aa h) fun v s1 b4=>?_) hs hw
 obtain⟨x,H1,bC,cv,cu⟩:=b4
 rw[ai]
 exact dm (aX ar s1 U H1 x v _ bC cv cu) fun _ s2 q=>q
theorem Uk{cI:TE}(b3:X.N.Nodup)(ay:X.N[i]?=J x)(ao:Loc X.env.scope x)(he:cz X e cI)(hs:swapsWith e (J (.Name x pos')) aZ.line X.env=pure aF:=by rfl)(az:X.fn x=ah\/X.env.scope.names.lookup x=J .local:=by first|exact .inl I|exact .inr I|assumption):
  lr X (.Assign [.Name x pos'] e aZ) (wB cI (vu i)):=by
 intro ar s U H D aa h
 refine wpAny_Assign_Name (dm (he ar s U H _ aa h) fun v s1 b4=>?_) hs
 obtain⟨y,H1,bC,cv,cu⟩:=b4
 exact LL bC b3 ay ao cv (fun s2 cJ=>⟨_,H1,cJ,cu⟩) az
end
section
variable {X:bS} {aZ:Pos}
def ahP(c:gQ)(dO:e1):e1:=fun D U H=>∃W:Nat->St->aq->Prop,(∃m,W m U H)/\∀m U H,W m U H->
 c U H fun b H1=>if b=ah then ∃N:St->aq->Prop,(∀cg H',N cg H'->∃bY,bY<m/\W bY cg H')/\dO {D with nx:=N,ct:=N,bk:=D.nx} U H1 else D.nx U H1
theorem ro{gb:gQ}{dO:e1}(aY:h2 (model X.prog X.w) X.A X.env X.xe)(hc:kM X c gb)(ag:jx X body dO):lr X (.While c body [] aZ) (ahP gb dO):=by
 intro ar s U H D aa h
 obtain⟨W,⟨m0,hD⟩,turn⟩:=h
 refine wpAny_While (codeAny_whileLoop (fun n bl=>∃cg H',Inv X ar cg H' bl/\W n cg H') ?_ m0 ⟨U,H,aa,hD⟩)
 rintro n s1 ⟨bL,H1,bC,Jm⟩
 refine uv aY (dm (hc ar s1 bL H1 _ bC (turn n bL H1 Jm)) fun b s2 b4=>?_)
 obtain⟨av,cJ,bX⟩:=b4
 cases b with
 | true =>
  obtain⟨N,b3,bX⟩:=bX
  rw[if_pos rfl]
  refine uv aY (dm (ag ar s2 bL av _ cJ bX) fun f iM fS=>?_)
  cases f with
  |next =>
   obtain⟨k9,bQ,jM,CB⟩:=fS
   obtain⟨bY,hm,ue⟩:=b3 k9 bQ CB
   exact⟨bY,hm,k9,bQ,jM,ue⟩
  |cont =>
   obtain⟨k9,bQ,jM,CB⟩:=fS
   obtain⟨bY,hm,ue⟩:=b3 k9 bQ CB
   exact⟨bY,hm,k9,bQ,jM,ue⟩
  |brk=>exact fS
  |ret v=>exact fS
 |false =>
  rw[if_neg hS]
  exact wpAny_execs_nil ⟨bL,av,cJ,bX⟩
end
structure kr where
 go:Nat->aq->Prop
 p0:Nat->aq->V->aq->Prop
 stop:Nat->aq->Prop
def qa(X:bS)(ar:List (af×bU))(H:aq)(b:af):Prop :=
 H b=aw/\b≠X.env.locals/\b∉X.fs/\(b∈X.ex\/X.eE.heap.objs.size<=b)/\(∀x c,X.env.cells.lookup x=J c->c≠b)/\∀p∈X.nR++ar,p.1≠b
theorem Inv.pO{U:St}{H':aq}{b:af}(aa:Inv X ar U H s)(ag:s.heap.objs.size<=b)(aW:H' b=aw):qa X ar H' b:=by
 refine⟨aW,Nat.ne_of_gt (fB aa.lt ag),aa.aeB ag,.inr (dE aa.dD ag),fun x c e z=>?_,fun p aY z=>?_⟩
 ·obtain⟨v,q⟩:=aa.cell x c e
  exact absurd (fB q.lt (by rw[z];exact ag)) (Nat.lt_irrefl _)
 .exact absurd (fB (eS (aa.pin p aY).1) (by rw[z];exact ag)) (Nat.lt_irrefl _)
structure Turn(P:dA)(w:cZ)(K:bM)(eP:cO)(el:kr)(b7:List af)(it:af)(iN:Nat->bA->Prop):Prop where
 mem:it∈b7
 obj:∀i h,iN i h->∀b∈b7,∃o,h.get? b=J o/\∀v,o.data≠.cell v
 keep:∀i h h',iN i h->(∀b∈b7,∀o,h.get? b=J o->h'.get? b=J o)->iN i h'
 item:∀(X:bS),X.prog=P->X.w=w->X.K=K->X.calm=ah->∀(i:Nat)(ar:List (af×bU))(s:aO)(U:St)(H:aq)(E:au->aO->Prop),Inv X ar U H s->(∀b∈b7,qa X ar H b)->iN i s.heap->el.go i H->
  bN (model P w) X.A (pyNext (.ref it)) (fun r s1=>∃u,r=J u/\
   bN (model P w) X.A (letOwnedTupleGo eP (.ref it) u) (fun _ s2=>∃x H',Inv X ar U H' s2/\RelV x u/\el.p0 i H x H'/\iN (i+1) s2.heap/\∀b∈b7,H' b=aw) E s1) E s
 done:∀(X:bS),X.prog=P->X.w=w->X.K=K->X.calm=ah->∀(i:Nat)(ar:List (af×bU))(s:aO)(U:St)(H:aq)(E:au->aO->Prop),Inv X ar U H s->(∀b∈b7,qa X ar H b)->iN i s.heap->el.stop i H->
  bN (model P w) X.A (pyNext (.ref it)) (fun r s1=>r=aw/\Inv X ar U H s1) E s
 self:∀(A:dF)(i:Nat)(s:aO)(Q:au->aO->Prop)(E:au->aO->Prop),iN i s.heap->Q (.ref it) s->bN (model P w) A (pyIter (.ref it)) Q E s
noncomputable abbrev dU:=St->aq->(kr->aq->Prop)->Prop
def Ed(X:bS)(ar:List (af×bU))(U:St)(eP:cO)(R:kr->aq->Prop)(Ii:au)(s2:aO):Prop :=
 ∃(it:af)(b7:List af)(iN:Nat->bA->Prop)(el:kr)(H':aq),Ii=.ref it/\Inv X ar U H' s2/\Turn X.prog X.w X.K eP el b7 it iN/\iN 0 s2.heap/\(∀b∈b7,qa X ar H' b)/\R el H'
def jw(X:bS)(eP iter:cO)(iO:dU):Prop :=
 ∀(ar:List (af×bU))(s:aO)(U:St)(H:aq)(R:kr->aq->Prop),Inv X ar U H s->iO U H R->
  bN (model X.prog X.w) X.A (eval iter X.env) (fun v s1=>bN (model X.prog X.w) X.A (pyIter v) (Ed X ar U eP R) X.xe s1) X.xe s
theorem xK{n:String}{vs:Array au}(aH:s.heap.get? it=J o)(hc:o.cls=.type n)(hd:o.data=.fields vs)
    (aW:["enumerate","zip","dict_itemiterator","dict_reverseitemiterator","odict_iterator","itertools.zip_longest","itertools.pairwise"].contains n=aF) (gq:Q () s):bN M A (letOwnedTupleGo eP (.ref it) u) Q E s:=by
  unfold letOwnedTupleGo
  cases eP<;>first
    |exact dP gq
    |(cases u<;>first
        |exact dP gq
        | (refine bF (wpAny_load aH ?_)
           rw[hc,hd]
           show bN M A (if(["enumerate","zip","dict_itemiterator","dict_reverseitemiterator","odict_iterator","itertools.zip_longest","itertools.pairwise"].contains n&&vs[0]? == J (rawInt _))=ah then _ else _) Q E s
           rw[if_neg (by intro h;rw[aW,Bool.false_and]at h;cases h)]
           exact dP gq))
noncomputable def pv(K:bM)(a:af):kr :=
 ⟨fun i H=>∃xs x,cK K H a xs/\xs[i]?=J x,fun i H x H'=>H'=H/\∀xs,cK K H a xs->xs[i]?=J x,fun i H=>∃xs,cK K H a xs/\xs.length<=i⟩
noncomputable def rf(lo:Int)(n:Nat):kr:=⟨fun i _=>i<n,fun i H x H'=>H'=H/\x=.int (lo+i),fun i _=>n<=i⟩
theorem X5(a it:af):Turn P w K eP (pv K a) [it] it (fun i h=>h.IsListIter it a i) where
 mem:=by simp
 obj:=fun i h st b ag=>by
  have e:b=it:=by simpa using ag
  subst e
  obtain⟨o,e,c,d⟩:=st
  exact⟨o,e,fun v z=>by rw[d]at z;cases z⟩
 keep:=fun i h h' st k=>st.at fun o e=>k it (by simp) o e
 item:=by
  intro X cG hw gw hc i ar s U H E aa az st aX
  subst cG hw gw
  obtain⟨xs,x,bj,ao⟩:=aX
  obtain⟨bt,d0,p,bz⟩:=aa.list bj
  obtain⟨u,cC,e4⟩:=d0.get ao
  obtain⟨f0,f1,f2,hL,f4,h8⟩:=az it (by simp)
  refine wpAny_pyNext_list_item st p.isList (x:=u) (by simpa using cC) fun h' h1 nS=>?_
  have bC:Inv X ar U H {s with heap:=h'}:=aa.turned (t':=s.toks) (fun b o ag e=>(nS.2 b ag).trans e) f0 f1 hL f4 h8
  obtain⟨o,e,c,d⟩:=id h1
  exact⟨u,I,xK (s:={s with heap:=h'}) e c d (by decide) ⟨x,H,bC,e4,⟨I,fun aA aU=>by rw[aa.adL aU bj];exact ao⟩,h1,fun b ag=>(az b ag).1⟩⟩
 done:=by
  intro X cG hw gw hc i ar s U H E aa az st aX
  subst cG hw gw
  obtain⟨xs,bj,ao⟩:=aX
  obtain⟨bt,d0,p,bz⟩:=aa.list bj
  obtain⟨f0,f1,f2,hL,f4,h8⟩:=az it (by simp)
  have aD:=d0.length
  exact wpAny_pyNext_list_end (aa.ok.hd hc) st p.isList (by simp;omega) fun h' eA=>⟨I,aa.turned (t':=s.toks) (fun b o ag e=>eA b o ag e) f0 f1 hL f4 h8⟩
 self:=fun _ _ _ _ _ st h=>wpAny_pyIter_listiter st h
theorem Xv(it:af)(lo:Int)(n:Nat):Turn P w K eP (rf lo n) [it] it (fun i h=>IsRangeIter h it (lo+(i:Nat)*1) ((n:Int)-(i:Nat)) 1) where
 mem:=by simp
 obj:=fun i h st b ag=>by
  have e:b=it:=by simpa using ag
  subst e
  exact⟨_,st,fun v z=>by
   have pd:Data.fields _=Data.cell v:=z
   cases pd⟩
 keep:=fun i h h' st k=>k it (by simp) _ st
 item:=by
  intro X cG hw gw hc i ar s U H E aa az st aX
  subst cG hw gw
  obtain⟨f0,f1,f2,hL,f4,h8⟩:=az it (by simp)
  have W:=Walks.range (prog:=X.prog) (w:=X.w) (aa.ok.hd hc) it lo 1 n
  refine W.item i s _ _ aX st fun v h' dK br h1 dY=>?_
  obtain⟨t,rfl⟩:=br
  have bC:Inv X ar U H {s with heap:=h',toks:=dK}:=aa.turned (fun b o ag e=>dY b o (by simpa using ag) e) f0 f1 hL f4 h8
  refine⟨_,I,xK (s:={s with heap:=h',toks:=dK}) (n:="range_iterator") h1 I I (by decide) ⟨.int (lo+i),H,bC,⟨t,?_⟩,⟨I,I⟩,h1,fun b ag=>(az b ag).1⟩⟩
  rw[Int.mul_one]
 done:=by
  intro X cG hw gw hc i ar s U H E aa az st aX
  subst cG hw gw
  obtain⟨f0,f1,f2,hL,f4,h8⟩:=az it (by simp)
  exact wpAny_pyNext_range_end (aa.ok.hd hc) st (by have:n<=i:=aX;omega) fun h' eA=>⟨I,aa.turned (t':=s.toks) (fun b o ag e=>eA b o ag e) f0 f1 hL f4 h8⟩
 self:=fun _ _ _ _ _ st h=>wpAny_pyIter_rangeiter st h
section
variable {X:bS} {eP:cO}
def OF(K:bM)(dd:TE):dU:=fun U H R=>dd U H fun x H1=>∃a,x=.ref a/\(∃xs,cK K H1 a xs)/\R (pv K a) H1
theorem Tr{l:cO}{dd:TE}(aD:cz X l dd):jw X eP l (OF X.K dd):=by
 intro ar s U H R aa h
 refine dm (aD ar s U H _ aa h) fun v s1 b4=>?_
 obtain⟨x,H1,bC,cv,cu⟩:=b4
 obtain⟨a,e,⟨xs,bj⟩,q⟩:=cu
 subst e
 cases cv
 obtain⟨bt,d0,p,bz⟩:=bC.list bj
 refine wpAny_pyIter_list p.isList ?_
 refine⟨s1.heap.objs.size,[s1.heap.objs.size],_,_,H1,I,bC.kept (t':=s1.toks) fun b o e=>fV _ e,X5 a _,⟨_,hH _ I,I,I⟩,fun b ag=>?_,q⟩
 have e:b=s1.heap.objs.size:=by simpa using ag
 subst e
 exact bC.pO (b8 _) (bC.aL.fresh (b8 _))
theorem Zk{U:St}{R:kr->aq->Prop}{ay:Int}{t u v:Tok}{dK:Nat}(aa:Inv X ar U H s)(ai : -(2^62)<=lo)(aj:lo<2^62)(bE : -(2^62)<=ay)(cQ:ay<2^62)
  (q:R (rf lo (ay-lo).toNat) H):bN (model X.prog X.w) X.A (pyIter (.ref s.heap.objs.size)) (Ed X ar U eP R) E {s with heap:=s.heap.push {cls :=.type "range",data :=.fields #[.int lo t,.int ay u,.int 1 v]},toks:=dK}:=by
 refine wpAny_pyIter_range (IsRange.new ..) (small_one ai aj bE cQ) ?_
 have bC:Inv X ar U H {s with heap:=s.heap.push {cls :=.type "range",data :=.fields #[.int lo t,.int ay u,.int 1 v]},toks:=dK}:=aa.kept fun b o e=>fV _ e
 refine⟨(s.heap.push {cls :=.type "range",data :=.fields #[.int lo t,.int ay u,.int 1 v]}).objs.size,[(s.heap.push {cls :=.type "range",data :=.fields #[.int lo t,.int ay u,.int 1 v]}).objs.size],_,_,H,I,
  bC.kept (t':=dK) fun b o e=>fV _ e,Xv _ lo (ay-lo).toNat,?_,fun b ag=>?_,q⟩
 ·have aS:lo+((0:Nat):Int)*1=lo:=by simp
  have aV:(((ay-lo).toNat:Nat):Int)-((0:Nat):Int)=cS.Range.rangeSize lo ay 1:=by rw[rangeSize_one];split<;>omega
  show IsRangeIter _ _ (lo+((0:Nat):Int)*1) ((((ay-lo).toNat:Nat):Int)-((0:Nat):Int)) 1
  rw[aS,aV]
  exact hH _ I
 ·have e:b=(s.heap.push {cls :=.type "range",data :=.fields #[.int lo t,.int ay u,.int 1 v]}).objs.size:=by simpa using ag
  subst e
  exact bC.pO (b8 _) (bC.aL.fresh (b8 _))
def ado(cH:h4):dU:=fun U H R=>cH U H fun vs H1=>∃j:Int,vs=[.int j]/\-(2^62)<=j/\j<2^62/\R (rf 0 j.toNat) H1
theorem lY{a:cO}{cH:h4}{p:Pos}(aX:jr X "range")(hm:X.mg "range"=aw)(aJ:iQ X [a] cH)(hs:ek [a] X.env=[(aF,eval a X.env)]:=by rfl):jw X eP (.Call (.Name "range" p) [a] [] aZ) (ado cH):=by
 intro ar s U H R aa h
 refine Call_ (ot aa aX hm boot_range (PyProof.Rows.callWith_type1 (dm (aJ aZ ar s U H _ aa h) fun us s1 b4=>?_) hs I))
 obtain⟨vs,H1,bC,cv,cu⟩:=b4
 obtain⟨j,e,cu,bX,q⟩:=cu
 subst e
 cases cv with
 |cons r jY =>
  cases jY
  obtain⟨t,rfl⟩:=r
  exact call_range_1 (Zk bC (by omega) (by omega) cu bX (by simpa using q))
def ahB(iO:dU)(g:gC)(dO:e1):e1:=fun D U H=>iO U H fun el H1=>∃W:Nat->Nat->St->aq->Prop,(∃m,W 0 m U H1)/\∀i m U H,W i m U H->
 (el.stop i H/\D.nx U H)\/(el.go i H/\∃N:St->aq->Prop,(∀cg H',N cg H'->∃bY,bY<m/\W (i+1) bY cg H')/\∀x H',el.p0 i H x H'->g x U H' fun bu av=>dO {D with nx:=N,ct:=N,bk:=D.nx} bu av)
noncomputable def yY(b7:List af)(h:bA):List (af×bU):=b7.filterMap fun b=>(h.get? b).map fun o=>(b,o)
theorem AH{b:af}(ag:b∈b7)(e:h.get? b=J o):(b,o)∈yY b7 h:=List.mem_filterMap.mpr ⟨b,ag,by rw[e];rfl⟩
theorem Yv{p:af×bU}(aY:p∈yY b7 h):p.1∈b7/\h.get? p.1=J p.2:=by
 obtain⟨b,ag,e⟩:=List.mem_filterMap.mp aY
 cases q:h.get? b with
 |none=>rw[q]at e;cases e
 |some o =>
  rw[q]at e
  have e':(b,o)=p:=e8 e
  subst e'
  exact⟨ag,q⟩
theorem Inv.pinned{U:St}(aa:Inv X ar U H s)(az:∀b∈b7,qa X ar H b)(aH:∀b∈b7,∃o,s.heap.get? b=J o/\∀v,o.data≠.cell v):Inv X (ar++yY b7 s.heap) U H s :=
 aa.Pf fun p aY=>(List.mem_append.mp aY).elim (fun z=>aa.pin p (mq _ z)) fun z=>by
  obtain⟨ag,e⟩:=Yv z
  obtain⟨f0,f1,f2,_⟩:=az p.1 ag
  obtain⟨o,e',d⟩:=aH p.1 ag
  rw[e]at e';cases e'
  exact⟨e,f0,f1,f2,d⟩
theorem Inv.Di{pl:List (af×bU)}{U:St}(aa:Inv X (ar++pl) U H s):Inv X ar U H s:=aa.Pf fun p aY=>aa.pin p (mq _ (List.mem_append_left _ aY))
theorem kK{iO:dU}{g:gC}{dO:e1}(aY:h2 (model X.prog X.w) X.A X.env X.xe)(hc:X.calm=ah)(ay:jw X eP iter iO)(aX:qi X eP g)(ag:jx X body dO)
  (hs:∀x,foldedSetIterable iter X.env x=pure x:=by intro _;rfl):lr X (.For eP iter body [] aZ) (ahB iO g dO):=by
 intro ar s U H D aa h
 refine wpAny_For (dm (ay ar s U H _ aa h) fun v s1 ai=>dm ai fun Ii s2 aj=>?_) hs
 obtain⟨it,b7,iN,el,av,e,cJ,T,i9,f2,W,⟨m0,hD⟩,turn⟩:=aj
 subst e
 have ub:∀{H':aq},(∀b∈b7,H' b=aw)->∀b∈b7,qa X ar H' b:=fun aW b ag=>⟨aW b ag,(f2 b ag).2⟩
 refine codeAny_forLoop_any (fun n bl=>∃i cg H',Inv X ar cg H' bl/\iN i bl.heap/\(∀b∈b7,H' b=aw)/\W i n cg H') ?_ m0 ⟨0,U,av,cJ,i9,fun b ag=>(f2 b ag).1,hD⟩
 rintro n iM ⟨i,k9,bQ,jM,kn,x2,ue⟩
 rcases turn i n k9 bQ ue with⟨stop,ID⟩|⟨go,N,b3,step⟩
 ·refine uv aY (dm (T.done X I I I hc i ar iM k9 bQ X.xe jM (ub x2) kn stop) fun r t5 b4=>?_)
  obtain⟨ax,w2⟩:=b4
  subst ax
  exact wpAny_execs_nil ⟨k9,bQ,w2,ID⟩
 ·refine uv aY (dm (T.item X I I I hc i ar iM k9 bQ X.xe jM (ub x2) kn go) fun r t5 b4=>?_)
  obtain⟨u,ax,cQ⟩:=b4
  subst ax
  refine uv aY (dm cQ fun _ y2 b4=>?_)
  obtain⟨x,fm,DZ,IF,Js,jJ,GP⟩:=b4
  have D0:=DZ.pinned (ub GP) (T.obj _ _ jJ)
  refine uv aY (dm (aX _ y2 k9 fm x u _ D0 IF (step x fm Js)) fun _ IK b4=>?_)
  obtain⟨wO,d9,D1,IC⟩:=b4
  refine uv aY (dm (ag _ IK wO d9 _ D1 IC) fun f pW oY=>?_)
  have again:∀{la:St}{hF:aq},Inv X (ar++yY b7 y2.heap) la hF pW->N la hF->∃m,m<n/\∃i cg H',Inv X ar cg H' pW/\iN i pW.heap/\(∀b∈b7,H' b=aw)/\W i m cg H':=fun{la hF}j3 r5=>by
   obtain⟨bY,hm,zk⟩:=b3 la hF r5
   refine⟨bY,hm,i+1,la,hF,j3.Di,T.keep _ _ _ jJ fun b ag o e=>(j3.pin (b,o) (mq _ (mq _ (AH ag e)))).1,fun b ag=>?_,zk⟩
   obtain⟨o,e,d⟩:=T.obj _ _ jJ b ag
   exact(j3.pin (b,o) (mq _ (mq _ (AH ag e)))).2.1
  cases f with
  |next=>obtain⟨la,hF,j3,r5⟩:=oY;exact again j3 r5
  |cont=>obtain⟨la,hF,j3,r5⟩:=oY;exact again j3 r5
  |brk=>obtain⟨la,hF,j3,oY⟩:=oY;exact⟨la,hF,j3.Di,oY⟩
  |ret v=>obtain⟨ain,la,hF,j3,agP,oY⟩:=oY;exact⟨ain,la,hF,j3.Di,agP,oY⟩
end
theorem FP{xs:List V}{g:gC}{dO:e1}{D:Ends}{U:St}(Pv:Nat->St->aq->Prop)(bg:Pv 0 U H)(aD:∀i U H,i<=xs.length->Pv i U H->cK K H a xs)
  (hs:∀i x U H,xs[i]?=J x->Pv i U H->g x U H fun bu av=>dO {D with nx:=Pv (i+1),ct:=Pv (i+1),bk:=D.nx} bu av) (hd:∀U H,Pv xs.length U H->D.nx U H) :
  ∃W:Nat->Nat->St->aq->Prop,(∃m,W 0 m U H)/\∀i m U H,W i m U H->
   ((pv K a).stop i H/\D.nx U H)\/((pv K a).go i H/\∃N:St->aq->Prop,(∀cg H',N cg H'->∃bY,bY<m/\W (i+1) bY cg H')/\∀x H',(pv K a).p0 i H x H'->g x U H' fun bu av=>dO {D with nx:=N,ct:=N,bk:=D.nx} bu av):=by
 refine⟨fun i m U H=>m=xs.length-i/\i<=xs.length/\Pv i U H,⟨xs.length,by simp,UF _,bg⟩,?_⟩
 rintro i m U H ⟨rfl,ay,p⟩
 have q:=aD i U H ay p
 by_cases h9:i<xs.length
 ·refine .inr ⟨⟨xs,xs[i],q,by simp[h9]⟩,Pv (i+1),fun cg H' tQ=>⟨xs.length-(i+1),by omega,rfl,h9,tQ⟩,fun x H' y=>?_⟩
  obtain⟨e,y⟩:=y
  subst e
  exact hs i x U _ (y xs q) p
 ·have e:i=xs.length:=by omega
  subst e
  exact .inl ⟨⟨xs,q,b8 _⟩,hd U H p⟩
theorem pC{g:gC}{dO:e1}{D:Ends}{U:St}(Pv:Nat->St->aq->Prop)(bg:Pv 0 U H)
  (hs:∀i U H,i<n->Pv i U H->g (.int (lo+i)) U H fun bu av=>dO {D with nx:=Pv (i+1),ct:=Pv (i+1),bk:=D.nx} bu av) (hd:∀U H,Pv n U H->D.nx U H) :
  ∃W:Nat->Nat->St->aq->Prop,(∃m,W 0 m U H)/\∀i m U H,W i m U H->
   ((rf lo n).stop i H/\D.nx U H)\/((rf lo n).go i H/\∃N:St->aq->Prop,(∀cg H',N cg H'->∃bY,bY<m/\W (i+1) bY cg H')/\∀x H',(rf lo n).p0 i H x H'->g x U H' fun bu av=>dO {D with nx:=N,ct:=N,bk:=D.nx} bu av):=by
 refine⟨fun i m U H=>m=n-i/\i<=n/\Pv i U H,⟨n,by simp,UF _,bg⟩,?_⟩
 rintro i m U H ⟨rfl,ay,p⟩
 by_cases h9:i<n
 ·refine .inr ⟨h9,Pv (i+1),fun cg H' tQ=>⟨n-(i+1),by omega,rfl,h9,tQ⟩,fun x H' y=>?_⟩
  obtain⟨e,y⟩:=y
  subst e y
  exact hs i U _ h9 p
 ·have e:i=n:=by omega
  subst e
  exact .inl ⟨b8 _,hd U H p⟩
noncomputable abbrev hR:=V->V->aq->bJ->Prop
def dQ(X:bS)(f:au->au->Sem au)(r:hR):Prop :=
 ∀(ar:List (af×bU))(s:aO)(U:St)(H:aq)(x y:V)(v u:au)(Q:bJ),Inv X ar U H s->RelV x v->RelV y u->r x y H Q->
  bN (model X.prog X.w) X.A (f v u) (iA X ar U Q) X.xe s
def Eo(X:bS)(f:au->Sem au)(r:V->aq->bJ->Prop):Prop :=
 ∀(ar:List (af×bU))(s:aO)(U:St)(H:aq)(x:V)(v:au)(Q:bJ),Inv X ar U H s->RelV x v->r x H Q->
  bN (model X.prog X.w) X.A (f v) (iA X ar U Q) X.xe s
def jL(X:bS)(f:au)(r:List V->aq->bJ->Prop):Prop :=
 ∀(ar:List (af×bU))(s:aO)(U:St)(H:aq)(xs:List V)(us:List au)(Q:bJ),Inv X ar U H s->Vals xs us->r xs H Q->
  bN (model X.prog X.w) X.A (call f us) (iA X ar U Q) X.xe s
def SF(X:bS)(r:V->aq->(Bool->aq->Prop)->Prop):Prop :=
 ∀(ar:List (af×bU))(s:aO)(U:St)(H:aq)(x:V)(v:au)(Q:Bool->aq->Prop),Inv X ar U H s->RelV x v->r x H Q->
  bN (model X.prog X.w) X.A (truthy v) (z5 X ar U Q) X.xe s
def lL(r:hR)(cH dO:TE):TE:=fun U H Q=>cH U H fun x H1=>dO U H1 fun y av=>r x y av Q
def ahO(r:V->aq->bJ->Prop)(cH:TE):TE:=fun U H Q=>cH U H fun x H1=>r x H1 Q
inductive JU(C:Int->Int->Prop)(x y:V)(Q:Int->Int->Prop):Prop where
 |mk (i j:Int) (a:x=.int i) (b:y=.int j) (c:C i j) (h:Q i j):JU C x y Q
def qT(C:Int->Int->Prop)(g:Int->Int->V):hR:=fun x y H Q=>JU C x y fun i j=>Q (g i j) H
inductive JV(x y:V)(Q:Int->Int->Prop):Prop where
 |mk (i j:Int) (a:x=.int i) (b:y=.int j) (h:Q i j):JV x y Q
def mS(g:Int->Int->V):hR:=fun x y H Q=>JV x y fun i j=>Q (g i j) H
noncomputable def Pj(g:Int->V):V->aq->bJ->Prop:=fun x H Q=>∃i,x=.int i/\Q (g i) H
variable {r:hR} {g:Int->Int->Int}
section
variable {X:bS} {a b c:cO} {cH dO gb:TE} {aZ:Pos}
theorem Gm(aJ:cz X a cH)(ag:cz X b dO){U:St}{R:V->V->aq->Prop}(aa:Inv X ar U H s)
  (h:cH U H fun x H1=>dO U H1 fun y av=>R x y av) {Q:au->aO->Prop}
  (az:∀v u s2 x y av,Inv X ar U av s2->RelV x v->RelV y u->R x y av->bN (model X.prog X.w) X.A (f v u) Q X.xe s2) :
  bN (model X.prog X.w) X.A (eval a X.env) (fun v eg=>bN (model X.prog X.w) X.A (eval b X.env) (fun u nU=>bN (model X.prog X.w) X.A (f v u) Q X.xe nU) X.xe eg) X.xe s:=by
 refine dm (aJ ar s U H _ aa h) fun v s1 b4=>?_
 obtain⟨x,H1,bC,cv,cu⟩:=b4
 refine dm (ag ar s1 U H1 _ bC cu) fun u s2 b4=>?_
 obtain⟨y,av,cJ,dZ,bX⟩:=b4
 exact az v u s2 x y av cJ cv dZ bX
theorem aN{op:Operator}(aH:dQ X (j2 op) r)(aJ:cz X a cH)(ag:cz X b dO):cz X (.BinOp a op b aZ) (lL r cH dO):=by
 intro ar s U H Q aa h
 exact wpAny_BinOp (Gm aJ ag aa h fun v u s2 x y av cJ bp cn q=>aH ar s2 U av x y v u Q cJ bp cn q)
theorem lB{op:UnaryOp}{r:V->aq->bJ->Prop}(aH:Eo X (unaryOp op) r)(aJ:cz X a cH):cz X (.UnaryOp op a aZ) (ahO r cH):=by
 intro ar s U H Q aa h
 refine UnaryOp_ (dm (aJ ar s U H _ aa h) fun v s1 b4=>?_)
 obtain⟨x,H1,bC,cv,cu⟩:=b4
 exact aH ar s1 U H1 x v Q bC cv cu
theorem sd{C:Int->Int->Prop}
  (rule:∀(i j:Int)(t u:Tok)(s:aO)(Q:au->aO->Prop)(E:au->aO->Prop),C i j->Q (.int (g i j) s.toks) {s with toks:=s.toks+1}->bN (model X.prog X.w) X.A (f (.int i t) (.int j u)) Q E s) :
  dQ X f (qT C fun i j =>.int (g i j)):=by
 intro ar s U H x y v u Q aa bp cn h
 obtain⟨i,j,rfl,rfl,hc,q⟩:=h
 obtain⟨t,rfl⟩:=bp
 obtain⟨t',rfl⟩:=cn
 exact rule i j t t' s _ _ hc ⟨.int (g i j),H,aa.tok _,⟨_,I⟩,q⟩
theorem Iz
  (rule:∀(i j:Int)(t u:Tok)(s:aO)(Q:au->aO->Prop)(E:au->aO->Prop),Q (.int (g i j) s.toks) {s with toks:=s.toks+1}->bN (model X.prog X.w) X.A (f (.int i t) (.int j u)) Q E s) :
  dQ X f (mS fun i j =>.int (g i j)):=by
 intro ar s U H x y v u Q aa bp cn h
 obtain⟨i,j,rfl,rfl,q⟩:=h
 obtain⟨t,rfl⟩:=bp
 obtain⟨t',rfl⟩:=cn
 exact rule i j t t' s _ _ ⟨.int (g i j),H,aa.tok _,⟨_,I⟩,q⟩
theorem CS{g:Int->Int->Bool}
  (rule:∀(i j:Int)(t u:Tok)(s:aO)(Q:au->aO->Prop)(E:au->aO->Prop),Q (.bool (g i j)) s->bN (model X.prog X.w) X.A (f (.int i t) (.int j u)) Q E s) :
  dQ X f (mS fun i j =>.aQ (g i j)):=by
 intro ar s U H x y v u Q aa bp cn h
 obtain⟨i,j,rfl,rfl,q⟩:=h
 obtain⟨t,rfl⟩:=bp
 obtain⟨t',rfl⟩:=cn
 exact rule i j t t' s _ _ ⟨.aQ (g i j),H,aa,I,q⟩
def Rq(i j:Int):Prop:=0<j/\j<1073741824
def zt(i j:Int):Prop:=0<=j/\j<=1000000/\i.natAbs<2^64
def zr(i j:Int):Prop:=(-(2^64)<i/\i<2^64)\/(-(2^64)<j/\j<2^64)
theorem zr.ok{i j:Int}(h:zr i j):IntMulOk i j:=by
 rcases h with⟨ai,aj⟩|⟨ai,aj⟩
 .exact .of_left (intBits_le_64 ai aj)
 .exact .of_right (intBits_le_64 ai aj)
theorem Xu(k:Nat):(0:Int)<=2^k:=by
 rw[two_pow_cast]
 exact Int.natCast_nonneg _
theorem Uw:dQ X (j2 .Add) (mS fun i j =>.int (i+j)):=Iz fun _ _ _ _ _ _ _ q=>add_int q
theorem Ur:dQ X (j2 .Sub) (mS fun i j =>.int (i-j)):=Iz fun _ _ _ _ _ _ _ q=>sub_int q
theorem Ut:dQ X (j2 .Mult) (qT zr fun i j =>.int (i*j)):=sd fun _ _ _ _ _ _ _ hc q=>mul_int q hc.ok
theorem hh:dQ X (j2 .FloorDiv) (qT Rq fun i j =>.int (i/j)):=sd fun i j _ _ _ _ _ hc q=>by
 have ai:(0:Int)<j:=hc.1
 have aj:j<1073741824:=hc.2
 exact floordiv_int (by omega) (by rw[Int.fdiv_eq_ediv_of_nonneg i (by omega)];exact q) (.inl (PyProof.noPylong_small (by omega)))
theorem dI:dQ X (j2 .Mod) (qT (fun _ j=>0<j) fun i j =>.int (i%j)):=sd fun i j _ _ _ _ _ hc q=>by
 have ai:(0:Int)<j:=hc
 exact mod_int' (by omega) (by rw[Int.fmod_eq_emod_of_nonneg i (by omega)];exact q)
theorem xH:dQ X (j2 .Pow) (qT zt fun i j =>.int (i^j.toNat)):=sd fun _ _ _ _ _ _ _ hc q=>pow_int_small hc.1 hc.2.1 hc.2.2 q
theorem Gf:dQ X (j2 .LShift) (qT zt fun i j =>.int (i*2^j.toNat)):=sd fun _ _ _ _ _ _ _ hc q=>lshift_int_small hc.1 hc.2.1 hc.2.2 q
theorem MJ:dQ X (j2 .RShift) (qT (fun _ j=>0<=j) fun i j =>.int (i/2^j.toNat)):=sd fun i j _ _ _ _ _ hc q =>
 rshift_int hc (by rw[Int.fdiv_eq_ediv_of_nonneg i (Xu _)];exact q)
theorem Uv:dQ X (j2 .BitAnd) (mS fun i j =>.int (cS.bitAnd i j)):=Iz fun _ _ _ _ _ _ _ q=>and_int q
theorem aij{f:au->Sem au}{g:Int->Int}
  (rule:∀(i:Int)(t:Tok)(s:aO)(Q:au->aO->Prop)(E:au->aO->Prop),Q (.int (g i) s.toks) {s with toks:=s.toks+1}->bN (model X.prog X.w) X.A (f (.int i t)) Q E s) :
  Eo X f (Pj fun i =>.int (g i)):=by
 intro ar s U H x v Q aa bp h
 obtain⟨i,rfl,q⟩:=h
 obtain⟨t,rfl⟩:=bp
 exact rule i t s _ _ ⟨.int (g i),H,aa.tok _,⟨_,I⟩,q⟩
theorem ll:Eo X (unaryOp .USub) (Pj fun i =>.int (-i)):=aij fun _ _ _ _ _ q=>neg_int q
end
noncomputable def Pk:V->V->Bool
 |.aT,.aT=>ah|.aT,.int _=>ah|.int _,.aT=>ah|.aT,.aQ _=>ah|.aQ _,.aT=>ah|.aT,.str _=>ah|.str _,.aT=>ah
 |.int _,.int _=>ah|.aQ _,.aQ _=>ah|.str _,.str _=>ah|.kS _,.kS _=>ah
 |.int _,.str _=>ah|.str _,.int _=>ah|.aQ _,.str _=>ah|.str _,.aQ _=>ah
 |_,_=>aF
def qS:hR:=fun x y H Q=>Pk x y=ah/\Q (.aQ (decide (x=y))) H
def Ph:hR:=fun x y H Q=>Pk x y=ah/\Q (.aQ (!decide (x=y))) H
theorem xD{i j:Int}:decide (V.int i=V.int j)=(i == j):=by
 rw[Bool.eq_iff_iff]
 simp
theorem J8{i j:Bool}:decide (V.aQ i=V.aQ j)=(i == j):=by
 rw[Bool.eq_iff_iff]
 simp
theorem Mq{i j:ae}:decide (V.str i=V.str j)=(i == j):=by
 rw[Bool.eq_iff_iff]
 simp
theorem Mr{i j:Array UInt8}:decide (V.kS i=V.kS j)=(i.toList == j.toList):=by
 rw[Bool.eq_iff_iff]
 cases i
 cases j
 simp
section
variable {X:bS} {a b c:cO} {cH dO gb:TE} {aZ:Pos}
theorem fc{U:St}{Q:bJ}{k i5:Bool}(aa:Inv X ar U H s)(q:Q (.aQ k) H)(e:k=i5):iA X ar U Q (.bool i5) s:=by
 subst e
 exact⟨.aQ k,H,aa,I,q⟩
theorem UX:dQ X (gW .Eq) qS:=by
 intro ar s U H x y v u Q aa bp cn h
 obtain⟨hs,q⟩:=h
 cases x with
 |aT =>
  cases bp
  cases y with
  |aT=>cases cn;exact PySem.EqNone.eq_none_none (fc aa q (by simp))
  |aQ j=>cases cn;exact PySem.EqNone.eq_none_bool (fc aa q (by simp))
  |int j=>obtain⟨t',rfl⟩:=cn;exact PySem.EqNone.eq_none_int (fc aa q (by simp))
  |str j=>obtain⟨t',rfl⟩:=cn;exact PySem.EqNone.eq_none_str (fc aa q (by simp))
  |_=>exact absurd (show aF=ah from hs) hS
 |aQ i =>
  cases bp
  cases y with
  |aT=>cases cn;exact PySem.EqNone.eq_bool_none (fc aa q (by simp))
  |aQ j=>cases cn;exact eq_bool (fc aa q J8)
  |str j=>obtain⟨t',rfl⟩:=cn;exact PySem.EqMixed.eq_bool_str (fc aa q (by simp))
  |_=>exact absurd (show aF=ah from hs) hS
 |int i =>
  obtain⟨t,rfl⟩:=bp
  cases y with
  |aT=>cases cn;exact PySem.EqNone.eq_int_none (fc aa q (by simp))
  |int j=>obtain⟨t',rfl⟩:=cn;exact eq_int (fc aa q xD)
  |str j=>obtain⟨t',rfl⟩:=cn;exact PySem.EqMixed.eq_int_str (fc aa q (by simp))
  |_=>exact absurd (show aF=ah from hs) hS
 |str i =>
  obtain⟨t,rfl⟩:=bp
  cases y with
  |aT=>cases cn;exact PySem.EqNone.eq_str_none (fc aa q (by simp))
  |aQ j=>cases cn;exact PySem.EqMixed.eq_str_bool (fc aa q (by simp))
  |int j=>obtain⟨t',rfl⟩:=cn;exact PySem.EqMixed.eq_str_int (fc aa q (by simp))
  |str j=>obtain⟨t',rfl⟩:=cn;exact eq_str (fc aa q Mq)
  |_=>exact absurd (show aF=ah from hs) hS
 |kS i =>
  obtain⟨t,rfl⟩:=bp
  cases y with
  |kS j=>obtain⟨t',rfl⟩:=cn;exact PySem.W.eq_bytes (fc aa q Mr)
  |_=>exact absurd (show aF=ah from hs) hS
 |_=>cases y<;>exact absurd (show aF=ah from hs) hS
theorem UR:dQ X (gW .NotEq) Ph:=by
 intro ar s U H x y v u Q aa bp cn h
 obtain⟨hs,q⟩:=h
 cases x with
 |aT =>
  cases bp
  cases y with
  |aT=>cases cn;exact PySem.EqNone.ne_none_none (fc aa q (by simp))
  |aQ j=>cases cn;exact PySem.EqNone.ne_none_bool (fc aa q (by simp))
  |int j=>obtain⟨t',rfl⟩:=cn;exact PySem.EqNone.ne_none_int (fc aa q (by simp))
  |str j=>obtain⟨t',rfl⟩:=cn;exact PySem.EqNone.ne_none_str (fc aa q (by simp))
  |_=>exact absurd (show aF=ah from hs) hS
 |aQ i =>
  cases bp
  cases y with
  |aT=>cases cn;exact PySem.EqNone.ne_bool_none (fc aa q (by simp))
  |aQ j=>cases cn;exact ne_bool (fc aa q (congrArg not J8))
  |str j=>obtain⟨t',rfl⟩:=cn;exact PySem.EqMixed.ne_bool_str (fc aa q (by simp))
  |_=>exact absurd (show aF=ah from hs) hS
 |int i =>
  obtain⟨t,rfl⟩:=bp
  cases y with
  |aT=>cases cn;exact PySem.EqNone.ne_int_none (fc aa q (by simp))
  |int j=>obtain⟨t',rfl⟩:=cn;exact ne_int (fc aa q (congrArg not xD))
  |str j=>obtain⟨t',rfl⟩:=cn;exact PySem.EqMixed.ne_int_str (fc aa q (by simp))
  |_=>exact absurd (show aF=ah from hs) hS
 |str i =>
  obtain⟨t,rfl⟩:=bp
  cases y with
  |aT=>cases cn;exact PySem.EqNone.ne_str_none (fc aa q (by simp))
  |aQ j=>cases cn;exact PySem.EqMixed.ne_str_bool (fc aa q (by simp))
  |int j=>obtain⟨t',rfl⟩:=cn;exact PySem.EqMixed.ne_str_int (fc aa q (by simp))
  |str j=>obtain⟨t',rfl⟩:=cn;exact ne_str (fc aa q (congrArg not Mq))
  |_=>exact absurd (show aF=ah from hs) hS
 |kS i =>
  obtain⟨t,rfl⟩:=bp
  cases y with
  |kS j=>obtain⟨t',rfl⟩:=cn;exact PySem.W.ne_bytes (fc aa q (congrArg not Mr))
  |_=>exact absurd (show aF=ah from hs) hS
 |_=>cases y<;>exact absurd (show aF=ah from hs) hS
theorem US:dQ X (gW .Lt) (mS fun i j =>.aQ (decide (i<j))):=CS fun _ _ _ _ _ _ _ q=>lt_int q
theorem UT:dQ X (gW .LtE) (mS fun i j =>.aQ (decide (i<=j))):=CS fun _ _ _ _ _ _ _ q=>le_int q
theorem UU:dQ X (gW .Gt) (mS fun i j =>.aQ (decide (j<i))):=CS fun _ _ _ _ _ _ _ q=>gt_int q
theorem UW:dQ X (gW .GtE) (mS fun i j =>.aQ (decide (j<=i))):=CS fun _ _ _ _ _ _ _ q=>ge_int q
inductive z0(x y:V)(Q:ae->ae->Prop):Prop where
 |mk (i j:ae) (a:x=.str i) (b:y=.str j) (h:Q i j):z0 x y Q
theorem Yr:dQ X (gW .Lt) (fun x y H Q=>z0 x y fun i j=>Q (.aQ (decide (i.cps.toList<j.cps.toList))) H):=by
 intro ar s U H x y v u Q aa bp cn h
 obtain⟨i,j,rfl,rfl,q⟩:=h
 obtain⟨t,rfl⟩:=bp
 obtain⟨t',rfl⟩:=cn
 exact lt_str (fc aa q I)
theorem Yt:dQ X (gW .In) (fun x y H Q=>z0 x y fun i j=>Q (.aQ (!(cS.Str.occurrences j i 0 j.length 1).isEmpty)) H):=by
 intro ar s U H x y v u Q aa bp cn h
 obtain⟨i,j,rfl,rfl,q⟩:=h
 obtain⟨t,rfl⟩:=bp
 obtain⟨t',rfl⟩:=cn
 exact in_str (fc aa q I)
theorem xI:dQ X (gW .Is) (fun x y H Q=>y=.aT/\Q (.aQ (decide (x=.aT))) H):=by
 intro ar s U H x y v u Q aa bp cn h
 obtain⟨rfl,q⟩:=h
 cases cn
 refine is_none_gen (fc aa q ?_)
 cases x<;>first
  |(cases bp;rfl)
  |(obtain⟨t,rfl⟩:=bp;rfl)
theorem Tz:dQ X (gW .IsNot) (fun x y H Q=>y=.aT/\Q (.aQ (!decide (x=.aT))) H):=by
 intro ar s U H x y v u Q aa bp cn h
 obtain⟨rfl,q⟩:=h
 cases cn
 refine isnot_none_gen (fc aa q ?_)
 cases x<;>first
  |(cases bp;rfl)
  |(obtain⟨t,rfl⟩:=bp;rfl)
theorem dQ.or{eD:hR}(h:dQ X f r)(h':dQ X f eD):dQ X f (fun x y H Q=>r x y H Q\/eD x y H Q):=by
 intro ar s U H x y v u Q aa bp cn q
 rcases q with q|q
 .exact h ar s U H x y v u Q aa bp cn q
 .exact h' ar s U H x y v u Q aa bp cn q
theorem ML(b:cO)(h:op≠.In:=by decide)(aj:op≠.NotIn:=by decide):behindInMarks op b=aF:=by
 have aS:(op == CmpOp.In)=aF:=by cases op<;>first|rfl|exact absurd I h
 have aV:(op == CmpOp.NotIn)=aF:=by cases op<;>first|rfl|exact absurd I aj
 cases b<;>simp[behindInMarks,aS,aV]
theorem Mg(aH:dQ X (gW op) r)(aJ:cz X a cH)(ag:cz X b dO)(hm:behindInMarks op b=aF):cz X (.Compare a [op] [b] aZ) (lL r cH dO):=by
 intro ar s U H Q aa h
 exact wpAny_Compare1 (Gm aJ ag aa h fun v u s2 x y av cJ bp cn q=>aH ar s2 U av x y v u Q cJ bp cn q) hm
inductive J2(x:V)(Q:Bool->Prop):Prop where
 |mk (k:Bool) (a:x=.aQ k) (h:Q k):J2 x Q
def qZ(t:TE):gQ:=fun U H Q=>t U H fun x H'=>J2 x fun k=>Q k H'
theorem Bc(aH:dQ X (gW op) r)(aJ:cz X a cH)(ag:cz X b dO)(hm:behindInMarks op b=aF):kM X (.Compare a [op] [b] aZ) (qZ (lL r cH dO)):=by
 intro ar s U H Q aa h
 refine wpAny_isTrue_Compare1 (dm (aJ ar s U H _ aa h) fun v s1 ⟨x,H1,bC,cv,cu⟩=>dm (ag ar s1 U H1 _ bC cu) fun u s2 ⟨y,av,cJ,dZ,bX⟩ =>
  dm (aH ar s2 U av x y v u _ cJ cv dZ bX) fun c iM ⟨z,bQ,jM,IE,k,e,fS⟩=>?_) hm
 subst e
 cases IE
 exact zp ⟨bQ,jM,fS⟩
def z8(K:bM)(x:V)(H:aq)(k:Bool):Prop :=
 match x with
 |.aT=>k=aF
 |.aQ b=>k=b
 |.int i=>k=(i != 0)
 |.str y=>y.length<=cj/\k=((y.length:Int) != 0)
 |.kS y=>y.size<=cj/\k=((y.size:Int) != 0)
 |.ref p=>(∃xs,cK K H p xs/\k=!xs.isEmpty)\/(∃xs,gd K H p xs/\k=!xs.isEmpty)\/∃f9,H p=J (.my f9)/\k=!f9.isEmpty
 |_=>False
theorem XT{um:Type}{f9:List (um×V)}{vs:List (um×au)}(r:D4 f9 vs):(!vs.isEmpty)=!f9.isEmpty:=by
 cases r<;>rfl
theorem KZ{xs:List V}(r:Vals xs bt):(!bt.toArray.isEmpty)=!xs.isEmpty:=by
 cases r<;>simp
theorem v8:(cj:Nat)<2^63:=by rw[sizeLine_eq];decide
theorem MD:SF X (fun x H Q=>∃k,z8 X.K x H k/\Q k H):=by
 intro ar s U H x v Q aa bp h
 obtain⟨k,e,q⟩:=h
 have aD:=v8
 have hs:cj=16777216:=sizeLine_eq
 cases x with
 |aT =>
  cases bp
  have e':k=aF:=e
  subst e'
  exact truthy_none ⟨H,aa,q⟩
 |aQ b =>
  cases bp
  have e':k=b:=e
  subst e'
  exact zp ⟨H,aa,q⟩
 |int i =>
  obtain⟨t,rfl⟩:=bp
  have e':k=(i != 0):=e
  subst e'
  exact PySem.P.truthy_int ⟨H,aa,q⟩
 |str y =>
  obtain⟨t,rfl⟩:=bp
  obtain⟨aU,e'⟩:y.length<=cj/\k=((y.length:Int) != 0):=e
  subst e'
  exact PySem.P.truthy_str (by omega) ⟨H,aa.tok _,q⟩
 |kS y =>
  obtain⟨t,rfl⟩:=bp
  obtain⟨aU,e'⟩:y.size<=cj/\k=((y.size:Int) != 0):=e
  subst e'
  exact PySem.W.truthy_bytes (by omega) ⟨H,aa.tok _,q⟩
 | ref p =>
  cases bp
  have e':(∃xs,cK X.K H p xs/\k=!xs.isEmpty)\/(∃xs,gd X.K H p xs/\k=!xs.isEmpty)\/∃f9,H p=J (.my f9)/\k=!f9.isEmpty:=e
  rcases e' with⟨xs,ao,e'⟩|⟨xs,ao,e'⟩|⟨f9,ao,e'⟩
  ·subst e'
   obtain⟨bt,r,pl,bz⟩:=aa.list ao
   have cM:=r.length
   exact wpAny_truthy_list pl.isList (by simp only[eo];omega) ⟨H,aa.tok _,by rw[KZ r];exact q⟩
  ·subst e'
   obtain⟨bt,r,pl,bz⟩:=aa.tuple ao
   have cM:=r.length
   exact truthy_tuple pl (by simp only[eo];omega) ⟨H,aa.tok _,by rw[KZ r];exact q⟩
  ·subst e'
   obtain⟨bz,dk,vs,r,m⟩:f9.length<=cj/\(p == sysModules)=aF/\∃vs,D4 f9 vs/\s.heap.DictOf (OT X.prog X.w) p vs:=aa.aL p _ ao
   have cM:f9.length=vs.length:=Paired.length r
   exact wpAny_truthy_dict dk m (by omega) ⟨H,aa.tok _,by rw[XT r];exact q⟩
 |_=>exact(show False from e).elim
theorem Zm(aJ:cz X a cH)(he:∀whole,isTrue a X.env whole=(do let v <-whole;standAt a.pos;holding [v] (truthy v))):
  kM X a (fun U H Q=>cH U H fun x H'=>∃k,z8 X.K x H' k/\Q k H'):=by
 intro ar s U H Q aa h
 refine isTrue_plain (dm (aJ ar s U H _ aa h) fun v s1 b4=>?_) (he _)
 obtain⟨x,H1,bC,cv,cu⟩:=b4
 exact MD ar s1 U H1 x v Q bC cv cu
inductive JW(x y:V)(Q:ae->ae->Prop):Prop where
 |mk (i j:ae) (a:x=.str i) (b:y=.str j) (c:i.length+j.length<=cj) (h:Q i j):JW x y Q
theorem XH:dQ X (j2 .Add) (fun x y H Q=>JW x y fun i j=>Q (.str (i++j)) H):=by
 intro ar s U H x y v u Q aa bp cn h
 obtain⟨i,j,rfl,rfl,bz,q⟩:=h
 obtain⟨t,rfl⟩:=bp
 obtain⟨t',rfl⟩:=cn
 exact add_str (fun t' dK=>⟨.str (i++j),H,aa.tok _,⟨_,I⟩,q⟩) bz
theorem vals1{x:V}(r:Vals [x] us):∃u,us=[u]/\RelV x u:=by
 cases r with
 |cons cv dZ=>cases dZ;exact⟨_,I,cv⟩
theorem vals2{x:V}(r:Vals [x,y] us):∃u ie,us=[u,ie]/\RelV x u/\RelV y ie:=by
 cases r with
 |cons cv dZ =>
  cases dZ with
  |cons IE agO=>cases agO;exact⟨_,_,I,cv,IE⟩
theorem S0:jL X (.builtin "abs") (fun xs H Q=>∃i,xs=[.int i]/\Q (.int (if i<0 then -i else i)) H):=by
 intro ar s U H xs us Q aa r h
 obtain⟨i,rfl,q⟩:=h
 obtain⟨u,rfl,t,rfl⟩:=vals1 r
 exact call_abs_int fun u dK=>⟨.int (if i<0 then -i else i),H,aa.tok _,⟨_,rfl⟩,q⟩
theorem AV(hc:X.calm=ah):jL X (.builtin "min") (fun xs H Q=>∃i j,xs=[.int i,.int j]/\Q (.int (if j<i then j else i)) H):=by
 intro ar s U H xs us Q aa r h
 obtain⟨i,j,rfl,q⟩:=h
 obtain⟨u,ie,rfl,⟨t,rfl⟩,⟨t',rfl⟩⟩:=vals2 r
 refine min_two_ints (aa.ok.hd hc) fun h' dK k=>⟨_,H,aa.kept k,?_,q⟩
 by_cases b2:j<i
 .rw[if_pos b2,if_pos b2];exact⟨_,I⟩
 .rw[if_neg b2,if_neg b2];exact⟨_,I⟩
theorem YY:jL X (.type "int") (fun xs H Q=>(∃i,xs=[.int i]/\Q (.int i) H)\/∃k,xs=[.aQ k]/\Q (.int (if k then 1 else 0)) H):=by
 intro ar s U H xs us Q aa r h
 rcases h with⟨i,rfl,q⟩|⟨k,rfl,q⟩
 ·obtain⟨u,rfl,t,rfl⟩:=vals1 r
  exact call_int_int ⟨.int i,H,aa,⟨_,I⟩,q⟩
 ·obtain⟨u,rfl,cv⟩:=vals1 r
  cases cv
  exact call_int_bool ⟨.int (if k then 1 else 0),H,aa.tok _,⟨_,rfl⟩,q⟩
def JP(K:bM)(x:V)(H:aq)(n:Nat):Prop :=
 match x with
 |.str y=>y.length<=cj/\n=y.length
 |.kS y=>y.size<=cj/\n=y.size
 |.ref p=>(∃xs,cK K H p xs/\n=xs.length)\/∃xs,gd K H p xs/\n=xs.length
 |_=>False
inductive JO(K:bM)(xs:List V)(H:aq)(Q:Nat->Prop):Prop where
 |mk (x:V) (n:Nat) (a:xs=[x]) (b:JP K x H n) (h:Q n):JO K xs H Q
theorem du:jL X (.builtin "len") (fun xs H Q=>JO X.K xs H fun n=>Q (.int n) H):=by
 intro ar s U H xs us Q aa r h
 obtain⟨x,n,rfl,e,q⟩:=h
 obtain⟨u,rfl,bp⟩:=vals1 r
 have aD:=v8
 have hs:cj=16777216:=sizeLine_eq
 cases x with
 |str y =>
  obtain⟨t,rfl⟩:=bp
  obtain⟨aU,e'⟩:y.length<=cj/\n=y.length:=e
  subst e'
  exact len_str (by omega) ⟨.int _,H,aa.tok _,⟨_,I⟩,q⟩
 |kS y =>
  obtain⟨t,rfl⟩:=bp
  obtain⟨aU,e'⟩:y.size<=cj/\n=y.size:=e
  subst e'
  exact PySem.W.len_bytes (by omega) ⟨.int _,H,aa.tok _,⟨_,I⟩,q⟩
 | ref p =>
  cases bp
  have e':(∃xs,cK X.K H p xs/\n=xs.length)\/∃xs,gd X.K H p xs/\n=xs.length:=e
  rcases e' with⟨xs,ao,e'⟩|⟨xs,ao,e'⟩
  ·subst e'
   obtain⟨bt,eD,pl,bz⟩:=aa.list ao
   have cM:=eD.length
   exact Calls.call_len_list pl.isList (by simp only[eo];omega) ⟨.int xs.length,H,aa.tok _,⟨_,by simp only[eo];rw[cM]⟩,q⟩
  ·subst e'
   obtain⟨bt,eD,pl,bz⟩:=aa.tuple ao
   have cM:=eD.length
   exact len_tuple pl (by simp only[eo];omega) ⟨.int xs.length,H,aa.tok _,⟨_,by simp only[eo];rw[cM]⟩,q⟩
 |_=>exact(show False from e).elim
end
structure sI(h:bA)(x ak C:af)(fy:ae->Option au):Prop where
 obj:h.get? x=J (mX C ak)
 ns:h.Ns1 ak fy
 ne:ak≠x
theorem YC{ak:af}(n:h.Ns1 ak fy):∃gM,h.get? ak=J gM/\∀name,Jy name gM=J (fy name):=by
 obtain⟨o,es,gu,aH,hd,hk,_,hm⟩:=n
 refine⟨o,aH,fun name=>?_⟩
 have e:=hm name
 unfold nsFind findBy at e
 rw[<-Array.find?_toList]at e
 unfold Jy
 rw[hd]
 dsimp only
 split
 ·rename_i y q
  rw[q]at e
  exact congrArg J e
 ·rename_i q
  rw[q]at e
  have a:es.toList.any (·.refKey)=aF:=by
   rw[List.any_eq_false]
   intro y aU
   obtain⟨z,t,Ce⟩:=hk y (Array.mem_toList_iff.mp aU)
   simp[DictEntry.refKey,Ce]
  have ZB:¬es.toList.any (·.refKey)=ah:=by rw[a];exact hS
  rw[if_neg ZB]
  exact congrArg J e
theorem sI.look{x ak:af}(aa:sI h x ak C fy):∃gM,PySem.W.InstAt h x (mX C ak) C (J gM)/\∀name,Jy name gM=J (fy name) :=
 let ⟨gM,aH,aD⟩:=YC aa.ns
 ⟨gM,⟨aa.obj,rfl,rfl,aH⟩,aD⟩
section
variable {prog:dA} {w:cZ} {A:dF} {E:au->aO->Prop} {s:aO} {K:bM} {x ak C f:af} {fy:ae->Option au} {name:ae} {v:au}
theorem get_map{expr:Bool}{Q:au->aO->Prop}(X:K.In s.heap)(aa:sI s.heap x ak C fy)(aX:Dt K C name=ah)(ft:Jw K C=ah)
  (aJ:gn K (.ref C) name=J aw) (br:fy name=J v) (qQ:PySem.W.handedIn v=ah) (h:Q v {s with toks:=s.toks+1}) :
  bN (model prog w) A (getAttr (.ref x) name expr) Q E s:=by
 obtain⟨gM,el,aD⟩:=aa.look
 exact PySem.W.get_value X el (PySem.W.plainGet_of aX).1 (PySem.W.findObj_own ft aJ I (by rw[aD,br])) qQ h
theorem Zx{pl:Sem Bool}{Q:au×List au->aO->Prop}(X:K.In s.heap)(aa:sI s.heap x ak C fy)(aX:Dt K C name=ah)
  (az:gn K (.ref C) name=J (J (.ref f))) (aM:Jx K (.ref f)=ah) (br:fy name=aw) (h:Q (.ref f,[.ref x]) s) :
  bN (model prog w) A (getMethod (.ref x) name pl) Q E s:=by
 obtain⟨gM,el,aD⟩:=aa.look
 exact PySem.W.method_fn X el (PySem.W.plainGet_of aX).1 (PySem.W.plainGet_of aX).2 az (beq_iff_eq.mp aM) (by show(Jy name gM).map (·.isSome)=J aF;rw[aD,br];rfl) h
theorem Tj(X:K.In s.heap)(aa:sI s.heap x ak C fy)
  (hs:gn K (.ref C) "__setattr__"=J (J (.builtin "object.__setattr__"))) (aY:PySem.W.plainOver K C=ah) (aM:PySem.W.takerIn K C name=J aw) (ft:Jw K C=ah)
  (hw:PySem.Within fy ns) (gy:ns.length<=cj)
  (h:∀h',sI h' x ak C (fun y=>if y=name then J v else fy y)->bA.SameBut ak s.heap h'->Q () {s with heap:=h',toks:=s.toks+2}) :
  bN (model prog w) A (setAttr (.ref x) name v) Q E s:=by
 obtain⟨gM,el,aD⟩:=aa.look
 refine PySem.W.set_plain X el hs (PySem.W.osa_open (s:={s with toks:=s.toks+1}) (r:=aw) X el aY aM fun b=>?_)
 obtain⟨e0,hc,tr⟩:=PySem.W.any_some ft
 have ao:s.heap.get? x=J ⟨.ref C,J ak,.plain,#[]⟩:=aa.obj
 refine bF (dP (bF (bF (wpAny_loadPart ao (bF (PySem.W.Looks.here (s:={s with toks:=s.toks+1}) (PySem.W.looks_clsIn X hc) ?_))))))
 rw[tr]
 refine dP (a:=J ak) (bF (dP (bF ?_)))
 refine wpAny_nsSet1 (s:={s with toks:=s.toks+1}) aa.ns fun h' kg c1=>?_
 obtain⟨ajY,aiZ,aiY,acA,abP,abM⟩:=kg.count (PySem.Within.cons name v hw)
 refine bF (wpAny_lookBehind acA (by rw[abP];exact pastItsLine_dict (dE abM (by rw[d6];omega))) ?_)
 exact dP (h _ ⟨(c1.2 _ (eF aa.ne)).trans aa.obj,kg,aa.ne⟩ c1)
theorem Zu{R:Result->aO->Prop}{vs:List au}(X:K.In s.heap)(hm:zo K C=ah)
  (ay:gn K (.ref C) "__init__"=J (J (.ref f))) (az:PySem.W.typeIn K (.ref f)=J (.type "function"))
  (h:n2 (model prog w) (A.under (.builtin "type.__call__" ⟨.ref C::vs,kw⟩)) (.call (.ref f) ⟨.ref (s.heap.objs.size+1)::vs,kw⟩) (PySem.W.InitBack (s.heap.objs.size+1) R)
   {s with heap:=(s.heap.push mV).push (mX C s.heap.objs.size)}) :
  n2 (model prog w) A (.call (.ref C) ⟨vs,kw⟩) R s:=by
 obtain⟨ft,g,d,t,os⟩:=s
 exact PySem.W.make_core (PySem.W.makes_of X hm) (PySem.W.looks_findIn X ay) (fun self=>PySem.W.bind_fn X self az) (.inl I) h
theorem YB{R:Result->aO->Prop}(X:K.In s.heap)(hm:zo K C=ah)
  (ay:gn K (.ref C) "__init__"=J (J (.builtin "object.__init__")))
  (ag:∀self,PySem.W.Looks (model prog w) s.heap (bindSpecial (.builtin "object.__init__") self) (.builtin "object.__init__",[self]))
  (h:n2 (model prog w) (A.under (.builtin "type.__call__" ⟨[.ref C],[]⟩)) (.call (.builtin "object.__init__") ⟨[.ref (s.heap.objs.size+1)],[]⟩) (PySem.W.InitBack (s.heap.objs.size+1) R)
   {s with heap:=(s.heap.push mV).push (mX C s.heap.objs.size)}) :
  n2 (model prog w) A (.call (.ref C) ⟨[],[]⟩) R s:=by
 obtain⟨ft,g,d,t,os⟩:=s
 exact PySem.W.make_core (PySem.W.makes_of X hm) (PySem.W.looks_findIn X ay) ag (.inr ⟨I,I⟩) h
end
noncomputable def eY(f:ae)(v:V):List (ae×V)->List (ae×V)
 |[]=>[(f,v)]
 |(g,x)::r=>if g=f then(g,v)::r else(g,x)::eY f v r
theorem KM(f g:ae)(v:V):∀fs:List (ae×V),(eY f v fs).lookup g=if g=f then J v else fs.lookup g
 | []=>by
  show List.lookup g [(f,v)]=_
  by_cases h:g=f
  ·have ag:(g == f)=ah:=beq_iff_eq.mpr h
   simp only[List.lookup,ag,if_pos h]
  ·have ag:(g == f)=aF:=beq_eq_false_iff_ne.mpr h
   simp only[List.lookup,ag,if_neg h]
 | (k,x)::r=>by
  have bT:=KM f g v r
  rw[show eY f v ((k,x)::r)=(if k=f then(k,v)::r else(k,x)::eY f v r)from rfl]
  by_cases hk:k=f
  ·rw[if_pos hk]
   by_cases h:g=k
   ·have ag:(g == k)=ah:=beq_iff_eq.mpr h
    simp only[List.lookup,ag,if_pos (h.trans hk)]
   ·have ag:(g == k)=aF:=beq_eq_false_iff_ne.mpr h
    simp only[List.lookup,ag,if_neg (fun e:g=f=>h (e.trans hk.symm))]
  ·rw[if_neg hk]
   by_cases h:g=k
   ·have ag:(g == k)=ah:=beq_iff_eq.mpr h
    simp only[List.lookup,ag,if_neg (fun e:g=f=>hk (h.symm.trans e))]
   ·have ag:(g == k)=aF:=beq_eq_false_iff_ne.mpr h
    simp only[List.lookup,ag]
    exact bT
theorem Fy(f:ae)(v:V):∀fs:List (ae×V),f∈(eY f v fs).map (·.1)/\∀g,g∈fs.map (·.1)->g∈(eY f v fs).map (·.1)
 |[]=>⟨by simp[eY],fun g h=>by simp at h⟩
 | (k,x)::r=>by
  obtain⟨dR,da⟩:=Fy f v r
  rw[show eY f v ((k,x)::r)=(if k=f then(k,v)::r else(k,x)::eY f v r)from rfl]
  by_cases hk:k=f
  ·rw[if_pos hk]
   subst hk
   exact⟨by simp,fun g h=>by simpa using h⟩
  ·rw[if_neg hk]
   refine⟨?_,fun g h=>?_⟩
   ·rw[fD]
    exact en _ dR
   ·rw[fD]at h ⊢
    rcases c9.mp h with e|e
    .exact c9.mpr (.inl e)
    .exact en _ (da g e)
theorem KO(f:ae)(v:V):∀fs:List (ae×V),(eY f v fs).length<=fs.length+1
 |[]=>by simp[eY]
 |(k,x)::r=>by
  have bT:=KO f v r
  rw[show eY f v ((k,x)::r)=(if k=f then(k,v)::r else(k,x)::eY f v r)from rfl]
  by_cases hk:k=f
  .rw[if_pos hk,d6,d6];omega
  .rw[if_neg hk,d6,d6];omega
theorem pz.ahj{v:V}{o:Option au}(r:pz (J v) o):∃u,o=J u/\RelV v u:=by
 cases o with
 |none=>exact(show False from r).elim
 |some u=>exact⟨u,I,r⟩
theorem pz.none_of{o:Option au}(r:pz aw o):o=aw:=by
 cases o with
 |none=>rfl
 |some u=>exact(show False from r).elim
theorem YI{v:V}(r:RelV v u):PySem.W.handedIn u=ah:=by
 cases v with
 |aT=>cases(show u=au.none from r);rfl
 |aQ b=>cases(show u=au.bool b from r);rfl
 |int i=>obtain⟨t,e⟩:=(show ∃t,u=au.int i t from r);cases e;rfl
 |str x=>obtain⟨t,e⟩:=(show ∃t,u=au.str x t from r);cases e;rfl
 |kS b=>obtain⟨t,e⟩:=(show ∃t,u=au.bytes b t from r);cases e;rfl
 |te b=>obtain⟨t,e⟩:=(show ∃t,u=au.float b t from r);cases e;rfl
 |ref a=>cases(show u=au.ref a from r);rfl
 |ty n=>cases(show u=au.type n from r);rfl
section
variable {P:dA} {w:cZ} {H H':aq} {h h':bA} {a C ak:af} {fs ox:List (ae×V)}
theorem Bh(aL:f3 P w H h)(e:H a=J (.ins C ak fs)):∃fy,sI h a ak C fy/\(∀f,pz (fs.lookup f) (fy f))/\PySem.Within fy (fs.map (·.1))/\fs.length<=1000/\H ak=J (.own a):=by
 obtain⟨d,z,ne,ec,fy,n,r,q⟩:=(show ih P w H h a (.ins C ak fs)from aL a _ e)
 exact⟨fy,⟨ec,n,ne⟩,r,q,z,d⟩
end
structure fY(K:bM)(C:af):Prop where
 aeT:Dt K C ae.empty=ah
 hd:Jw K C=ah
 po:PySem.W.plainOver K C=ah
 aha:gn K (.ref C) "__setattr__"=J (J (.builtin "object.__setattr__"))
theorem fY.get(c:fY K C)(f:ae):Dt K C f=ah:=c.aeT
def jv(K:bM)(C:af)(f:ae):Prop:=gn K (.ref C) f=J aw
theorem jv.ahX{f:ae}(n:jv K C f):PySem.W.takerIn K C f=J aw:=by
 unfold PySem.W.takerIn
 rw[show gn K (.ref C) f=J aw from n]
 rfl
structure uQ(K:bM)(C:af)(m:ae)(f:af):Prop where
 at_:gn K (.ref C) m=J (J (.ref f))
 fn:Jx K (.ref f)=ah
 iL:p1 K (.ref f)=ah
section
variable {X:bS} {ar:List (af×bU)} {U:St} {H:aq} {s:aO} {a C ak:af} {fs:List (ae×V)} {f:ae} {v:V} {A:dF} {E:au->aO->Prop}
theorem XW{b:Bool}{Q:au->aO->Prop}(aa:Inv X ar U H s)(e:H a=J (.ins C ak fs))(c:fY X.K C)(n:jv X.K C f)(l:fs.lookup f=J v)
  (h:∀u bl,Inv X ar U H bl->RelV v u->Q u bl):bN (model X.prog X.w) A (getAttr (.ref a) f b) Q E s:=by
 obtain⟨fy,O,r,_,_,_⟩:=Bh aa.aL e
 obtain⟨u,cC,e4⟩:=pz.ahj (v:=v) (o:=fy f) (by rw[<-l];exact r f)
 exact get_map aa.hB O (c.get f) c.hd n cC (YI e4) (h u _ (aa.tok _) e4)
theorem Fm{m:ae}{g:af}{pl:Sem Bool}{Q:au×List au->aO->Prop}(aa:Inv X ar U H s)(e:H a=J (.ins C ak fs))(c:fY X.K C)(k:uQ X.K C m g)(l:fs.lookup m=aw)
  (h:Q (.ref g,[.ref a]) s):bN (model X.prog X.w) A (getMethod (.ref a) m pl) Q E s:=by
 obtain⟨fy,O,r,_,_,_⟩:=Bh aa.aL e
 have aW:fy m=aw:=pz.none_of (by rw[<-l];exact r m)
 exact Zx aa.hB O (c.get m) k.at_ k.fn aW h
theorem XA(aa:Inv X ar U H s)(e:H a=J (.ins C ak fs))(c:fY X.K C)(n:jv X.K C f)(aD:fs.length<1000)(cn:RelV y u)
  (h:∀bl,Inv X ar U (upd H a (.ins C ak (eY f y fs))) bl->Q () bl):bN (model X.prog X.w) A (setAttr (.ref a) f u) Q E s:=by
 obtain⟨fy,O,r,iO,_,aH⟩:=Bh aa.aL e
 have bz:(fs.map (·.1)).length<=cj:=by rw[cw,sizeLine_eq];omega
 refine Tj aa.hB O c.aha c.po n.ahX c.hd iO bz fun h' Eb nS=>h _ ?_
 have hd:∃o,h'.get? ak=J o:=let ⟨o,_,_,e',_⟩:=Eb.ns;⟨o,e'⟩
 refine aa.write (x:=a) (e:=ak) (by rw[e];exact True.intro) (.inr aH) (fun b q ag z=>(nS.2 b ag).trans z) hd ?_
 refine⟨by rw[bK O.ne];exact aH,?_,O.ne,Eb.obj,_,Eb.ns,fun g=>?_,fun g aX=>?_⟩
 .have:=KO f y fs;omega
 ·show pz ((eY f y fs).lookup g) (if g=f then J u else fy g)
  rw[KM]
  by_cases q:g=f
  .rw[if_pos q,if_pos q];exact cn
  .rw[if_neg q,if_neg q];exact r g
 ·by_cases q:g=f
  .rw[q];exact(Fy f y fs).1
  ·refine(Fy f y fs).2 g (iO g fun z=>aX ?_)
   show(if g=f then J u else fy g)=aw
   rw[if_neg q];exact z
theorem Inv.made(aa:Inv X ar U H s):Inv X ar U (upd (upd H s.heap.objs.size (.own (s.heap.objs.size+1))) (s.heap.objs.size+1) (.ins C s.heap.objs.size []))
  {s with heap:=(s.heap.push mV).push (mX C s.heap.objs.size)}:=by
 have aS:(s.heap.push mV).get? s.heap.objs.size=J mV:=hH s.heap rfl
 have aV:((s.heap.push mV).push (mX C s.heap.objs.size)).get? (s.heap.objs.size+1)=J (mX C s.heap.objs.size):=by
  have:=hH (s.heap.push mV) (o:=mX C s.heap.objs.size) rfl
  rwa [bA.size_push]at this
 have gh:(s.heap.push mV).Ns s.heap.objs.size (fun _=>aw):=⟨mV,#[],_,aS,rfl,(fun e he=>absurd he (by simp)),fun _=>rfl⟩
 have bC:=aa.laid (a:=s.heap.objs.size) (o :=.own (s.heap.objs.size+1)) (h':=s.heap.push mV) (t':=s.toks) (fun b u q=>fV _ q) (b8 _) ⟨_,aS⟩
 refine bC.laid (a:=s.heap.objs.size+1) (o :=.ins C s.heap.objs.size []) (t':=s.toks) (fun b u q=>fV _ q) (Nat.le_of_eq (bA.size_push _ _)) ?_
 have ne:s.heap.objs.size≠s.heap.objs.size+1:=g0 (Nat.lt_succ_self _)
 refine⟨by rw[bK ne,aG],UF _,ne,aV,fun _=>aw,(bA.Ns1.of_empty gh).at fun o q=>fV _ q,fun _=>True.intro,fun y aU=>absurd rfl aU⟩
theorem Ub{f:ae}{s:aO}{Q:au->aO->Prop}(ag:attributeBase e f env (eval e env)=eval e env)
  (h:bN (model prog w) A (eval e env) (fun o eg=>bN (model prog w) A (getAttr o f ah) Q E eg) E s):bN (model prog w) A (eval (.Attribute e f aZ) env) Q E s :=
 Attribute_any_ h (by rw[arm_eval_Attribute,ag])
end
inductive JF(K:bM)(f:ae)(x:V)(H:aq)(Q:V->Prop):Prop where
 |mk (a C ak:af) (fs:List (ae×V)) (v:V) (e:x=.ref a) (h:H a=J (.ins C ak fs)) (c:fY K C) (n:jv K C f) (l:fs.lookup f=J v) (q:Q v):JF K f x H Q
def ahA(K:bM)(cH:TE)(f:ae):TE:=fun U H Q=>cH U H fun x H1=>JF K f x H1 fun v=>Q v H1
def ag9(K:bM)(cH wH:TE)(f:ae):e1:=fun D U H=>wH U H fun y H1=>cH U H1 fun x av=>∃a C ak fs,x=.ref a/\av a=J (.ins C ak fs)/\fY K C/\jv K C f/\fs.length<1000/\
 D.nx U (upd av a (.ins C ak (eY f y fs)))
section
variable {X:bS} {o e value:cO} {f:ae} {aZ pos' wG:Pos} {cH wH:TE}
theorem ed(he:cz X e cH)(ag:attributeBase e f X.env (eval e X.env)=eval e X.env):cz X (.Attribute e f aZ) (ahA X.K cH f):=by
 intro ar s U H Q aa h
 refine Ub ag (dm (he ar s U H _ aa h) fun u s1 b4=>?_)
 obtain⟨x,H1,bC,bp,a,C,ak,fs,v,ex,dz,c,n,l,q⟩:=b4
 subst ex
 obtain rfl:u=au.ref a:=bp
 exact XW bC dz c n l fun u' s2 cJ e4=>⟨v,H1,cJ,e4,q⟩
theorem iE(aJ:cz X o cH)(br:cz X value wH)(hs:swapsWith value (J (.Attribute o f pos')) aZ.line X.env=pure aF):lr X (.Assign [.Attribute o f pos'] value aZ) (ag9 X.K cH wH f):=by
 intro ar s U H D aa h
 refine plainObj_wpAny_Assign_Attribute (dm (br ar s U H _ aa h) fun u s1 ⟨y,H1,bC,cn,q⟩=>dm (aJ ar s1 U H1 _ bC q) fun k2 s2 b4=>?_) hs
 obtain⟨x,av,cJ,bp,a,C,ak,fs,ex,dz,c,n,l,bX⟩:=b4
 subst ex
 obtain rfl:k2=au.ref a:=bp
 exact XA cJ dz c n l cn fun iM jM=>⟨U,_,jM,bX⟩
end
section
variable {X:bS} {ar:List (af×bU)} {U:St} {H:aq} {s:aO} {A:dF} {E:au->aO->Prop} {Q:au->aO->Prop} {c:au} {b:Bool}
inductive lu (K:bM) (H:aq):V->au->Prop where
 |aT:lu K H .aT (.type "NoneType")
 |aQ (x:Bool):lu K H (.aQ x) (.type "bool")
 |int (i:Int):lu K H (.int i) (.type "int")
 |str (x:ae):lu K H (.str x) (.type "str")
 |te (x:UInt64):lu K H (.te x) (.type "float")
 |lst {a:af} {xs:List V} (e:H a=J (.lst xs)):lu K H (.ref a) (.type "list")
 |ji {a:af} {o:bU} {xs:List V} (e:H a=J (.ji o (.lst xs))):lu K H (.ref a) (.type "list")
 |tup {a:af} {xs:List V} (e:H a=J (.tup xs)):lu K H (.ref a) (.type "tuple")
 |my {a:af} {f9:List (Key×V)} (e:H a=J (.my f9)):lu K H (.ref a) (.type "dict")
 |pM {a:af} {f9:List (List Key×V)} (e:H a=J (.pM f9)):lu K H (.ref a) (.type "dict")
 | ins {a C ak:af} {fs:List (ae×V)} (e:H a=J (.ins C ak fs)) (cl:fY K C) (aJ:gn K (.ref C) "__class__"=J (J (.builtin "object.__class__")))
   (aW:PySem.W.specialIn K (.builtin "object.__class__") "__get__"=J (J (.builtin "getset_descriptor.__get__"))) (oP:PySem.W.takesIn K (.builtin "object.__class__")=J ah)
   (hm:PySem.W.mroIn K C (.type "object")=J ah):lu K H (.ref a) (.ref C)
theorem Ln{x:V}{t:au}(aa:Inv X ar U H s)(bp:RelV x u)(ty:lu X.K H x t)(e:uq X.K t c=J b)(h:∀dK,Q (.bool b) {s with toks:=dK}):
  bN (model X.prog X.w) A (call (.builtin "isinstance") [u,c]) Q E s:=by
 cases ty with
 |aT=>cases(show u=au.none from bp);exact q6 PySem.W.kitx_none aa.hB True.intro e (fun z=>nomatch z) h
 |aQ y=>cases(show u=au.bool y from bp);exact q6 PySem.W.kitx_bool aa.hB True.intro e (fun z=>nomatch z) h
 |int i=>obtain⟨t,q⟩:=(show ∃t,u=au.int i t from bp);cases q;exact q6 PySem.W.kitx_int aa.hB True.intro e (fun z=>nomatch z) h
 |str y=>obtain⟨t,q⟩:=(show ∃t,u=au.str y t from bp);cases q;exact q6 PySem.W.kitx_str aa.hB True.intro e (fun z=>nomatch z) h
 |te y=>obtain⟨t,q⟩:=(show ∃t,u=au.float y t from bp);cases q;exact q6 PySem.W.kitx_float aa.hB True.intro e (fun z=>nomatch z) h
 | @lst a xs dz =>
  cases(show u=au.ref a from bp)
  obtain⟨_,_,n,_,ai⟩:=(show ih X.prog X.w H s.heap a (.lst xs)from aa.aL a _ dz)
  exact q6 PySem.W.kitx_list aa.hB ⟨_,ai,I⟩ e (fun z=>nomatch z) h
 | @ji a ec xs dz =>
  cases(show u=au.ref a from bp)
  obtain⟨_,_,_,n,_,ai⟩:=(show ih X.prog X.w H s.heap a (.ji ec (.lst xs))from aa.aL a _ dz)
  exact q6 PySem.W.kitx_list aa.hB ⟨_,ai,I⟩ e (fun z=>nomatch z) h
 | @tup a xs dz =>
  cases(show u=au.ref a from bp)
  obtain⟨_,_,_,p⟩:=(show ih X.prog X.w H s.heap a (.tup xs)from aa.aL a _ dz)
  obtain⟨o,ai,aj,_⟩:=p
  exact q6 PySem.W.kitx_tuple aa.hB ⟨o,ai,aj⟩ e (fun z=>nomatch z) h
 | @my a f9 dz =>
  cases(show u=au.ref a from bp)
  obtain⟨_,_,vs,_,p⟩:=(show ih X.prog X.w H s.heap a (.my f9)from aa.aL a _ dz)
  obtain⟨o,es,gu,ai,aj,_⟩:=p
  exact q6 PySem.W.kitx_dict aa.hB ⟨o,ai,aj.1⟩ e (fun z=>nomatch z) h
 | @pM a f9 dz=>exact(show False from aa.aL a _ dz).elim
 | @ins a C ak fs dz cl aJ aW oP hm =>
  cases(show u=au.ref a from bp)
  obtain⟨fy,O,_⟩:=Bh aa.aL dz
  obtain⟨gM,el,_⟩:=O.look
  exact q6 (PySem.W.kitx_own (cl.get _) cl.hd aJ aW oP hm) aa.hB el e (fun z=>nomatch z) h
end
structure gB(k:Nat)(A:dF):Prop where
 hd:A.handled=aw
 kz:A.depth+3*k+5<recursionLimit
 un:A.units+16*k+200<cLine
theorem gB.mono(r:gB k A)(h:j<=k):gB j A:=⟨r.hd,by have:=r.kz;omega,by have:=r.un;omega⟩
theorem gB.deeper(r:gB (k+1) A)(env:Env):gB k (A.deeper env) :=
 ⟨r.hd,by have:=r.kz;show A.depth+1+3*k+5<_;omega,by have:=r.un;show A.units+3+16*k+200<_;omega⟩
theorem XO:(A.under (.builtin "type.__call__" ⟨.ref C::us,kw⟩)).depth=A.depth+1:=by
 first|rfl|simp[dF.under,Code.weight,Code.isCreation,Code.isGuard,Code.isCaller,Code.frames,Code.isFrame,guardIds]
theorem XN:(A.under (.builtin "type.__call__" ⟨.ref C::us,kw⟩)).units=A.units+1:=by
 first|rfl|simp[dF.under,Code.cUnits,Code.frames,Code.isFrame]
theorem gB.make(r:gB (k+1) A)(C:af)(us:List au)(kw:List (ae×au)):gB k (A.under (.builtin "type.__call__" ⟨.ref C::us,kw⟩)) :=
 ⟨r.hd,by have:=r.kz;rw[XO];omega,by have:=r.un;rw[XN];omega⟩
theorem gB.depth(r:gB k A):A.depth<recursionLimit:=by have:=r.kz;omega
noncomputable def De:h4:=fun _ H Q=>Q [] H
noncomputable def Q3(cH:TE)(aie:h4):h4:=fun U H Q=>cH U H fun x H1=>aie U H1 fun xs av=>Q (x::xs) av
section
variable {X:bS} {e:cO} {es:List cO} {cI:TE} {t:h4} {aZ:Pos}
theorem aB:iQ X [] De:=fun _ _ _ _ H Q aa h=>Calls.spliced_nil ⟨[],H,aa,.nil,h⟩
theorem al(aJ:cz X e cI)(ax:iQ X es t)(hs:ek (e::es) X.env=(aF,eval e X.env)::ek es X.env:=by rfl):iQ X (e::es) (Q3 cI t):=by
 intro aZ ar s U H Q aa h
 rw[hs]
 show bN _ _ (spliced ((aF,eval e X.env)::backTo aZ (ek es X.env))) _ _ s
 refine Calls.spliced_cons (dm (aJ ar s U H _ aa h) fun u s1 b4=>?_)
 obtain⟨x,H1,bC,cv,cu⟩:=b4
 refine dm (ax aZ ar s1 U H1 _ bC cu) fun us s2 b4=>?_
 obtain⟨xs,av,cJ,dZ,bX⟩:=b4
 exact ⟨x::xs,av,cJ,.cons cv dZ,bX⟩
def ahN(t:h4):TE:=fun U H Q=>t U H fun xs H1=>xs.length<=cj/\∀p,H1 p=aw->Q (.ref p) (upd H1 p (.tup xs))
def ahE(t:h4):TE:=fun U H Q=>t U H fun xs H1=>xs.length<=cj/\∀p,H1 p=aw->Q (.ref p) (upd H1 p (.lst xs))
theorem jf{k8}(h:iQ X es t):cz X (.Tuple es k8 aZ) (ahN t):=by
 intro ar s U H Q aa bj
 refine wpAny_Tuple_spliced (dm (h aZ ar s U H _ aa bj) fun us s1 b4=>?_)
 obtain⟨xs,H1,bC,r,z,q⟩:=b4
 refine ⟨by rw[<-r.length];exact z,?_⟩
 have az:H1 s1.heap.objs.size=aw:=bC.aL.fresh (b8 _)
 refine⟨.ref s1.heap.objs.size,upd H1 s1.heap.objs.size (.tup xs),bC.laid (t':=s1.toks) (fun b u e=>fV _ e) (b8 _) ?_,I,q _ az⟩
 exact⟨z,us,r,⟨_,hH _ I,I,_,I⟩⟩
theorem h6(h:iQ X es t):cz X (.List es aZ) (ahE t):=by
 intro ar s U H Q aa bj
 refine wpAny_List_spliced (dm (h aZ ar s U H _ aa bj) fun us s1 b4=>?_)
 obtain⟨xs,H1,bC,r,z,q⟩:=b4
 refine ⟨by rw[<-r.length];exact z,?_⟩
 have az:H1 s1.heap.objs.size=aw:=bC.aL.fresh (b8 _)
 refine⟨.ref s1.heap.objs.size,upd H1 s1.heap.objs.size (.lst xs),bC.laid (t':=s1.toks) (fun b u e=>fV _ e) (b8 _) ?_,I,q _ az⟩
 exact⟨z,us,0,r,hH _ I⟩
end
noncomputable abbrev cD:=List V->aq->bJ->cN->Prop
noncomputable abbrev mZ:=List Env->aq->aO->cN->au->aO->Prop
structure sz(P:dA)(w:cZ)(K:bM)(mg:ae->Option au)(base:bA)(A:dF)(outer:List Env)(s:aO)(H:aq):Prop where
 frames:A.frames=J outer
 mod:Mod K mg base
 bs:∀b o,base.get? b=J o->s.heap.get? b=J o/\H b=aw
 qw:base.objs.size<=s.heap.objs.size
 nr:s.heap.FunFrames base outer
 tf:∀b∈kf outer,H b=aw
 aL:f3 P w H s.heap
 bare:AllBare s.gens
def Dz(outer:List Env)(P:dA)(w:cZ)(H:aq)(s:aO)(Q:bJ)(u:au)(bl:aO):Prop :=
 ∃v H',bl.os=s.os/\AllBare bl.gens/\gR (kf outer) [] H H' s.heap bl.heap/\f3 P w H' bl.heap/\RelV v u/\Q v H'
def Rr(CX:mZ)(outer:List Env)(P:dA)(w:cZ)(H:aq)(s:aO)(Q:bJ)(E:cN)(r:Result)(bl:aO):Prop :=
 match r with
 |.ok (.ret u)=>Dz outer P w H s Q u bl
 |.ok _=>False
 |.error e=>CX outer H s E e bl
structure de(P:dA)(w:cZ)(K:bM)(mg:ae->Option au)(base:bA)(CX:mZ)(k:Nat)(f:af)(fd:iP)(aK:List ae)(sp:cD):Prop where
 len:∀vs H Q E,sp vs H Q E->vs.length=aK.length
 run:∀(A:dF)(outer:List Env)(s:aO)(H:aq)(args:Args)(us:List au)(vs:List V)(Q:bJ)(E:cN),gB k A->sz P w K mg base A outer s H->BindsTo s fd args (aK.zip us)->Vals vs us->sp vs H Q E->
  n2 (model P w) A (.call (.ref f) args) (Rr CX outer P w H s Q E) s
variable {CX:mZ} {f:af}
theorem de.mono{sp:cD}(F:de P w K mg base CX j f fd aK sp)(h:j<=k):
  de P w K mg base CX k f fd aK sp:=⟨F.len,fun A outer s H args us vs Q E ax=>F.run A outer s H args us vs Q E (ax.mono h)⟩
theorem sz.make(e:sz P w K mg base A outer s H)(C:af)(us:List au)(kw:List (ae×au)):
  sz P w K mg base (A.under (.builtin "type.__call__" ⟨.ref C::us,kw⟩)) outer s H:=⟨by first|exact e.frames|(simpa [dF.under,Code.envs,Code.isFrame,pushEnvs] using e.frames),e.mod,e.bs,e.qw,e.nr,e.tf,e.aL,e.bare⟩
section
variable {X:bS} {ar:List (af×bU)} {U:St} {H:aq} {s bl:aO}
theorem Inv.M8(aa:Inv X ar U H s):sz X.prog X.w X.K X.mg X.base X.A X.stack s H :=
 ⟨aa.ok.frames,aa.ok.mod,aa.bs,dE aa.ok.qw aa.dD,aa.stack,aa.I6,aa.aL,aa.bare⟩
theorem Inv.after{Q:bJ}(aa:Inv X ar U H s)(h:Dz X.stack X.prog X.w H s Q u bl):iA X ar U Q u bl:=by
 obtain⟨v,H',os,bare,un,aL,r,q⟩:=h
 obtain⟨ft,g,d,t,yR⟩:=bl
 obtain rfl:yR=s.os:=os
 exact⟨v,H',aa.call (h':=ft) (g':=g) (d':=d) (t':=t) (ch:=[]) un aL bare (fun b z=>absurd z (by simp)),r,q⟩
end
def I7(sp:cD)(dvs:List V)(E:cN)(t:h4):TE:=fun U H Q=>t U H fun vs H1=>sp (vs++dvs) H1 Q E
inductive JS(C:af)(m:ae)(x:V)(H:aq)(R:Prop):Prop where
 |mk (a ak:af) (fs:List (ae×V)) (e:x=.ref a) (h:H a=J (.ins C ak fs)) (l:fs.lookup m=aw) (q:R):JS C m x H R
def Dd(C:af)(m:ae)(sp:cD)(dvs:List V)(E:cN)(cH:TE)(t:h4):TE:=fun U H Q=>cH U H fun x H1=>JS C m x H1 (
 t U H1 fun vs av=>sp (x::(vs++dvs)) av Q E)
def Q4(C:af)(sp:cD)(dvs:List V)(E:cN)(t:h4):TE:=fun U H Q=>t U H fun vs H1=>∀x ak,H1 x=aw->H1 ak=aw->ak≠x->
 sp (.ref x::(vs++dvs)) (upd (upd H1 ak (.own x)) x (.ins C ak [])) (fun v av=>v=.aT/\Q (.ref x) av) E
def Binds(K:bM)(fd:iP)(aK:List ae)(ds:List au):Prop :=
 ∀(s:aO)(us:List au),K.In s.heap->(us++ds).length=aK.length->BindsTo s fd ⟨us,[]⟩ (aK.zip (us++ds))
theorem Binds.all(h:∀us:List au,us.length=aK.length->bindArgs fd ⟨us,[]⟩=pure (aK.zip us)):Binds K fd aK []:=fun s us _ aD=>by
 rw[List.append_nil]at aD ⊢
 exact .of_eq (h us aD)
def Passes(CX:mZ)(X:bS)(E:cN):Prop:=∀(ar:List (af×bU))(U:St)(H:aq)(s:aO)(e:au)(bl:aO),Inv X ar U H s->CX X.stack H s E e bl->X.xe e bl
section
variable {X:bS} {CX:mZ} {k:Nat} {f C:af} {fd:iP} {aK:List ae} {sp:cD} {dvs:List V} {ds:List au} {E:cN} {x m:ae} {p aZ apos:Pos} {e o:cO} {es:List cO} {cH:TE} {t:h4}
theorem Bk{U:St}{Q:bJ}{vs:List V}(F:de X.prog X.w X.K X.mg X.base CX k f fd aK sp)(ax:gB k X.A)(ag:Binds X.K fd aK ds)(hd:Vals dvs ds)(ao:Passes CX X E)
  (aa:Inv X ar U H s) (r:Vals vs us) (h:sp (vs++dvs) H Q E):bN (model X.prog X.w) X.A (call (.ref f) us) (iA X ar U Q) X.xe s:=by
 have dZ:Vals (vs++dvs) (us++ds):=r.append hd
 have aD:(us++ds).length=aK.length:=by rw[<-dZ.length];exact F.len _ _ _ _ h
 refine Du (ur (F.run X.A X.stack s H ⟨us,[]⟩ (us++ds) (vs++dvs) Q E ax aa.M8 (ag s us aa.hB aD) dZ h) fun r bl bj=>?_)
 cases r with
 |error e=>exact ao ar U H s e bl aa bj
 |ok fi =>
  cases fi with
  |ret u=>exact aa.after bj
  |next=>exact False.elim bj
  |brk=>exact False.elim bj
  |cont=>exact False.elim bj
theorem Tw(F:de X.prog X.w X.K X.mg X.base CX k f fd aK sp)(ax:gB k X.A)(aX:jr X x)(hm:X.mg x=J (.ref f))(hk:p1 X.K (.ref f)=ah)(ag:Binds X.K fd aK ds)(hd:Vals dvs ds)(ao:Passes CX X E)
  (aJ:iQ X (e::es) t) (mF:(x == ("__debug__":ae))=aF:=by decide) (he:ek (e::es) X.env=(aF,eval e X.env)::ek es X.env:=by rfl) (gx:(backTo aZ (ek es X.env)).any (·.1)=aF:=by rfl) :
  cz X (.Call (.Name x p) (e::es) [] aZ) (I7 sp dvs E t):=by
 intro ar s U H Q aa h
 refine uu (Bf aa aX hm ?_ mF)
 refine Jv (h₀:=X.base) aa.ok.mod.vZ hk (dm (aJ aZ ar s U H _ aa h) fun us s1 b4=>?_) he gx
 obtain⟨vs,H1,bC,r,q⟩:=b4
 refine ⟨bC.hB,?_⟩
 exact Bk F ax ag hd ao bC r q
theorem Tt{pl:Sem Bool}(he:cz X o cH)(c:fY X.K C)(hm:uQ X.K C m f)(F:de X.prog X.w X.K X.mg X.base CX k f fd aK sp)(ax:gB k X.A)(ag:Binds X.K fd aK ds)(hd:Vals dvs ds)(ao:Passes CX X E)(aJ:iQ X (e::es) t)
  (qP:ek (e::es) X.env=(aF,eval e X.env)::ek es X.env:=by rfl) (gx:(backTo aZ (ek es X.env)).any (·.1)=aF:=by rfl)
  (aM:eval (.Call (.Attribute o m apos) (e::es) [] aZ) X.env=(do
   let k2 <-eval o X.env
   standAt apos.atName
   let (f,first) <-holding [k2] (getMethod k2 m pl)
   callWith aZ f first (backTo aZ (ek (e::es) X.env)) (backToKw aZ (wQ [] X.env))):=by rfl) :
  cz X (.Call (.Attribute o m apos) (e::es) [] aZ) (Dd C m sp dvs E cH t):=by
 intro ar s U H Q aa h
 refine PySem.W.methodCall_KW (pl:=pl) (dm (he ar s U H _ aa h) fun u s1 b4=>?_) aM
 obtain⟨x,H1,bC,bp,a,ak,fs,ex,dz,l,q⟩:=b4
 subst ex
 obtain rfl:u=au.ref a:=bp
 refine Fm bC dz c hm l ?_
 refine Jv (first:=[.ref a]) (h₀:=X.base) aa.ok.mod.vZ hm.iL (dm (aJ aZ ar s1 U H1 _ bC q) fun us s2 b4=>?_) qP gx
 obtain⟨vs,av,cJ,r,bX⟩:=b4
 refine ⟨cJ.hB,?_⟩
 exact Bk (us :=.ref a::us) (vs :=.ref a::vs) F ax ag hd ao cJ (.cons I r) bX
theorem Zo{pl:Sem Bool}(he:cz X o cH)(c:fY X.K C)(hm:uQ X.K C m f)(F:de X.prog X.w X.K X.mg X.base CX k f fd aK sp)(ax:gB k X.A)(ag:Binds X.K fd aK ds)(hd:Vals dvs ds)(ao:Passes CX X E)
  (aM:eval (.Call (.Attribute o m apos) [] [] aZ) X.env=(do
   let k2 <-eval o X.env
   standAt apos.atName
   let (f,first) <-holding [k2] (getMethod k2 m pl)
   callWith aZ f first (backTo aZ (ek [] X.env)) (backToKw aZ (wQ [] X.env))):=by rfl) :
  cz X (.Call (.Attribute o m apos) [] [] aZ) (Dd C m sp dvs E cH De):=by
 intro ar s U H Q aa h
 refine PySem.W.methodCall_KW (pl:=pl) (dm (he ar s U H _ aa h) fun u s1 b4=>?_) aM
 obtain⟨x,H1,bC,bp,a,ak,fs,ex,dz,l,q⟩:=b4
 subst ex
 obtain rfl:u=au.ref a:=bp
 refine Fm bC dz c hm l ?_
 exact PySem.W.callWith_K0 (first:=[.ref a]) bC.hB hm.iL (Bk (us:=[.ref a]) (vs:=[.ref a]) F ax ag hd ao bC (.cons I .nil) q)
structure D9(K:bM)(C f:af):Prop where
 makes:zo K C=ah
 init:gn K (.ref C) "__init__"=J (J (.ref f))
 fn:Jx K (.ref f)=ah
 iL:p1 K (.ref C)=ah
theorem Ze{U:St}{Q:bJ}{vs:List V}(M:D9 X.K C f)(F:de X.prog X.w X.K X.mg X.base CX k f fd aK sp)(ax:gB (k+1) X.A)(ag:Binds X.K fd aK ds)(hd:Vals dvs ds)
  (ao:Passes CX X E) (aa:Inv X ar U H s) (r:Vals vs us)
  (h:∀x ak,H x=aw->H ak=aw->ak≠x->sp (.ref x::(vs++dvs)) (upd (upd H ak (.own x)) x (.ins C ak [])) (fun v av=>v=.aT/\Q (.ref x) av) E) :
  bN (model X.prog X.w) X.A (call (.ref C) us) (iA X ar U Q) X.xe s:=by
 have bj:=h (s.heap.objs.size+1) s.heap.objs.size (aa.aL.fresh (Nat.le_succ _)) (aa.aL.fresh (b8 _)) (g0 (Nat.lt_succ_self _))
 have cJ:=Inv.made (C:=C) aa
 have dZ:Vals (V.ref (s.heap.objs.size+1)::(vs++dvs)) (au.ref (s.heap.objs.size+1)::(us++ds)) :=.cons rfl (r.append hd)
 have aD:(au.ref (s.heap.objs.size+1)::us++ds).length=aK.length:=by
  have e:=dZ.length
  rw[F.len _ _ _ _ bj]at e
  exact e.symm
 refine Du (Zu (f:=f) aa.hB M.makes M.init (beq_iff_eq.mp M.fn) (ur (F.run _ X.stack _ _ ⟨au.ref (s.heap.objs.size+1)::us,[]⟩ (au.ref (s.heap.objs.size+1)::(us++ds)) _ _ E (ax.make C us [])
  (cJ.M8.make C us []) (ag _ (au.ref (s.heap.objs.size+1)::us) cJ.hB aD) dZ bj) fun r bl yq=>?_))
 cases r with
 |error e=>exact ao ar U _ _ e bl cJ yq
 | ok fi =>
  cases fi with
  |ret u =>
   obtain⟨v,H',jM,d0,ev,fS⟩:=cJ.after yq
   subst ev
   exact⟨d0,⟨V.ref (s.heap.objs.size+1),H',jM,I,fS⟩⟩
  |next=>exact False.elim yq
  |brk=>exact False.elim yq
  |cont=>exact False.elim yq
theorem Tu(M:D9 X.K C f)(F:de X.prog X.w X.K X.mg X.base CX k f fd aK sp)(ax:gB (k+1) X.A)(aX:jr X x)(hm:X.mg x=J (.ref C))(ag:Binds X.K fd aK ds)(hd:Vals dvs ds)(ao:Passes CX X E)
  (aJ:iQ X (e::es) t) (mF:(x == ("__debug__":ae))=aF:=by decide) (he:ek (e::es) X.env=(aF,eval e X.env)::ek es X.env:=by rfl) (gx:(backTo aZ (ek es X.env)).any (·.1)=aF:=by rfl) :
  cz X (.Call (.Name x p) (e::es) [] aZ) (Q4 C sp dvs E t):=by
 intro ar s U H Q aa h
 refine uu (Bf aa aX hm ?_ mF)
 refine Jv (h₀:=X.base) aa.ok.mod.vZ M.iL (dm (aJ aZ ar s U H _ aa h) fun us s1 b4=>?_) he gx
 obtain⟨vs,H1,bC,r,q⟩:=b4
 refine ⟨bC.hB,?_⟩
 exact Ze M F ax ag hd ao bC r q
end
structure cc(N P:List ae)(sc:Scope):Prop where
 kind:sc.kind=.function
 co:sc.isCoroutine=aF
 gen:sc.isGenerator=aF
 bo:N.Nodup
 pre:N.take P.length=P
 par:∀x∈P,sc.names.lookup x=J .local\/sc.names.lookup x=J .cell
 aeA:∀y∈sc.names,y.2≠.free
def ae2(N P:List ae)(sc:Scope):Bool:=decide ((sc.kind=.function)∧(sc.isCoroutine=aF)∧(sc.isGenerator=aF)∧(N.Nodup)∧(N.take P.length=P)∧(∀x∈P,sc.names.lookup x=J .local\/sc.names.lookup x=J .cell)∧(∀y∈sc.names,y.2≠.free))
theorem cy{P:List ae}(h:ae2 N P sc=ah:=by decide+kernel):cc N P sc:=have ⟨a,b,c,d,e,f,g⟩:=of_decide_eq_true h;⟨a,b,c,d,e,f,g⟩
theorem LD{kindOf:ae->Option j1}{x:ae}:∀{binds:List (ae×au)}{m:ae->Option au},(∀v,(x,v)∉binds)->bindL kindOf binds m x=m x
 |[],_,_=>rfl
 | (n,v)::r,m,h=>by
  unfold bindL
  rw[LD fun w hw=>h w (en _ hw)]
  split
  ·have:x≠n:=by rintro rfl;exact h v gF
   simp[this]
  .rfl
theorem LG{kindOf:ae->Option j1}{x:ae}:∀{binds:List (ae×au)}{m:ae->Option au},(∀v,(x,v)∉binds)->bindC kindOf binds m x=m x
 |[],_,_=>rfl
 | (n,v)::r,m,h=>by
  unfold bindC
  rw[LG fun w hw=>h w (en _ hw)]
  split
  .rfl
  ·have:x≠n:=by rintro rfl;exact h v gF
   simp[this]
theorem LF{kindOf:ae->Option j1}{x:ae}{v:au}:∀{P:List ae}{vs:List au}{i:Nat}{m:ae->Option au},P.Nodup->P[i]?=J x->vs[i]?=J v->kindOf x=J .local->
  bindL kindOf (P.zip vs) m x=J v
 |[],_,_,_,_,h,_,_=>by simp at h
 |_::_,[],_,_,_,_,h,_=>by simp at h
 |p::P,w::vs,0,m,bo,ai,aj,hk=>by
  simp at ai aj;subst ai;subst aj
  show bindL kindOf ((p,w)::P.zip vs) m p=_
  unfold bindL
  rw[LD fun v br=>(List.nodup_cons.mp bo).1 (List.of_mem_zip br).1,if_pos hk]
  simp
 |p::P,w::vs,i+1,m,bo,ai,aj,hk=>by
  show bindL kindOf ((p,w)::P.zip vs) m x=_
  unfold bindL
  exact LF (i:=i) (List.nodup_cons.mp bo).2 (by simpa using ai) (by simpa using aj) hk
theorem LH{kindOf:ae->Option j1}{x:ae}{v:au}:∀{P:List ae}{vs:List au}{i:Nat}{m:ae->Option au},P.Nodup->P[i]?=J x->vs[i]?=J v->kindOf x≠J .local->
  bindC kindOf (P.zip vs) m x=J v
 |[],_,_,_,_,h,_,_=>by simp at h
 |_::_,[],_,_,_,_,h,_=>by simp at h
 |p::P,w::vs,0,m,bo,ai,aj,hk=>by
  simp at ai aj;subst ai;subst aj
  show bindC kindOf ((p,w)::P.zip vs) m p=_
  unfold bindC
  rw[LG fun v br=>(List.nodup_cons.mp bo).1 (List.of_mem_zip br).1,if_neg hk]
  simp
 |p::P,w::vs,i+1,m,bo,ai,aj,hk=>by
  show bindC kindOf ((p,w)::P.zip vs) m x=_
  unfold bindC
  exact LH (i:=i) (List.nodup_cons.mp bo).2 (by simpa using ai) (by simpa using aj) hk
noncomputable def start(N:List ae)(vs:List V):St:=vs.map J++List.replicate (N.length-vs.length) aw
noncomputable def pL(CX:mZ)(P:dA)(w:cZ)(K:bM)(mg:ae->Option au)(base:bA)(N:List ae)(eW:ae)(dC:Scope)(f:af)(e0:au)(A:dF)(outer:List Env)(s:aO)(H:aq)(E:cN):bS where
 prog:=P
 w:=w
 K:=K
 mg:=mg
 base:=base
 A:=A.deeper (envOfC eW dC s.heap.objs.size f e0)
 N:=N
 eE:=s
 jt:=H
 env:=envOfC eW dC s.heap.objs.size f e0
 outer:=outer
 stack:=envOfC eW dC s.heap.objs.size f e0::outer
 ex:=[]
 calm:=ah
 fn:=fun _=>ah
 nR:=[]
 xe:=fun e bl=>bN (model P w) (A.deeper (envOfC eW dC s.heap.objs.size f e0)) (leaving (envOfC eW dC s.heap.objs.size f e0) e) (fun _ o2=>CX outer H s E e o2) (fun e' o2=>CX outer H s E e' o2) bl
theorem L7(h:sc.names.lookup x=J .cell):∃c,(cellsFrom n sc.names []).lookup x=J c:=by
 have q:=PySem.W.cellsFrom_some sc.names n [] (.inl h)
 exact Option.isSome_iff_exists.mp q
theorem YE{e0:au}{s1:aO}{E:cN}{vs:List V}
  (S:cc N aK dC) (hd:A.handled=aw) (eM:sz P w K mg base A outer s H) (aD:vs.length=aK.length) (r:Vals vs us)
  (x:InCallC s s.heap.objs.size (bindL (envOfC eW dC s.heap.objs.size f e0).kindOf (aK.zip us) fun _=>aw) (cellsFrom (s.heap.objs.size+1) dC.names []) (bindC (envOfC eW dC s.heap.objs.size f e0).kindOf (aK.zip us) fun _=>aw) s1) :
  Inv (pL CX P w K mg base N eW dC f e0 A outer s H E) [] (start N vs) H s1:=by
 have gx:aK.length<=N.length:=by have:=congrArg List.length S.pre;rw[ht]at this;omega
 obtain⟨ai,dK,rfl,hk⟩:=x.done
 have yO:∀b:af,b∉(pL CX P w K mg base N eW dC f e0 A outer s H E).ex:=fun b z=>absurd (show b∈([]:List af)from z) (by simp)
 refine⟨⟨eM.mod,S.kind,I,I,b8 _,fun y z c ai aj=>?_,fun y aU=>?_,fun y c _ h=>?_,fun _=>hd,dF.frames_deeper eM.frames,.inr ⟨I,I⟩,fun b z=>absurd z (yO b),eM.bs,eM.qw,fun b _ _=>yO b,fun b z=>absurd z (yO b),eM.nr,eM.tf⟩,
  rfl,eM.bare,gR.kept hk,⟨_,x.toInCall.ns,fun i y v ai aj bE=>?_⟩,fun y c h=>⟨_,x.cell y c h⟩,eM.aL.fresh (b8 _),fun y c h=>?_,fun p aY=>absurd (show p∈([]:List (af×bU))from aY) (by simp),eM.aL.kept hk,?_⟩
 .exact name_of_addr x.apart (PySem.mem_of_lookup ai) (PySem.mem_of_lookup aj)
 ·have aU:dC.names.lookup y=J .cell\/dC.names.lookup y=J .free:=aU
  rcases aU with aU|aU
  .exact L7 aU
  .exact absurd I (S.aeA _ (PySem.mem_of_lookup aU))
 .exact Nat.le_of_lt (x.above y c (PySem.mem_of_lookup h))
 ·have ay:i<vs.length:=by
   unfold start at aj
   by_cases ay:i<vs.length
   .exact ay
   ·rw[List.getElem?_append_right (by simpa using ay)]at aj
    rw[List.getElem?_replicate]at aj
    split at aj<;>cases aj
  have aJ:vs[i]?=J v:=by
   unfold start at aj
   rw[List.getElem?_append_left (by simpa using ay),eL]at aj
   cases e:vs[i]? with
   |none=>rw[e]at aj;cases aj
   |some a=>rw[e]at aj;cases aj;rfl
  obtain⟨u,cC,d0⟩:=r.get aJ
  have aY:aK[i]?=J y:=by
   rw[<-S.pre,List.getElem?_take_of_lt (by omega)];exact ai
  have OZ:aK.Nodup:=by rw[<-S.pre];exact S.bo.sublist (List.take_sublist _ _)
  refine⟨u,d0,?_⟩
  rcases S.par y (fE aY)with k|k
  .exact .inl ⟨k,LF OZ aY cC k⟩
  ·obtain⟨c,e⟩:=L7 (n:=s.heap.objs.size+1) k
   refine .inr ⟨.inl k,c,e,?_⟩
   have q:=x.cell y c e
   rw[LH OZ aY cC (by show dC.names.lookup y≠_;rw[k];decide)]at q
   exact q
 .exact eM.aL.fresh (Nat.le_of_lt (x.above y c (PySem.mem_of_lookup h)))
 ·unfold start
  show _=N.length
  rw[dX,cw,List.length_replicate]
  omega
theorem U0{name:ae}{params:Arguments}{BA gL:au}
  {sp:cD} (v9:K.lookup f=J ⟨i7,gM,.func (mW name eW params body dC BA gL doc pm an bx ct),nQ⟩) (oH:Ds K bx eW=ah) (S:cc N aK dC)
  (len:∀vs H Q E,sp vs H Q E->vs.length=aK.length)
  (oG:∀(A:dF)(outer:List Env)(s:aO)(H:aq)(vs:List V)(Q:bJ)(E:cN),gB k (A.deeper (envOfC eW dC s.heap.objs.size f bx))->sp vs H Q E->
   ∃t,jx (pL CX P w K mg base N eW dC f bx A outer s H E) body t/\t {nx:=fun _ H'=>Q .aT H',rt:=Q} (start N vs) H) :
  de P w K mg base CX (k+1) f (mW name eW params body dC BA gL doc pm an bx ct) aK sp:=by
 refine⟨len,fun A outer s H args us vs Q E ax eM ag r rX=>?_⟩
 have aD:=len _ _ _ _ rX
 have KX:K.In s.heap:=eM.mod.vZ.keeps fun b o e=>(eM.bs b o e).1
 have lim:s.heap.NoLimit:=eM.mod.nolimit.keeps fun b o e=>(eM.bs b o e).1
 have acm:∀y∈aK.zip us,dC.names.lookup y.1=J .local\/(dC.names.lookup y.1=J .cell/\((cellsFrom (s.heap.objs.size+1) dC.names []).lookup y.1).isSome=ah):=fun⟨n,v⟩ aU=>by
  rcases S.par n (List.of_mem_zip aU).1 with q|q
  .exact .inl q
  .exact .inr ⟨q,PySem.W.cellsFrom_some _ _ _ (.inl q)⟩
 refine codeAny_call_function ax.depth (KX _ _ v9) I S.co S.gen I (PySem.W.codeRec_of KX oH) (ag _ _ _ _ ?_)
 refine wpAny_newFunctionEnv_cells S.kind acm fun env he s1 x=>?_
 subst he
 refine⟨lim.keeps x.toInCall.keep,codeAny_func ?_⟩
 obtain⟨t,aM,bj⟩:=oG A outer s H vs Q E (ax.deeper _) rX
 have aa:Inv (pL CX P w K mg base N eW dC f bx A outer s H E) [] (start N vs) H s1:=YE S ax.hd eM aD r x
 refine mY (aM [] s1 (start N vs) H _ aa bj) (fun fi bl hs=>?_) fun e bl hs=>hs
 have ck:∀{cg:St}{H':aq}{v:V}{u:au},Inv (pL CX P w K mg base N eW dC f bx A outer s H E) [] cg H' bl->RelV v u->Q v H'->Dz outer P w H s Q u bl :=
  fun{cg H' v u}el d0 q=>⟨v,H',el.os,el.bare,el.base,el.aL,d0,q⟩
 cases fi with
 |ret u =>
  obtain⟨v,cg,H',el,d0,q⟩:=hs
  exact ck el d0 q
 |next =>
  obtain⟨cg,H',el,q⟩:=hs
  exact ck (v:=V.aT) (u:=au.none) el I q
 |brk =>
  obtain⟨_,_,_,q⟩:=hs
  exact False.elim q
 |cont =>
  obtain⟨_,_,_,q⟩:=hs
  exact False.elim q
section
variable {X:bS} {x:ae} {p aZ:Pos} {e:cO} {es:List cO} {t:h4} {id T:String} {r:List V->aq->bJ->Prop}
def Q2(r:List V->aq->bJ->Prop)(t:h4):TE:=fun U H Q=>t U H fun vs H1=>r vs H1 Q
theorem b9(hc:jL X (.builtin id) r)(aX:jr X x)(hm:X.mg x=aw)(br:kp x=J (.builtin id))(aJ:iQ X (e::es) t)(aW:x≠"__name__":=by decide)(mF:(x == ("__debug__":ae))=aF:=by decide)
  (he:ek (e::es) X.env=(aF,eval e X.env)::ek es X.env:=by rfl) (gx:(backTo aZ (ek es X.env)).any (·.1)=aF:=by rfl):cz X (.Call (.Name x p) (e::es) [] aZ) (Q2 r t):=by
 intro ar s U H Q aa h
 refine uu (ot aa aX hm br ?_ aW mF)
 refine PyProof.Rows.callWith_builtin1 (dm (aJ aZ ar s U H _ aa h) fun us s1 b4=>?_) he gx
 obtain⟨vs,H1,bC,cv,cu⟩:=b4
 exact hc ar s1 U H1 vs us Q bC cv cu
theorem mw(hc:jL X (.type T) r)(aX:jr X x)(hm:X.mg x=aw)(br:kp x=J (.type T))(aJ:iQ X (e::es) t)(aW:x≠"__name__":=by decide)(mF:(x == ("__debug__":ae))=aF:=by decide)
  (he:ek (e::es) X.env=(aF,eval e X.env)::ek es X.env:=by rfl) (gx:(backTo aZ (ek es X.env)).any (·.1)=aF:=by rfl):cz X (.Call (.Name x p) (e::es) [] aZ) (Q2 r t):=by
 intro ar s U H Q aa h
 refine uu (ot aa aX hm br ?_ aW mF)
 refine PyProof.Rows.callWith_type1 (dm (aJ aZ ar s U H _ aa h) fun us s1 b4=>?_) he gx
 obtain⟨vs,H1,bC,cv,cu⟩:=b4
 exact hc ar s1 U H1 vs us Q bC cv cu
end
end c0
variable {dp:af} {iy iz:au} {ay:Option Int}
namespace cA
open PySem PyProof.Rows
noncomputable def lexLt:List Int->List Int->Bool
 |[],[]=>aF
 |[],_::_=>ah
 |_::_,[]=>aF
 |x::xs,y::aA=>if x=y then lexLt xs aA else decide (x<y)
theorem v7(x y:Int)(xs aA:List Int):lexLt (x::xs) (y::aA)=if x=y then lexLt xs aA else decide (x<y):=rfl
theorem VZ(y:Int)(aA:List Int):lexLt [] (y::aA)=ah:=rfl
theorem V0(x:Int)(xs:List Int):lexLt (x::xs) []=aF:=rfl
theorem Zi(A:dF)(s:aO)(a:Int)(t:Tok)(c:Int)(u:Tok)(prog:dA)(w:cZ)(E:au->aO->Prop)(Q:au->aO->Prop)(h:Q (.bool (decide (a<c))) s):
  bN (model prog w) A (richCompare .Lt (.int a t) (.int c u)) Q E s :=
 (PyProof.Rows.lt_int h:bN (model prog w) A (gW .Lt (.int a t) (.int c u)) Q E s)
section
open PySem.SeqAt
open PySem.AutoSeq1 (wpAny_loadPart')
open PySem.MeetsSeq PySem.MeetsSeq2 PySem.MeetsSeq3
end
variable {lo:Option Int}
section
variable {prog:dA} {w:cZ} {A:dF} {E:au->aO->Prop} {s:aO}
theorem ZN{t b:af}{vs ws:List au}(aM:IsTup s.heap t vs.toArray)(ag:IsTup s.heap b ws.toArray)(br:vs≠[])
  (ai:ws=[]->Q (.ref t) s) (aj:ws≠[]->Q (.ref s.heap.objs.size) {s with heap:=s.heap.push {cls :=.type "tuple",data :=.seq (vs++ws).toArray}})
  (gy:vs.length+ws.length<=cj):bN (model prog w) A (j2 .Add (.ref t) (.ref b)) Q E s:=by
 obtain⟨⟨cls,hX,data,dp⟩,aH,hc,n,hd⟩:=id aM
 obtain⟨⟨Gq,kb,data2,kl⟩,mI,lF,dc,dh⟩:=id ag
 simp only at hc hd lF dh
 subst hc hd lF dh
 have e:vs.toArray++ws.toArray=(vs++ws).toArray:=by simp
 by_cases hw:ws=[]
 .exact concat_meets ⟨_,aH,I⟩ ⟨_,mI,I⟩ noFill_tuple_add seq_tuple_add PySem.F.slot_tuple_add PySem.F.entry_tuple_add (PySem.F.args_tuple_add_2 _ _)
   (tuple_addW1 t b vs.toArray ws.toArray n dc hX kb dp kl (by simpa using br) (by simp[hw])) ⟨aH,mI,ai hw⟩
 ·refine concat_meets ⟨_,aH,I⟩ ⟨_,mI,I⟩ noFill_tuple_add seq_tuple_add PySem.F.slot_tuple_add PySem.F.entry_tuple_add (PySem.F.args_tuple_add_2 _ _)
   (tuple_addW2 t b vs.toArray ws.toArray n dc hX kb dp kl (by simpa using br) (by simpa using hw) (by rw[eo,eo];exact gy)) ⟨aH,mI,?_⟩
  rw[e]
  exact aj hw
noncomputable def cV(n d:Nat):Option Int->Nat
 |none=>d
 |some v=>if v<0 then(v+(n:Int)).toNat else min v.toNat n
theorem wo(n d:Nat):cV n d aw=d:=rfl
theorem o3(n d k:Nat):cV n d (J (k:Int))=min k n:=by
 show(if(k:Int)<0 then((k:Int)+(n:Int)).toNat else min (k:Int).toNat n)=min k n
 rw[if_neg (by omega),Int.toNat_natCast]
theorem IM(n d:Nat)(hd:d<=n)(o:Option Int):cV n d o<=n:=by
 cases o with
 |none=>exact hd
 |some v =>
  show(if v<0 then(v+(n:Int)).toNat else min v.toNat n)<=n
  by_cases br:v<0
  .rw[if_pos br];omega
  .rw[if_neg br];exact Nat.min_le_right _ _
theorem Mw(v:Int)(n d:Nat):(if v<0 then max (v+(n:Int)) 0 else min v (n:Int))=((cV n d (J v):Nat):Int):=by
 show(if v<0 then max (v+(n:Int)) 0 else min v (n:Int))=(((if v<0 then(v+(n:Int)).toNat else min v.toNat n):Nat):Int)
 by_cases br:v<0
 .simp only[if_pos br];omega
 .simp only[if_neg br];omega
theorem X3(lo ay:Option Int)(n:Nat):cS.Slice.sliceAdjust lo ay 1 (n:Int)=(((cV n 0 lo:Nat):Int),((cV n n ay:Nat):Int)):=by
 have ai:¬((1:Int)<0):=by omega
 unfold cS.Slice.sliceAdjust
 simp only[ai,if_false]
 refine Prod.ext ?_ ?_
 ·cases lo with
  |none=>rfl
  |some v=>exact Mw v n 0
 ·cases ay with
  |none=>rfl
  |some v=>exact Mw v n n
theorem XF(i j:Nat):cS.Slice.slicePlaces (i:Int) (j:Int) 1=j-i:=by
 unfold cS.Slice.slicePlaces
 have ai:(1:Int) > 0:=by omega
 simp only[ai,if_true,Int.ediv_one]
 split<;>omega
theorem KV{v:au}{o:Option Int}{Q:Option Int->aO->Prop}(p:IsPart v o)(h:Q o s):bN (model prog w) A (cS.Slice.slicePartIndex v) Q E s:=by
 cases p with
 |none=>exact slicePart_none h
 |int i t=>exact slicePart_int h
theorem Kf{Q:Int×Int×Nat->aO->Prop}(hs:s.heap.IsSliceOf dp iy iz .none)(pl:IsPart iy lo)(pu:IsPart iz ay)
  (h:Q (((cV n 0 lo:Nat):Int),1,cV n n ay-cV n 0 lo) s):bN (model prog w) A (cS.Slice.sliceApplied (.ref dp) (pure (n:Int))) Q E s:=by
 obtain⟨os,tC,oI,dV⟩:=id hs
 unfold cS.Slice.sliceApplied cS.Slice.sliceFields
 refine bF (bF (jb tC dV (x:=iy) I (bF (jb tC dV (x:=iz) I (bF (jb tC dV (x :=.none) I (dP ?_)))))))
 refine bF (slicePart_none ?_)
 show bN _ _ (if((1:Int) == 0)=ah then _ else _) _ _ s
 rw[if_neg (by decide)]
 refine bF (KV pl (bF (KV pu (bF (dP ?_)))))
 show bN _ _ (match cS.Slice.sliceAdjust lo ay 1 (n:Int)with|(lo,ay)=>pure (lo,(1:Int),cS.Slice.slicePlaces lo ay 1)) _ _ s
 rw[X3 lo ay n]
 show bN _ _ (pure (((cV n 0 lo:Nat):Int),(1:Int),cS.Slice.slicePlaces ((cV n 0 lo:Nat):Int) ((cV n n ay:Nat):Int) 1)) _ _ s
 rw[XF]
 exact dP h
theorem Zn(xs:Array au)(i k:Nat):((List.range k).filterMap fun(m:Nat)=>xs[((i:Int)+(m:Int)*1).toNat]?).toArray=((xs.toList.drop i).take k).toArray:=by
 have e:(fun(m:Nat)=>xs[((i:Int)+(m:Int)*1).toNat]?)=fun m=>xs[i+m]?:=by
  funext m
  have:((i:Int)+(m:Int)*1).toNat=i+m:=by omega
  rw[this]
 rw[e]
 have:=pick_run xs i k
 rw[List.filterMap_map]at this
 have aV:((fun x=>xs[x]?) ∘ fun x=>i+x)=fun m=>xs[i+m]?:=rfl
 rw[aV]at this
 rw[this]
theorem abj{t:af}{items:Array au}(aM:IsTup s.heap t items)(hs:s.heap.IsSliceOf dp iy iz .none)(pl:IsPart iy lo)(pu:IsPart iz ay)
  (hw:¬(cV items.size 0 lo=0/\cV items.size items.size ay=items.size))
  (h:Q (.ref s.heap.objs.size) {s with heap:=s.heap.push {cls :=.type "tuple",data :=.seq ((items.toList.drop (cV items.size 0 lo)).take (cV items.size items.size ay-cV items.size 0 lo)).toArray}})
  (gy:items.size<=cj):bN (model prog w) A (getItem (.ref t) (.ref dp)) Q E s:=by
 have Cq:sizeOk (.seq ((items.toList.drop (cV items.size 0 lo)).take (cV items.size items.size ay-cV items.size 0 lo)).toArray):=by
  show((items.toList.drop (cV items.size 0 lo)).take (cV items.size items.size ay-cV items.size 0 lo)).toArray.size<=cj
  rw[eo,ht,je,iB]
  omega
 have b2:cV items.size items.size ay<=items.size:=IM _ _ (b8 _) ay
 obtain⟨os,tC,oI,dV⟩:=id hs
 have He:s.TypeIs (.ref dp) "slice":=⟨os,tC,oI⟩
 unfold getItem
 try with_reducible refine wpAny_holding ?_
 first|refine bF (dP ?_)|skip
 refine bF (wpAny_sequenceKey aM.typeIs (by decide) ?_)
 refine bF (wpAny_callSpecial?_slot (name:=ae.ofString "__getitem__") aM.typeIs PyProof.Rows.slot_tuple_getitem
  (wpAny_call_entry PyProof.Rows.slot_tuple_getitem aM.typeIs entry_tuple_getitem ?_ (args_tuple_getitem _ _)))
 show bN _ _ (cS.Tuple.tupleItemsOf (.ref t) >>= _) _ _ s
 refine bF (tupleItemsOf_ aM ?_)
 refine bF (wpAny_typeOf He ?_)
 rw[if_pos (by decide)]
 refine bF (Kf hs pl pu ?_)
 have yn:¬((((cV items.size 0 lo:Nat):Int) == 0&&(1:Int) == 1&&(cV items.size items.size ay-cV items.size 0 lo) == items.size)=ah):=by
  intro q
  rw[gZ,gZ]at q
  have cu:((cV items.size 0 lo:Nat):Int)=0:=eq_of_beq q.1.1
  have bX:cV items.size items.size ay-cV items.size 0 lo=items.size:=eq_of_beq q.2
  exact hw ⟨by omega,by omega⟩
 show bN _ _ (if(((cV items.size 0 lo:Nat):Int) == 0&&(1:Int) == 1&&(cV items.size items.size ay-cV items.size 0 lo) == items.size)=ah then _ else _) _ _ s
 rw[if_neg yn,Zn]
 first
  |exact bF (m:=cS.Tuple.tupleExact _) (wpAny_newObj_type (dP ⟨_,I,dP h⟩) Cq)
  |exact bF (m:=cS.Tuple.tupleExact _) (wpAny_newObj_type (bF (dP (dP ⟨_,I,dP h⟩))) Cq)
  |exact bF (bF (m:=cS.Tuple.tupleExact _) (wpAny_newObj_type (dP (dP ⟨_,I,dP h⟩)) Cq))
  |exact bF (bF (m:=cS.Tuple.tupleExact _) (wpAny_newObj_type (dP ⟨_,I,dP h⟩) Cq))
end
end cA
variable {xs:List c0.V} {U:c0.St} {H:c0.aq}
namespace c0
open PySem PySem.Spec PyProof.Rows
noncomputable abbrev dw:=St->aq->(Option Int->aq->Prop)->Prop
def xg(X:bS)(e:Option cO)(t:dw):Prop :=
 ∀(ar:List (af×bU))(s:aO)(U:St)(H:aq)(Q:Option Int->aq->Prop),Inv X ar U H s->t U H Q->
  bN (model X.prog X.w) X.A (evalPart e X.env) (fun u bl=>∃o H',Inv X ar U H' bl/\IsPart u o/\Q o H') X.xe s
noncomputable def ahH:dw:=fun _ H Q=>Q aw H
noncomputable def ahK(t:TE):dw:=fun U H Q=>t U H fun x H1=>∃i,x=.int i/\Q (J i) H1
theorem AJ{ns:List Int}:∀{us:List au},Vals (ns.map V.int) us->IntsAre us ns:=by
 induction ns with
 |nil=>intro us r;rw[List.map_nil]at r;cases r;exact .nil
 | cons n ns bT =>
  intro us r
  rw[fD]at r
  cases r with
  |cons cv dZ =>
   obtain⟨t,e⟩:=cv
   subst e
   exact .cons n t (bT dZ)
variable {r:V->Option Int->Option Int->aq->bJ->Prop}
section
variable {X:bS} {e:cO} {cI:TE} {lo ay:Option cO} {dd gN:dw} {aZ cf:Pos}
theorem mu:xg X aw ahH:=by
 intro ar s U H Q aa h
 rw[evalPart_none]
 exact dP ⟨aw,H,aa,.none,h⟩
theorem kv(h:cz X e cI):xg X (J e) (ahK cI):=by
 intro ar s U H Q aa hw
 rw[evalPart_some]
 refine dm (h ar s U H _ aa hw) fun u s1 b4=>?_
 obtain⟨x,H1,bC,cv,cu⟩:=b4
 obtain⟨i,rfl,q⟩:=cu
 obtain⟨t,rfl⟩:=cv
 exact⟨J i,H1,bC,.int i t,q⟩
def m8(X:bS)(r:V->Option Int->Option Int->aq->bJ->Prop):Prop :=
 ∀(ar:List (af×bU))(s:aO)(U:St)(H:aq)(x:V)(v iy iz:au)(lo ay:Option Int)(dp:af)(Q:bJ),Inv X ar U H s->RelV x v->s.heap.IsSliceOf dp iy iz .none->IsPart iy lo->IsPart iz ay->r x lo ay H Q->
  ∃T id,typeLookup (.type T) "__getitem__"=pure (J (.builtin id))/\s.TypeIs v T/\bN (model X.prog X.w) X.A (getItem v (.ref dp)) (iA X ar U Q) X.xe s
theorem m8.or{eD:V->Option Int->Option Int->aq->bJ->Prop}(h:m8 X r)(h':m8 X eD):m8 X (fun x lo ay H Q=>r x lo ay H Q\/eD x lo ay H Q):=by
 intro ar s U H x v iy iz lo ay dp Q aa bp hs pl pu q
 rcases q with q|q
 .exact h ar s U H x v iy iz lo ay dp Q aa bp hs pl pu q
 .exact h' ar s U H x v iy iz lo ay dp Q aa bp hs pl pu q
def ahM(r:V->Option Int->Option Int->aq->bJ->Prop)(cI:TE)(dd gN:dw):TE:=fun U H Q=>cI U H fun x H1=>dd U H1 fun l av=>gN U av fun u bQ=>r x l u bQ Q
theorem lA(ax:m8 X r)(he:cz X e cI)(aD:xg X lo dd)(cC:xg X ay gN):cz X (.Subscript e (.Slice lo ay aw cf) aZ) (ahM r cI dd gN):=by
 intro ar s U H Q aa h
 refine Subscript_ (dm (he ar s U H _ aa h) fun v s1 b4=>?_)
 obtain⟨x,H1,bC,cv,cu⟩:=b4
 refine wpAny_Slice (dm (aD ar s1 U H1 _ bC cu) fun iy s2 ⟨l,av,cJ,pl,bX⟩=>dm (cC ar s2 U av _ cJ bX) fun iz iM b4=>?_)
 obtain⟨u,bQ,jM,pu,fS⟩:=b4
 rw[evalPart_none]
 refine dP ?_
 have w2:Inv X ar U bQ {iM with heap:=iM.heap.push {cls :=.type "slice",data :=.fields #[iy,iz,.none]}}:=jM.kept (t':=iM.toks) fun b ec q=>fV _ q
 obtain⟨T,id,bZ,aM,aX⟩:=ax ar {iM with heap:=iM.heap.push {cls :=.type "slice",data :=.fields #[iy,iz,.none]}} U bQ x v iy iz l u iM.heap.objs.size Q w2 cv (bA.IsSliceOf.new ..) pl pu fS
 show bN (model X.prog X.w) X.A (subscriptTail e (.Slice lo ay aw cf) v (.ref iM.heap.objs.size)) (iA X ar U Q) X.xe {iM with heap:=iM.heap.push {cls :=.type "slice",data :=.fields #[iy,iz,.none]}}
 exact tail_any (ops:=[.ref iM.heap.objs.size,v]) aM bZ aX (by with_unfolding_all rfl)
noncomputable def kx(xs:List V)(lo ay:Option Int):List V:=(xs.drop (cA.cV xs.length 0 lo)).take (cA.cV xs.length xs.length ay-cA.cV xs.length 0 lo)
theorem KQ(xs:List V)(lo ay:Option Int):(kx xs lo ay).length<=xs.length:=by
 unfold kx
 rw[ht,je]
 omega
noncomputable def ag3(K:bM):V->Option Int->Option Int->aq->bJ->Prop:=fun x lo ay H Q=>∃a xs,x=.ref a/\gd K H a xs/\
 ¬(cA.cV xs.length 0 lo=0/\cA.cV xs.length xs.length ay=xs.length)/\∀p,H p=aw->Q (.ref p) (upd H p (.tup (kx xs lo ay)))
theorem Ui:m8 X (ag3 X.K):=by
 intro ar s U H x v iy iz lo ay dp Q aa bp hs pl pu h
 obtain⟨a,xs,rfl,ao,hw,q⟩:=h
 cases bp
 obtain⟨bt,r,aM,bz⟩:=aa.tuple ao
 have cM:bt.toArray.size=xs.length:=by rw[eo];exact r.length.symm
 refine⟨"tuple",_,PyProof.Rows.slot_tuple_getitem.lookup,aM.typeIs,?_⟩
 refine cA.abj aM hs pl pu (by rw[cM];exact hw) ?_ (by rw[cM];exact bz)
 rw[cM]
 refine⟨.ref s.heap.objs.size,_,aa.laid (t':=s.toks) (o :=.tup (kx xs lo ay)) (fun b ec q=>fV _ q) (b8 _) ?_,I,q _ (aa.aL.fresh (b8 _))⟩
 exact⟨dE (KQ xs lo ay) bz,_,(r.drop (cA.cV xs.length 0 lo)).take (cA.cV xs.length xs.length ay-cA.cV xs.length 0 lo),IsTup.new _ _⟩
def agV(K:bM):hR:=fun x y H Q=>∃a b xs aA,x=.ref a/\y=.ref b/\gd K H a xs/\gd K H b aA/\xs≠[]/\xs.length+aA.length<=cj/\
 (aA=[]->Q (.ref a) H)/\(aA≠[]->∀p,H p=aw->Q (.ref p) (upd H p (.tup (xs++aA))))
theorem Vals.CL(r:Vals xs us):us=[]↔xs=[]:=by
 cases r with
 |nil=>simp
 |cons _ _=>simp
theorem TG:dQ X (j2 .Add) (agV X.K):=by
 intro ar s U H x y v u Q aa bp cn h
 obtain⟨a,b,xs,aA,rfl,rfl,aJ,ag,ao,bz,cu,bX⟩:=h
 cases bp
 cases cn
 obtain⟨bt,cv,cU,_⟩:=aa.tuple aJ
 obtain⟨eT,dZ,cf,_⟩:=aa.tuple ag
 refine cA.ZN cU cf (fun z=>ao (cv.CL.mp z)) (fun z=>⟨.ref a,H,aa,I,cu (dZ.CL.mp z)⟩) (fun z=>?_) (by rw[<-cv.length,<-dZ.length];exact bz)
 refine⟨.ref s.heap.objs.size,_,aa.laid (t':=s.toks) (o :=.tup (xs++aA)) (fun b ec q=>fV _ q) (b8 _) ?_,I,bX (fun w=>z (dZ.CL.mpr w)) _ (aa.aL.fresh (b8 _))⟩
 exact⟨by rw[dX];exact bz,_,cv.append dZ,IsTup.new _ _⟩
end
noncomputable def r4(n:Nat)(i:Int):Option Nat:=if 0<=i then(if i<n then J i.toNat else aw)else if -(n:Int)<=i then J (i+n).toNat else aw
noncomputable def ey{α:Type}(xs:List α)(i:Int):Option α:=(r4 xs.length i).bind fun j=>xs[j]?
theorem TX{i:Int}(h:r4 n i=J j):seqIndex? i n=J j/\j<n/\-(n:Int)<=i/\i<n:=by
 unfold r4 at h
 by_cases bg:0<=i
 ·rw[if_pos bg]at h
  by_cases ai:i<n
  ·rw[if_pos ai]at h
   have e:i.toNat=j:=e8 h
   exact⟨by rw[seqIndex_of bg ai,e],by omega,by omega,ai⟩
  .rw[if_neg ai]at h;cases h
 ·rw[if_neg bg]at h
  by_cases ai : -(n:Int)<=i
  ·rw[if_pos ai]at h
   have e:(i+n).toNat=j:=e8 h
   exact⟨by rw[seqIndex_neg (by omega) ai,e],by omega,ai,by omega⟩
  .rw[if_neg ai]at h;cases h
theorem Bj{xs:List α}{i:Int}{v:α}(h:ey xs i=J v):∃j,seqIndex? i xs.length=J j/\xs[j]?=J v/\j<xs.length/\-(xs.length:Int)<=i/\i<xs.length:=by
 unfold ey at h
 cases e:r4 xs.length i with
 |none=>rw[e]at h;cases h
 |some j =>
  rw[e]at h
  obtain⟨ai,aj,bE,cQ⟩:=TX e
  exact⟨j,ai,h,aj,bE,cQ⟩
theorem cB{xs:List α}{v:α}(h:xs[j]?=J v):ey xs (j:Int)=J v:=by
 have b2:j<xs.length:=(g5.mp h).1
 have e:r4 xs.length (j:Int)=J j:=by
  unfold r4
  rw[if_pos (by omega),if_pos (by omega)];simp
 unfold ey;rw[e];exact h
theorem S3(xs:List α)(v:α):ey (xs++[v]) (-1)=J v:=by
 have aD:(xs++[v]).length=xs.length+1:=by simp
 have e:r4 (xs++[v]).length (-1)=J xs.length:=by
  unfold r4
  rw[aD,if_neg (by decide),if_pos (by omega)]
  congr 1
  omega
 unfold ey
 rw[e]
 show(xs++[v])[xs.length]?=J v
 simp
def JT(b:cO):Prop:=∀o i,subscripted b aF o i=operate [o,i] (getItem o i)
def oc(X:bS)(r:hR):Prop :=
 ∀(value slice:cO)(ar:List (af×bU))(s:aO)(U:St)(H:aq)(x y:V)(v u:au)(Q:bJ),Inv X ar U H s->RelV x v->RelV y u->r x y H Q->
  subscripted slice aF v u=operate [v,u] (getItem v u)->bN (model X.prog X.w) X.A (subscriptTail value slice v u) (iA X ar U Q) X.xe s
def sH(X:bS)(id:String)(r:V->List V->aq->bJ->Prop):Prop :=
 ∀(ar:List (af×bU))(s:aO)(U:St)(H:aq)(x:V)(xs:List V)(v:au)(us:List au)(Q:bJ),Inv X ar U H s->RelV x v->Vals xs us->r x xs H Q->
  bN (model X.prog X.w) X.A (call (.builtin id) (v::us)) (iA X ar U Q) X.xe s
variable {x:V}
section
variable {X:bS} {a b:cO} {cH dO:TE} {aZ:Pos}
theorem oc.or{r eD:hR}(h:oc X r)(h':oc X eD):oc X (fun x y H Q=>r x y H Q\/eD x y H Q):=by
 intro value slice ar s U H x y v u Q aa bp cn q hs
 rcases q with q|q
 .exact h value slice ar s U H x y v u Q aa bp cn q hs
 .exact h' value slice ar s U H x y v u Q aa bp cn q hs
theorem UQ{r:hR}(ax:oc X r)(aJ:cz X a cH)(ag:cz X b dO)(hs:JT b):cz X (.Subscript a b aZ) (lL r cH dO):=by
 intro ar s U H Q aa h
 exact Subscript_ (Gm aJ ag aa h fun v u s2 x y av cJ bp cn q=>ax a b ar s2 U av x y v u Q cJ bp cn q (hs _ _))
inductive JK(K:bM)(x y:V)(H:aq)(Q:V->Prop):Prop where
 |mk (p:af) (xs:List V) (i:Int) (v:V) (a:x=.ref p) (b:y=.int i) (c:cK K H p xs) (d:ey xs i=J v) (h:Q v):JK K x y H Q
def IG(K:bM):hR:=fun x y H Q=>JK K x y H fun v=>Q v H
inductive JL(K:bM)(x y:V)(H:aq)(Q:V->Prop):Prop where
 |mk (p:af) (xs:List V) (i:Int) (v:V) (a:x=.ref p) (b:y=.int i) (c:gd K H p xs) (d:ey xs i=J v) (h:Q v):JL K x y H Q
def II(K:bM):hR:=fun x y H Q=>JL K x y H fun v=>Q v H
def IH:hR:=fun x y H Q=>∃z i c,x=.str z/\y=.int i/\z.length<=cj/\ey z.cps.toList i=J c/\Q (.str ⟨#[c]⟩) H
theorem TV:oc X (IG X.K):=by
 intro value slice ar s U H x y v u Q aa bp cn h hs
 obtain⟨p,xs,i,z,rfl,rfl,bj,he,q⟩:=h
 cases bp
 obtain⟨t,rfl⟩:=cn
 obtain⟨bt,r,pl,bz⟩:=aa.list bj
 obtain⟨j,ai,aj,bE,cQ,eN⟩:=Bj he
 obtain⟨w,kd,y0⟩:=r.get aj
 have aD:=r.length
 have aW:=v8
 have ck:iA X ar U Q w s:=⟨z,H,aa,y0,q⟩
 by_cases bg:0<=i
 ·have b2:i.toNat=j:=by
   rw[seqIndex_of bg eN]at ai
   exact e8 ai
  exact item_listR pl.isList bg (by omega) (by rw[b2];simpa using kd) ck hs
 ·have b2:(i+(bt.toArray.size:Int)).toNat=j:=by
   rw[seqIndex_neg (by omega) cQ]at ai
   rw[eo,<-aD]
   exact e8 ai
  exact subscriptTail_builtinR (x:=w) pl.isList.typeIs slot_list_getitem.lookup
   (wpAny_getItem_list_neg (Q:=fun r bl=>r=w/\iA X ar U Q r bl) pl.isList (by omega) (by rw[eo]<;>omega) (by omega) (by rw[b2];simpa using kd) ⟨rfl,ck⟩) hs
theorem UD:oc X (II X.K):=by
 intro value slice ar s U H x y v u Q aa bp cn h hs
 obtain⟨p,xs,i,z,rfl,rfl,bj,he,q⟩:=h
 cases bp
 obtain⟨t,rfl⟩:=cn
 obtain⟨bt,r,pl,bz⟩:=aa.tuple bj
 obtain⟨j,ai,aj,bE,cQ,eN⟩:=Bj he
 obtain⟨w,kd,y0⟩:=r.get aj
 have aD:=r.length
 have aW:=v8
 have ck:iA X ar U Q w s:=⟨z,H,aa,y0,q⟩
 exact subscriptTail_builtinR (x:=w) pl.typeIs slot_tuple_getitem.lookup
  (getItem_tuple (j:=j) (Q:=fun r bl=>r=w/\iA X ar U Q r bl) pl (by omega) (by omega) (by rw[eo,<-aD];exact ai) (by simpa using kd) ⟨rfl,ck⟩) hs
theorem UE:oc X IH:=by
 intro value slice ar s U H x y v u Q aa bp cn h hs
 obtain⟨z,i,c,rfl,rfl,bz,he,q⟩:=h
 obtain⟨t,rfl⟩:=bp
 obtain⟨t',rfl⟩:=cn
 obtain⟨j,ai,aj,bE,cQ,eN⟩:=Bj he
 have aD:z.cps.toList.length=z.length:=by simp[ae.length]
 rw[aD]at ai cQ eN
 have aW:=v8
 exact tail_any (typeIs_str s z t) slot_str_getitem.lookup (getItem_str (c:=c) (by
  have aS:decide (i < -(2^63:Int))=aF:=fC (by omega)
  have aV:decide (i>=2^63)=aF:=fC (by omega)
  rw[aS,aV,Bool.or_false]) (by rw[ai];simpa using aj) ⟨.str ⟨#[c]⟩,H,aa.tok _,⟨_,rfl⟩,q⟩) hs
theorem Ww(lo ay:Option Int)(n:Nat):(sliceBounds lo ay aw n).1=((cA.cV n 0 lo:Nat):Int)/\(sliceBounds lo ay aw n).2.1=((cA.cV n n ay:Nat):Int)/\(sliceBounds lo ay aw n).2.2=1:=by
 refine⟨?_,?_,I⟩
 ·cases lo with
  |none=>simp[sliceBounds,cA.cV]
  |some i =>
   simp only[sliceBounds,cA.cV,Option.getD_none,show(1:Int) > 0 by decide,if_true]
   by_cases h:i<0
   .simp only[h,if_true]<;>omega
   .simp only[h,if_false]<;>omega
 ·cases ay with
  |none=>simp[sliceBounds,cA.cV]
  |some i =>
   simp only[sliceBounds,cA.cV,Option.getD_none,show(1:Int) > 0 by decide,if_true]
   by_cases h:i<0
   .simp only[h,if_true]<;>omega
   .simp only[h,if_false]<;>omega
theorem V4(bt:List au)(lo ay:Option Int):slicePick bt.toArray lo ay aw=((bt.drop (cA.cV bt.length 0 lo)).take (cA.cV bt.length bt.length ay-cA.cV bt.length 0 lo)).toArray:=by
 obtain⟨ai,aj,bE⟩:=Ww lo ay bt.toArray.size
 unfold slicePick
 rw[ai,aj,bE]
 simp only[sliceRange_one,pick_run,eo]<;>rfl
inductive JZ(K:bM)(x:V)(H:aq)(Q:List V->Prop):Prop where
 |mk (a:af) (xs:List V) (e:x=.ref a) (h:cK K H a xs) (q:Q xs):JZ K x H Q
noncomputable def ag2(K:bM):V->Option Int->Option Int->aq->bJ->Prop:=fun x lo ay H Q=>JZ K x H fun xs=>∀p,H p=aw->Q (.ref p) (upd H p (.lst (kx xs lo ay)))
theorem Th:m8 X (ag2 X.K):=by
 intro ar s U H x v iy iz lo ay dp Q aa bp hs pl pu h
 obtain⟨a,xs,rfl,ao,q⟩:=h
 cases bp
 obtain⟨bt,r,aM,bz⟩:=aa.list ao
 have cM:=r.length
 refine⟨"list",_,slot_list_getitem.lookup,aM.isList.typeIs,?_⟩
 refine wpAny_getItem_list_slice aM.isList hs pl pu .none (by simp) ?_ (by rw[eo]<;>omega)
 rw[V4,<-cM]
 refine⟨.ref s.heap.objs.size,_,aa.laid (t':=s.toks) (o :=.lst (kx xs lo ay)) (fun b ec q=>fV _ q) (b8 _) ?_,I,q _ (aa.aL.fresh (b8 _))⟩
 exact⟨dE (KQ xs lo ay) bz,_,0,(r.drop (cA.cV xs.length 0 lo)).take (cA.cV xs.length xs.length ay-cA.cV xs.length 0 lo),hH _ I⟩
noncomputable def qC:V->Bool
 |.aT=>ah
 |.aQ _=>ah
 |.int _=>ah
 |.str _=>ah
 |_=>aF
noncomputable def mA:V->V->Bool
 |.aT,.aT=>ah
 |.aQ a,.aQ b=>a == b
 |.aQ a,.int b=>(if a then 1 else 0) == b
 |.int a,.aQ b=>a == (if b then 1 else 0)
 |.int a,.int b=>a == b
 |.str a,.str b=>a == b
 |_,_=>aF
theorem UI{s:aO}{y:V}{v:au}(cn:RelV y u)(bp:RelV x v)(jT:qC y=ah)(gI:qC x=ah):SeqAt.EqAt A s u v (mA y x):=by
 cases y with
 |aT =>
  cases cn
  cases x with
  |aT=>cases bp;exact SeqAt.EqAt.same _
  |aQ b=>cases bp;exact SeqAt.EqAt.none_bool b
  |int b=>obtain⟨t,rfl⟩:=bp;exact SeqAt.EqAt.none_int b t
  |str b=>obtain⟨t,rfl⟩:=bp;exact SeqAt.EqAt.none_str b t
  |_=>exact absurd (show aF=ah from gI) hS
 |aQ a =>
  cases cn
  cases x with
  |aT=>cases bp;exact SeqAt.EqAt.bool_none a
  |aQ b=>cases bp;exact SeqAt.EqAt.bool_bool a b
  |int b=>obtain⟨t,rfl⟩:=bp;exact SeqAt.EqAt.bool_int a b t
  |str b=>obtain⟨t,rfl⟩:=bp;exact SeqAt.EqAt.bool_str a b t
  |_=>exact absurd (show aF=ah from gI) hS
 |int a =>
  obtain⟨t',rfl⟩:=cn
  cases x with
  |aT=>cases bp;exact SeqAt.EqAt.int_none a t'
  |aQ b=>cases bp;exact SeqAt.EqAt.int_bool a t' b
  |int b=>obtain⟨t,rfl⟩:=bp;exact SeqAt.EqAt.int_int a t' b t
  |str b=>obtain⟨t,rfl⟩:=bp;exact SeqAt.EqAt.int_str a t' b t
  |_=>exact absurd (show aF=ah from gI) hS
 |str a =>
  obtain⟨t',rfl⟩:=cn
  cases x with
  |aT=>cases bp;exact SeqAt.EqAt.str_none a t'
  |aQ b=>cases bp;exact SeqAt.EqAt.str_bool a t' b
  |int b=>obtain⟨t,rfl⟩:=bp;exact SeqAt.EqAt.str_int a t' b t
  |str b=>obtain⟨t,rfl⟩:=bp;exact SeqAt.EqAt.str_str a t' b t
  |_=>exact absurd (show aF=ah from gI) hS
 |_=>exact absurd (show aF=ah from jT) hS
noncomputable def qA(x:V)(u:au):Bool:=match u with
 |.none=>mA .aT x
 |.bool b=>mA (.aQ b) x
 |.int i _=>mA (.int i) x
 |.str z _=>mA (.str z) x
 |_=>aF
theorem J7{y:V}(r:RelV y u)(f:qC y=ah):qA x u=mA y x:=by
 cases y with
 |aT=>cases r;rfl
 |aQ b=>cases r;rfl
 |int i=>obtain⟨t,rfl⟩:=r;rfl
 |str z=>obtain⟨t,rfl⟩:=r;rfl
 |_=>exact absurd (show aF=ah from f) hS
theorem F9{x:V}:∀{xs:List V}{us:List au},Vals xs us->xs.all qC=ah->us.any (qA x)=xs.any fun y=>mA y x
 |_,_,.nil,_=>rfl
 |y::xs,u::us,.cons r t,f=>by
  rw[List.all_cons,gZ]at f
  rw[List.any_cons,List.any_cons,J7 r f.1,F9 t f.2]
theorem FN{A:dF}{s:aO}{x:V}{v:au}(bp:RelV x v)(gI:qC x=ah):∀{xs:List V}{us:List au},Vals xs us->xs.all qC=ah->∀u∈us,SeqAt.EqAt A s u v (qA x u)
 |_,_,.nil,_=>fun u cC=>by cases cC
 |y::xs,u::us,.cons r t,f=>fun u' cC=>by
  rw[List.all_cons,gZ]at f
  rcases c9.mp cC with rfl|cC
  .rw[J7 r f.1];exact UI r bp f.1 gI
  .exact FN bp gI t f.2 u' cC
noncomputable def vX(x:V)(xs:List V):Bool:=xs.any fun y=>mA y x
def agX(K:bM)(neg:Bool):hR:=fun x y H Q=>∃p xs,y=.ref p/\(cK K H p xs\/gd K H p xs)/\qC x=ah/\xs.all qC=ah/\Q (.aQ (if neg then !vX x xs else vX x xs)) H
theorem Le:dQ X (gW .In) (agX X.K aF):=by
 intro ar s U H x y v u Q aa bp cn h
 obtain⟨p,xs,rfl,bj,gI,fs,q⟩:=h
 cases cn
 rcases bj with bj|bj
 ·obtain⟨bt,r,pl,bz⟩:=aa.list bj
  refine SeqAt.in_listAt (qA x) pl.isList (fun w hw=>FN bp gI r fs w (by simpa using hw)) ⟨.aQ _,H,aa,I,?_⟩
  rw[show bt.toArray.any (qA x)=bt.any (qA x) by simp,F9 r fs]
  exact q
 ·obtain⟨bt,r,pl,bz⟩:=aa.tuple bj
  refine SeqAt.in_tupleAt (qA x) pl (fun w hw=>FN bp gI r fs w (by simpa using hw)) ⟨.aQ _,H,aa,I,?_⟩
  rw[show bt.toArray.any (qA x)=bt.any (qA x) by simp,F9 r fs]
  exact q
theorem KB:jL X (.type "list") (fun xs H Q=>∃p aA,xs=[.ref p]/\(cK X.K H p aA\/gd X.K H p aA)/\∀l,H l=aw->Q (.ref l) (upd H l (.lst aA))):=by
 intro ar s U H xs us Q aa r h
 obtain⟨p,aA,rfl,bj,q⟩:=h
 obtain⟨u,rfl,bp⟩:=vals1 r
 cases bp
 have ck:∀(bt:List au),Vals aA bt->aA.length<=cj->∀(h':bA)(h7:Nat),(∀b o',s.heap.get? b=J o'->h'.get? b=J o')->
   h'.get? s.heap.objs.size=J {cls :=.type "list",dict:=aw,data :=.seq bt.toArray h7,slots:=#[]}->iA X ar U Q (.ref s.heap.objs.size) {s with heap:=h'}:=fun bt eD bz h' h7 iL e =>
  ⟨.ref s.heap.objs.size,_,aa.laid (t':=s.toks) iL (b8 _) (show ih X.prog X.w _ h' _ (.lst aA)from⟨bz,bt,h7,eD,e⟩),rfl,q _ (aa.aL.fresh (b8 _))⟩
 rcases bj with bj|bj
 ·obtain⟨bt,eD,pl,bz⟩:=aa.list bj
  have cM:=eD.length
  obtain⟨o,aH,hc,n,hd⟩:=pl.isList
  exact call_list_seq p (.inl I) aH hc hd (fun h' h7 iL e=>ck bt eD bz h' h7 iL e) (by simp only[eo]<;>omega)
 ·obtain⟨bt,eD,pl,bz⟩:=aa.tuple bj
  have cM:=eD.length
  obtain⟨o,aH,hc,n,hd⟩:=pl
  exact call_list_seq p (.inr I) aH hc hd (fun h' h7 iL e=>ck bt eD bz h' h7 iL e) (by simp only[eo]<;>omega)
theorem Ku:jL X (.type "tuple") (fun xs H Q=>∃p aA,xs=[.ref p]/\((cK X.K H p aA/\∀l,H l=aw->Q (.ref l) (upd H l (.tup aA)))\/(gd X.K H p aA/\Q (.ref p) H))):=by
 intro ar s U H xs us Q aa r h
 obtain⟨p,aA,rfl,h⟩:=h
 obtain⟨u,rfl,bp⟩:=vals1 r
 cases bp
 rcases h with⟨bj,q⟩|⟨bj,q⟩
 ·obtain⟨bt,eD,pl,bz⟩:=aa.list bj
  have cM:=eD.length
  refine call_tuple_list pl.isList (fun h' iL=>?_) (by simp only[eo]<;>omega)
  have bC:Inv X ar U H {s with heap:=h'}:=aa.kept (t':=s.toks) iL
  have cJ:Inv X ar U (upd H h'.objs.size (.tup aA)) {s with heap:=h'.push {cls :=.type "tuple",data :=.seq bt.toArray}} :=
   bC.laid (t':=s.toks) (fun b o e=>fV _ e) (b8 _) (show ih X.prog X.w _ _ _ (.tup aA)from⟨bz,bt,eD,IsTup.new _ _⟩)
  exact⟨.ref h'.objs.size,_,cJ,I,q _ (bC.aL.fresh (b8 _))⟩
 ·obtain⟨bt,eD,pl,bz⟩:=aa.tuple bj
  exact call_tuple_same pl ⟨.ref p,H,aa,I,q⟩
def Jh(K:bM)(T:String)(x:V)(H:aq):Prop:=match x with
 |.str _=>T="str"
 |.int _=>T="int"
 | .ref p=>(T="list"/\∃xs,cK K H p xs)\/(T="tuple"/\∃o,K.lookup p=J o/\o.cls=.type "tuple"/\o.dict=aw)\/
   (T="dict"/\((∃f9,H p=J (.my f9))\/∃f9,H p=J (.pM f9)))\/(T="set"/\∃S n,H p=J (.set S n))
 |_=>False
theorem MC{s:aO}{T:String}{v:au}(aa:Inv X ar U H s)(r:RelV x v)(ty:Jh X.K T x H):
  s.TypeIs v T/\∀a,v=.ref a->∃ec,s.heap.get? a=J ec/\ec.dict=aw:=by
 cases x with
 |str z =>
  obtain⟨t,rfl⟩:=r
  cases(show T="str" from ty)
  exact⟨typeIs_str s z t,fun _ e=>nomatch e⟩
 |int i =>
  obtain⟨t,rfl⟩:=r
  cases(show T="int" from ty)
  exact⟨typeIs_int s i t,fun _ e=>nomatch e⟩
 | ref p =>
  cases r
  rcases ty with⟨rfl,xs,bj⟩|⟨rfl,o,hk,hc,hd⟩|⟨rfl,hk⟩|⟨rfl,S,n,hk⟩
  ·obtain⟨bt,_,pl,_⟩:=aa.list bj
   refine⟨pl.isList.typeIs,fun a e=>?_⟩
   cases e
   obtain⟨o,n,e,c,hd,_⟩:=pl
   exact⟨o,e,hd⟩
  ·refine⟨⟨o,aa.hB p o hk,hc⟩,fun a e=>?_⟩
   cases e
   exact⟨o,aa.hB _ o hk,hd⟩
  ·have z:∃o,s.heap.get? p=J o/\o.ExactDict:=by
    rcases hk with⟨f9,hk⟩|⟨f9,hk⟩
    ·obtain⟨_,_,_,_,o,_,_,e,ex,_⟩:=aa.aL p _ hk
     exact⟨o,e,ex⟩
    .exact(show False from aa.aL p _ hk).elim
   obtain⟨o,e,ex⟩:=z
   refine⟨⟨o,e,ex.1⟩,fun a aV=>?_⟩
   cases aV
   exact⟨o,e,ex.2.1⟩
  ·obtain⟨o,_,_,_,e,ex,_⟩:=aa.aL p _ hk
   refine⟨⟨o,e,ex.1⟩,fun a aV=>?_⟩
   cases aV
   exact⟨o,e,ex.2.1⟩
 |_=>exact False.elim ty
def ahx(K:bM)(T:String)(r:V->List V->aq->bJ->Prop)(to:TE):TE:=fun U H Q=>to U H fun x H1=>Jh K T x H1/\r x [] H1 Q
def ahw(K:bM)(T:String)(r:V->List V->aq->bJ->Prop)(to:TE)(t:h4):TE:=fun U H Q=>to U H fun x H1=>Jh K T x H1/\t U H1 fun xs av=>r x xs av Q
variable {o e:cO} {es:List cO} {to:TE} {t:h4} {name:ae} {apos qx:Pos} {T id:String} {r:V->List V->aq->bJ->Prop}
theorem xG(yV:PlainAttrs T)(slot:Slot T name id)(H2:typeOf (.builtin id)=pure (.type "method_descriptor"))(hm:sH X id r)(aH:cz X o to)
  (Hh:attributeBase o name X.env (eval o X.env)=eval o X.env:=by rfl) (HF:(apos.endLine == qx.line)=ah:=by rfl):cz X (.Call (.Attribute o name apos) [] [] qx) (ahx X.K T r to):=by
 intro ar s U H Q aa h
 refine wpAny_Call_method0_late Hh HF (dm (aH ar s U H _ aa h) fun v s1 b4=>?_)
 obtain⟨x,H1,bC,cv,ty,cu⟩:=b4
 obtain⟨ai,aj⟩:=MC bC cv ty
 exact⟨T,id,yV,slot,H2,ai,aj,Calls.callWith_builtin I (PySem.evalArgs_none (hm ar s1 U H1 x [] v [] Q bC cv .nil cu))⟩
theorem hV(yV:PlainAttrs T)(slot:Slot T name id)(H2:typeOf (.builtin id)=pure (.type "method_descriptor"))(hm:sH X id r)(aH:cz X o to)(aJ:iQ X (e::es) t)
  (Hh:attributeBase o name X.env (eval o X.env)=eval o X.env:=by rfl)
  (ab6:((backTo qx (ek (e::es) X.env)).all (fun x=>!x.1)&&(backToKw qx (wQ [] X.env)).all (fun x=>x.1.isSome)
   && decide ((e::es).length+([]:List Keyword).length+(if([]:List Keyword).isEmpty then 0 else 1)<30))=ah:=by rfl)
  (HF:(apos.endLine == qx.line)=ah:=by rfl) (hs:ek (e::es) X.env=(aF,eval e X.env)::ek es X.env:=by rfl) (acK:(backTo qx (ek es X.env)).any (·.1)=aF:=by rfl) :
  cz X (.Call (.Attribute o name apos) (e::es) [] qx) (ahw X.K T r to t):=by
 intro ar s U H Q aa h
 refine wpAny_Call_method_late Hh ab6 HF I (dm (aH ar s U H _ aa h) fun v s1 b4=>?_)
 obtain⟨x,H1,bC,cv,ty,cu⟩:=b4
 obtain⟨ai,aj⟩:=MC bC cv ty
 refine⟨T,id,yV,slot,H2,ai,aj,?_⟩
 have nv:=aJ qx ar s1 U H1 _ bC cu
 rw[hs]at nv ⊢
 refine Calls.callWith_builtin (by show(aF||(backTo qx (ek es X.env)).any (·.1))=aF;rw[acK]<;>rfl) (Calls.evalArgs_plain ?_)
 refine dm nv fun us s2 b4=>?_
 obtain⟨vs,av,cJ,dZ,bX⟩:=b4
 exact hm ar s2 U av x vs v us Q cJ cv dZ bX
end
def Ea(X:bS)(id:String)(r:V->List V->aq->bJ->Prop):Prop :=
 ∀(ar:List (af×bU))(s:aO)(U:St)(H:aq)(x:V)(xs:List V)(v:au)(us:List au)(Q:bJ),Inv X ar U H s->RelV x v->Vals xs us->r x xs H Q->
  bN (model X.prog X.w) X.A (call (.builtin id) (v::us)) (iA X ar U Q) X.xe s
theorem Vals.one:∀{x:V}{us:List au},Vals [x] us->∃u,us=[u]/\RelV x u
 |_,_,.cons r .nil=>⟨_,rfl,r⟩
theorem Vals.eraseIdx:∀{xs:List V}{us:List au}(i:Nat),Vals xs us->Vals (xs.eraseIdx i) (us.eraseIdx i)
 |_,_,_,.nil =>.nil
 |_,_,0,.cons _ t=>t
 |_,_,i+1,.cons r t =>.cons r (Vals.eraseIdx i t)
theorem Li{α:Type}:∀(l:List α)(i:Nat),(l.eraseIdx i).length<=l.length
 |[],_=>b8 _
 |_::_,0=>Nat.le_succ _
 |_::r,i+1=>Nat.succ_le_succ (Li r i)
section
variable {X:bS} {ar:List (af×bU)} {U:St} {H:aq} {s:aO} {l b:af} {xs aA zs:List V}
theorem Inv.Im{its':List au}{f:Array au->Array au}(aa:Inv X ar U H s)(kV:H l=J (.lst xs))
  (e:s.heap.get? l=J {cls :=.type "list",data :=.seq bt.toArray n}) (az:f bt.toArray=its'.toArray) (br:Vals aA its') (bz:aA.length<=cj) :
  Inv X ar U (upd H l (.lst aA)) {s with heap:=s.heap.update l (bU.mapSeq f),toks:=t'}:=by
 have q:=PySem.IsL.update e f
 rw[az]at q
 refine aa.write (x:=l) (e:=l) (by rw[kV];exact trivial) (.inl I) (fun jR u ag cC=>(bA.get?_update_other s.heap (bU.mapSeq f) (eF ag)).trans cC) ⟨_,q⟩ ?_
 exact⟨bz,its',_,br,q⟩
theorem Inv.adP(aa:Inv X ar U H s)(br:Vals aA bt)(bz:aA.length<=cj):
  Inv X ar U (upd H s.heap.objs.size (.lst aA)) {s with heap:=s.heap.push {cls :=.type "list",data :=.seq bt.toArray},toks:=t'} :=
 aa.laid (fun _ _ q=>fV _ q) (b8 _) ⟨bz,bt,0,br,hH _ rfl⟩
theorem Inv.fresh(aa:Inv X ar U H s):H s.heap.objs.size=aw:=aa.aL.fresh (b8 _)
theorem Inv.wa(aa:Inv X ar U H s)(kV:H l=J (.lst xs)):xs.length<=cj/\∃(bt:List au)(n:Nat),Vals xs bt/\xs.length=bt.length/\s.heap.get? l=J {cls :=.type "list",data :=.seq bt.toArray n}:=by
 obtain⟨z,bt,n,r,e⟩:=aa.aL l _ kV
 exact⟨z,bt,n,r,r.length,e⟩
end
section
variable {X:bS}
inductive Jz(x:V)(vs:List V)(H:aq)(Q:af->List V->V->Prop):Prop where
 |mk (l:af) (xs:List V) (y:V) (e:x=.ref l) (a:vs=[y]) (h:H l=J (.lst xs)) (c:xs.length<cj) (q:Q l xs y):Jz x vs H Q
noncomputable def agR:V->List V->aq->bJ->Prop:=fun x vs H Q=>Jz x vs H fun l xs y=>Q .aT (upd H l (.lst (xs++[y])))
theorem qo:Ea X "list.append" agR:=by
 intro ar s U H x vs v us Q aa bp d0 h
 obtain⟨l,xs,y,rfl,rfl,kV,bz,q⟩:=h
 cases bp
 obtain⟨u,rfl,e4⟩:=d0.one
 obtain⟨z,bt,n,r,aD,e⟩:=aa.wa kV
 refine call_meets F.slot_list_append ⟨_,e,I⟩ F.entry_list_append (F.args_list_append_2 _ _) (PySem.list_append l bt.toArray n u (by rw[eo];omega)) ⟨e,?_⟩
 refine⟨.aT,_,aa.Im (its':=bt++[u]) kV e (by simp) (r.append (.cons e4 .nil)) ?_,I,q⟩
 rw[dX,ku]
 omega
noncomputable def ag1:V->List V->aq->bJ->Prop:=fun x vs H Q=>∃l xs i k y,x=.ref l/\vs=[.int i]/\H l=J (.lst xs)/\-(2^63)<=i/\i<2^63/\seqIndex? i xs.length=J k/\xs[k]?=J y/\Q y (upd H l (.lst (xs.eraseIdx k)))
theorem Zr:Ea X "list.pop" ag1:=by
 intro ar s U H x vs v us Q aa bp d0 h
 obtain⟨l,xs,i,k,y,rfl,rfl,kV,ai,aj,hk,aU,q⟩:=h
 cases bp
 obtain⟨u,rfl,e4⟩:=d0.one
 obtain⟨t,rfl⟩:=e4
 obtain⟨z,bt,n,r,aD,e⟩:=aa.wa kV
 obtain⟨w,hw,y0⟩:=r.get aU
 refine call_meets F.slot_list_pop ⟨_,e,I⟩ F.entry_list_pop (F.args_list_pop_2 _ _)
  (MeetsSeq.list_pop_at l bt.toArray n i t k w (fitsIndex_both ai aj) (by rw[eo,<-aD];exact hk) (by rw[<-Array.getElem?_toList];exact hw) (by rw[eo];omega)) ⟨e,?_⟩
 refine⟨y,_,aa.Im (its':=bt.eraseIdx k) kV e ?_ (r.eraseIdx k) ?_,y0,q⟩
 ·show bt.toArray.eraseIdxIfInBounds k=(bt.eraseIdx k).toArray
  rw[List.eraseIdxIfInBounds_toArray]
 ·have:=Li xs k
  omega
def agT:hR:=fun x y H Q=>∃l b xs zs,x=.ref l/\y=.ref b/\H l=J (.lst xs)/\H b=J (.lst zs)/\xs.length+zs.length<=cj/\∀p,H p=aw->Q (.ref p) (upd H p (.lst (xs++zs)))
theorem Uu:dQ X (j2 .Add) agT:=by
 intro ar s U H x y v u Q aa bp cn h
 obtain⟨l,b,xs,zs,rfl,rfl,kV,tg,bz,q⟩:=h
 cases bp
 cases cn
 obtain⟨z,bt,n,r,aD,e⟩:=aa.wa kV
 obtain⟨cL,eT,dc,dZ,fQ,aV⟩:=aa.wa tg
 refine PySem.P.add_list e aV ?_ (by rw[eo,eo];omega)
 have dz:bt.toArray++eT.toArray=(bt++eT).toArray:=by simp
 rw[dz]
 exact⟨.ref _,_,aa.adP (t':=s.toks) (r.append dZ) (by rw[dX];omega),I,q _ aa.fresh⟩
end
end c0
variable {loose:List ae} {u1:(ae->Option au)->bA->Prop} {rk:cZ->bA->Prop}
namespace JA
open PySem PySem.W PySem.Calls PyProof.Rows
variable {P:Params}
theorem VG:∀(ns:List Int)(vs:List au),WellAll P h vs (ns.map WData.int)->IntsAre vs ns:=by
 intro ns
 induction ns with
 |nil =>
  intro vs w
  rw[List.map_nil]at w
  cases w
  exact .nil
 | cons n ns bT =>
  intro vs w
  rw[fD]at w
  cases w with
  |cons a b =>
   cases a
   exact .cons _ _ (bT _ b)
variable {l:OpenLaw}
theorem Yg(aW:l.most=J n){args:List WData}{vals:List au}
  (qO:l.row.toRowW.claim.pre args=ah) (tF:WellAll P h vals args) :
  ∃a vs ns,vals=[au.ref a]/\args=[WData.list (ns.map WData.int)]/\h.get? a=J {cls :=.type "list",data :=.seq vs.toArray}/\IntsAre vs ns/\ns.length<=n:=by
 have acS:WShape.hasAll [] args [.list .int]=ah:=(pre_splitW qO).1
 have hc:l.pre.holds [] {args:=args}=ah:=(pre_splitW qO).2
 obtain⟨d,r,rfl,ai,aj⟩:=hasAllW_cons acS
 obtain rfl:=hasAllW_nil aj
 obtain⟨xs,rfl,bE⟩:=hasW_list ai
 obtain⟨ns,rfl⟩:=items_int bE
 have cM:ns.length<=n:=by
  unfold OpenLaw.pre at hc
  have cQ:(WTm.not (.lt (.lit (.int (n:Int))) (.len (.arg 0)))).holds [] {args:=[.list (ns.map .int)]}=ah:=by
   have cQ:=(holds_andW hc).1
   rw[aW]at cQ
   exact cQ
  have eN:=condW_of cQ (w_not (w_lt w_lit (w_len_list (w_arg rfl))))
  rw[cw]at eN
  refine Nat.le_of_not_lt fun q=>?_
  have jH:(n:Int)<((ns.length:Nat):Int):=by omega
  first
   |(rw[eu jH]at eN;exact absurd eN (by decide))
   |(simp at eN;omega)
 cases tF with
 |cons Jm k7 =>
  cases k7
  cases Jm with
  |list aH fI=>exact⟨_,_,ns,I,I,aH,VG ns _ fI,cM⟩
theorem Yl(l:OpenLaw)(args:List WData):l.row.toRowW.claim.post args (.bool ah) args=ah :=
 postW_of (r:=l.row.toRowW) (X:=(ah == ah))
  (show WShape.has [] (.bool ah) .bool=ah by first|rfl|decide|simp[WShape.has,WShape.arms,WShape.armsAll])
  (show(WTm.eq .res (.lit (.bool ah))).value [] {args:=args,res:=J (.bool ah),after:=args}=J (.bool (ah == ah))from w_eq_bool (w_res rfl) w_lit) rfl
theorem ZH{q:dA}{d:DefRec}
  (aW:l.most=J n) (oJ:d.params.defaults=[])
  (call:∀(w:cZ)(eE eg:aO)(mg nL:ae->Option au)(fa:af)(o:bU)(pm e0 doc:au)(a:af)(vs:List au)(ns:List Int),
   Ground q loose [] u1 w eE mg nL eg.heap->rk w eg.heap->
   eg.heap.get? fa=J o->o.data=.func (docDef d.name d.params d.body d.scope pm e0 doc)->eg.heap.CodeRec e0 d.name->mg d.name=J (.ref fa)->
   eg.heap.get? a=J {cls :=.type "list",data :=.seq vs.toArray}->IntsAre vs ns->ns.length<=n->eg.gens=#[]->
   n2 (model l.prog w) callerA (.call (.ref fa) ⟨[.ref a],[]⟩) (fun r bl=>r=.ok (.ret (.bool ah))/\OldK eg.heap bl.heap/\bl.os=eg.os/\AllBare bl.gens) eg) :
  WalkO q loose u1 rk l.row.toRowW d [] (fun f vs=>PySem.call f vs):=by
 intro w eE eg mg nL G Y fa o pm e0 doc BA gL aH hd oH dB hmg aX args vals as qO ajp ajE tF HG
 obtain rfl:BA=.none:=Dflts.none dB oJ
 obtain rfl:gL=.none:=Dflts.noKw dB
 obtain⟨a,vs,ns,rfl,rfl,HK,hints,cM⟩:=Yg aW qO tF
 refine enter_call (ur (call w eE eg mg nL fa o pm e0 doc a vs ns G Y aH (fd_plain hd) oH hmg HK hints cM aX) fun r bl bj=>?_)
 obtain⟨rfl,aj,bE,cQ⟩:=bj
 exact⟨.inl ⟨.bool ah,.bool ah,[],I,fun _=>I,.bool ah,Yl l _,fun _=>⟨List.Pairwise.nil,fun _ hm=>(nomatch hm)⟩⟩,aj,bE,cQ⟩
section
variable {prog:dA} {w:cZ} {A:dF} {E:au->aO->Prop} {s:aO} {K:Frag}
noncomputable def ajQ(h:bA)(L d:af):List (af×bU):=(List.range h.objs.size).filterMap fun a=>if a=L\/a=d then aw else(h.get? a).map fun o=>(a,o)
end
end JA
variable {fa:af} {H1 av H':c0.aq}
namespace c0
open PySem PySem.Spec PyProof.Rows
theorem K2:∀{vs:List au}{ns:List Int},IntsAre vs ns->Vals (ns.map V.int) vs
 |_,_,.nil =>.nil
 |_,_,.cons n t h =>.cons ⟨t,rfl⟩ (K2 h)
def Ec(H:aq):Prop:=∀b,H b=aw\/∃o xs,H b=J (.ji o (.lst xs))
theorem adE{nL:ae->Option au}{CX:mZ}{sp:cD}{eg:aO}{vs:List au}{ns:List Int}
  (KX:K.In eg.heap) (Oi:eg.heap.Ns fl mg) (ag:eg.heap.Ns builtinsNs nL) (Hi:∀x:ae,x≠"__name__"->nL x=kp x) (acp:eg.heap.NoLimit) (aX:eg.gens=#[])
  (aJ:eg.heap.get? a=J {cls :=.type "list",data :=.seq vs.toArray}) (ay:IntsAre vs ns) (aD:ns.length<=cj) (ax:gB k callerA)
  (F:∀base:bA,K.In base->base.Ns fl mg->de P w K mg base CX k fa fd [x] sp) (abJ:∀(s:aO)(u:au),BindsTo s fd ⟨[u],[]⟩ [(x,u)])
  (rX:∀H:aq,Ec H->cK K H a (ns.map V.int)->sp [.ref a] H (fun v _=>v=.aQ ah) fun _ _ _=>False)
  (G3:∀H e bl,CX [] H eg (fun _ _ _=>False) e bl->False) :
  n2 (model P w) callerA (.call (.ref fa) ⟨[.ref a],[]⟩) (fun r bl=>r=.ok (.ret (.bool ah))/\OldK eg.heap bl.heap/\bl.os=eg.os/\AllBare bl.gens) eg:=by
 have d0:=K2 ay
 have adH:=ay.length
 have core:∀H:aq,Ec H->cK K H a (ns.map V.int)->f3 P w H eg.heap->(∀b,H b≠aw->b=a)->(H a≠aw->K.lookup a=aw)->
   n2 (model P w) callerA (.call (.ref fa) ⟨[.ref a],[]⟩) (fun r bl=>r=.ok (.ret (.bool ah))/\OldK eg.heap bl.heap/\bl.os=eg.os/\AllBare bl.gens) eg:=by
  intro H B1 dk aL nv gw
  have base_of:∀{b:af}{o:bU},eg.heap.get? b=J o->H b=aw->(qI eg.heap H).get? b=J o:=fun e n=>Zw e n
  have yO:∀{b:af}{o:bU}{es:Array DictEntry}{gu:Nat},eg.heap.get? b=J o->o.data=.dict es gu->H b=aw:=fun{b o es gu}e d=>by
   cases q:H b with
   |none=>rfl
   |some u =>
    have e':b=a:=nv b (by rw[q];simp)
    subst e'
    rw[aJ]at e;cases e
    have d':Data.seq vs.toArray _=Data.dict es gu:=d
    cases d'
  have tO:∀{b:af}{m:ae->Option au},eg.heap.Ns b m->(qI eg.heap H).Ns b m:=fun {b m} ⟨o,es,gu,e,d,r⟩=>⟨o,es,gu,base_of e (yO e d),d,r⟩
  have NF:K.In (qI eg.heap H):=fun b o e=>base_of (KX b o e) (by
   cases q:H b with
   |none=>rfl
   |some u =>
    have e':b=a:=nv b (by rw[q];simp)
    subst e'
    rw[gw (by rw[q];simp)]at e;cases e)
  have x7:Mod K mg (qI eg.heap H):=⟨NF,tO Oi,⟨nL,tO ag,Hi⟩,let ⟨ad7,ai,aj⟩:=acp;⟨ad7,tO ai,aj⟩⟩
  have eM:sz P w K mg (qI eg.heap H) callerA [] eg H:=⟨rfl,x7,fun b o e=>TM e,Nat.le_of_eq (YH _ _),trivial,fun b ag=>absurd (show b∈([]:List af)from ag) (by simp),aL,.of_eq aX⟩
  refine ur ((F _ NF (tO Oi)).run callerA [] eg H ⟨[.ref a],[]⟩ [.ref a] [.ref a] _ _ ax eM (abJ eg (.ref a)) (.cons I .nil) (rX H B1 dk)) fun r bl h=>?_
  cases r with
  |error e=>exact(G3 H e bl h).elim
  | ok fi =>
   cases fi with
   |next=>exact False.elim h
   |brk=>exact False.elim h
   |cont=>exact False.elim h
   | ret u =>
    obtain⟨v,H',os,bare,un,acE,eD,q⟩:=h
    have jH:v=.aQ ah:=q
    subst jH
    obtain rfl:u=au.bool ah:=eD
    refine⟨I,OldK.of_keep fun b o e=>?_,os,bare⟩
    cases q:H b with
    |none=>exact un.keep b o e q (by intro z;exact absurd (show b∈([]:List af)from z) (by simp)) (by simp)
    | some u =>
     rcases B1 b with z|⟨ec,xs,z⟩
     .rw[q]at z;cases z
     ·have cL:=un.nq b ec _ z
      obtain⟨aS,_⟩:=aL b _ z
      obtain⟨aV,_⟩:=acE b _ cL
      rw[e]at aS;cases aS
      exact aV
 cases hk:K.lookup a with
 |some o =>
  have e:=KX a o hk
  rw[aJ]at e
  cases e
  refine core (fun _=>aw) (fun _ =>.inl I) (.inr ⟨_,vs.toArray,_,hk,I,I,I,by rw[eo,adH];exact aD,by simpa using d0⟩) (fun b u z=>by have pd:(aw:Option df)=J u:=z;cases pd) (fun b z=>absurd rfl z) fun z=>absurd rfl z
 | none =>
  refine core (fun b=>if b=a then J (.ji {cls :=.type "list",data :=.seq vs.toArray} (.lst (ns.map V.int)))else aw) (fun b=>?_) (.inl (.inr ⟨{cls :=.type "list",data :=.seq vs.toArray},if_pos rfl⟩)) (fun b u z=>?_) (fun b z=>?_) fun _=>hk
  ·by_cases ag:b=a
   .exact .inr ⟨_,_,if_pos ag⟩
   .exact .inl (if_neg ag)
  ·by_cases ag:b=a
   ·have pd:=(if_pos ag).symm.trans z
    cases pd
    subst ag
    exact⟨aJ,by rw[cw];exact aD,vs,_,d0,aJ⟩
   ·have pd:=(if_neg ag).symm.trans z
    cases pd
  ·by_cases ag:b=a
   .exact ag
   .exact absurd (if_neg ag) z
theorem Tb{l:PySem.W.OpenLaw}{q:dA}{d:DefRec}{K:Params->bM}{CX:cZ->mZ}{sp:cZ->cD}
  (aW:l.most=J n) (kg:n<=cj) (oJ:d.params.defaults=[]) (ax:gB k callerA)
  (Hf:∀(w:cZ)(h:bA),rk w h->(K w.params).In h)
  (F:∀(w:cZ)(mg:ae->Option au)(fa:af)(h:bA),(K w.params).In h->h.Ns fl mg->mg d.name=J (.ref fa)->
   ∃fd:iP,(∀(s:aO)(u:au),BindsTo s fd ⟨[u],[]⟩ [(x,u)])/\
    ∀base:bA,(K w.params).In base->base.Ns fl mg->de l.prog w (K w.params) mg base (CX w) k fa fd [x] (sp w))
  (rX:∀(w:cZ)(H:aq)(a:af)(ns:List Int),ns.length<=n->Ec H->cK (K w.params) H a (ns.map V.int)->sp w [.ref a] H (fun v _=>v=.aQ ah) fun _ _ _=>False)
  (G3:∀(w:cZ)(H:aq)(s:aO)(e:au)(bl:aO),CX w [] H s (fun _ _ _=>False) e bl->False) :
  PySem.W.WalkO q loose u1 rk l.row.toRowW d [] (fun f vs=>PySem.call f vs):=by
 refine JA.ZH aW oJ fun w eE eg mg nL fa o pm e0 doc a vs ns G Y aH hd oH hmg HK hints cM aX=>?_
 have KX:=Hf w _ Y
 obtain⟨fd,ag,dr⟩:=F w mg fa _ KX G.T.g hmg
 exact adE KX G.T.g G.T.b G.T.builtins G.T.nolimit aX HK hints (dE cM kg) ax dr ag (fun H B1 dk=>rX w H a ns cM B1 dk) fun H e bl=>G3 w H eg e bl
noncomputable def ew(s:bD)(j:Nat):bD:=match s with
 |.ClassDef _ _ _ body _ _ _ _ _ _ _=>body.getD j (.Pass ⟨0,0,0,0⟩)
 |_ => .Pass ⟨0,0,0,0⟩
noncomputable def ni(s:bD):Arguments:=match s with
 |.FunctionDef _ a _ _ _ _ _ _ _ _=>a
 |_=>{posonlyargs:=[],args:=[],vararg:=aw,kwonlyargs:=[],kw_defaults:=[],kwarg:=aw,defaults:=[]}
noncomputable def ky(s:bD):List bD:=match s with
 |.FunctionDef _ _ b _ _ _ _ _ _ _=>b
 |_=>[]
noncomputable def bR(s:bD):Scope:=match s with
 |.FunctionDef _ _ _ _ _ _ sc _ _ _=>sc
 |_=>{kind :=.function,names:=[],isGenerator:=aF,isCoroutine:=aF}
noncomputable abbrev dv:mZ:=fun _ _ _ _ _ _=>False
abbrev jd:cN:=fun _ _ _=>False
theorem yW{X:bS}:Passes dv X jd:=fun _ _ _ _ _ _ _ h=>h.elim
structure dG(K:bM)(x eW:ae)(st:bD)(f:af)(fd:iP):Prop where
 ex:∃(i7:au)(gM:Option af)(gL doc pm:au)(an:Option af)(bx ct:au)(nQ:Array (Option au)),
  fd=mW x eW (ni st) (ky st) (bR st) .none gL doc pm an bx ct/\K.lookup f=J ⟨i7,gM,.func fd,nQ⟩/\Ds K bx eW=ah
 iL:p1 K (.ref f)=ah
variable {f:af}
section
variable {P:dA} {w:cZ} {K:bM} {mg:ae->Option au} {base:bA}
theorem dG.ok{st:bD}{sp:cD}(F:dG K x eW st f fd)(S:cc N aK (bR st))(len:∀vs H Q E,sp vs H Q E->vs.length=aK.length)
  (oG:∀(bx:au)(A:dF)(outer:List Env)(s:aO)(H:aq)(vs:List V)(Q:bJ)(E:cN),gB k (A.deeper (envOfC eW (bR st) s.heap.objs.size f bx))->sp vs H Q E->
   ∃t,jx (pL dv P w K mg base N eW (bR st) f bx A outer s H E).r8 (ky st) t/\t {nx:=fun _ H'=>Q .aT H',rt:=Q} (start N vs) H):de P w K mg base dv (k+1) f fd aK sp:=by
 obtain⟨i7,gM,gL,doc,pm,an,bx,ct,nQ,rfl,v9,oH⟩:=F.ex
 refine U0 v9 oH S len fun A outer s H vs Q E ax rX=>?_
 obtain⟨t,h,q⟩:=oG bx A outer s H vs Q E ax rX
 exact⟨t,h.r8,q⟩
theorem dG.binds{st:bD}(F:dG K x eW st f fd)
  (h:∀(gL doc pm:au)(an:Option af)(bx ct:au)(us:List au),us.length=aK.length->bindArgs (mW x eW (ni st) (ky st) (bR st) .none gL doc pm an bx ct) ⟨us,[]⟩=pure (aK.zip us)):Binds K fd aK []:=by
 obtain⟨i7,gM,gL,doc,pm,an,bx,ct,nQ,rfl,v9,oH⟩:=F.ex
 exact .all (h gL doc pm an bx ct)
theorem MO{st:bD}{gL:au}(l:K.lookup f=J ⟨i7,gM,.func (mW x eW (ni st) (ky st) (bR st) .none gL doc pm an bx ct),nQ⟩)
  (c:Ds K bx eW=ah) (k:p1 K (.ref f)=ah):dG K x eW st f (mW x eW (ni st) (ky st) (bR st) .none gL doc pm an bx ct):=⟨⟨i7,gM,gL,doc,pm,an,bx,ct,nQ,rfl,l,c⟩,k⟩
end
section
variable {X:bS}
theorem ab(i:Nat)(b3:X.N[i]?=J x:=by rfl)(br:z9 X.env.scope x:=by first|exact Or.inl I|exact Or.inr (Or.inl I)|exact Or.inr (Or.inr I))(hd:(x == ("__debug__":ae))=aF:=by decide)
  (oH:(x == ("__classdict__":ae))=aF:=by decide):cz X (.Name x aZ) (o8 i):=Uq b3 br hd oH
end
variable {A B:Prop}
theorem dW(h:B):if aF=ah then A else B:=by
 rw[if_neg hS]
 exact h
theorem e3(h:A):if ah=ah then A else B:=by
 rw[if_pos rfl]
 exact h
theorem yA{c:Prop}[Decidable c](hc:c)(h:B):if(!decide c)=ah then A else B:=by
 rw[eu hc]
 exact dW h
def ef(H H':aq):Prop:=∀b o,H b=J o->H' b=J o
theorem ef.refl(H:aq):ef H H:=fun _ _ h=>h
theorem ef.trans(a:ef H H1)(b:ef H1 av):ef H av:=fun c o h=>b c o (a c o h)
theorem ef.free(e:ef H H'){l:af}(h:H' l=Option.none):H l=Option.none:=by
 cases q:H l with
 |none=>rfl
 |some o =>
  rw[e l o q]at h
  cases h
theorem ef.seq(e:ef H H')(h:cK K H a xs):cK K H' a xs:=by
 rcases h with(h|⟨o,h⟩)|h
 .exact .inl (.inl (e _ _ h))
 .exact .inl (.inr ⟨o,e _ _ h⟩)
 .exact .inr h
end c0
variable {o:c0.df} {p:af} {cH:c0.h4} {acc:au} {ox:List (ae×c0.V)} {y4:c0.cD}
section
namespace c0
open PySem PySem.Spec PyProof.Rows
section
variable {X:bS}
theorem xt:sH X "int.bit_length" (fun x xs H Q=>∃i,x=.int i/\xs=[]/\Q (.int ((cS.Int.intBits i:Nat):Int)) H):=by
 intro ar s U H x xs v us Q aa bp d0 h
 obtain⟨i,rfl,rfl,q⟩:=h
 obtain⟨t,rfl⟩:=bp
 cases d0
 exact call_gives F.slot_int_bit_length (typeIs_int s i t) F.entry_int_bit_length (F.args_int_bit_length_1 _) (AutoIntG2.int_bit_length_int_0 i t) ⟨.int _,H,aa.tok _,⟨_,I⟩,q⟩
theorem Mc:∀{aA:List ae}{bt:List au},Vals (aA.map V.str) bt->StrsAre bt aA
 |[],_,.nil =>.nil
 |_::_,_,.cons ⟨_,e⟩ r=>by subst e;exact .cons _ _ (Mc r)
theorem sY:sH X "str.join" (fun x xs H Q=>∃y a aA,x=.str y/\xs=[.ref a]/\cK X.K H a (aA.map V.str)/\(aA.map (·.length)).sum+aA.length*y.length<=16777216/\Q (.str (Txt.join y aA)) H):=by
 intro ar s U H x xs v us Q aa bp d0 h
 obtain⟨y,a,aA,rfl,rfl,bj,bz,q⟩:=h
 obtain⟨t,rfl⟩:=bp
 obtain⟨u,rfl,e4⟩:=d0.one
 cases e4
 obtain⟨bt,r,pl,_⟩:=aa.list bj
 exact join_list pl.isList (by simpa using Mc r) bz fun t' k=>⟨.str _,H,aa.tok _,⟨_,I⟩,q⟩
theorem XG:dQ X (j2 .Mult) (fun x y H Q=>∃z i,x=.str z/\y=.int i/\i<2^40/\-(2^40)<i/\z.length*i.toNat<=cj/\Q (.str (Txt.mul z i)) H):=by
 intro ar s U H x y v u Q aa bp cn h
 obtain⟨z,i,rfl,rfl,ai,aj,bE,q⟩:=h
 obtain⟨t,rfl⟩:=bp
 obtain⟨t',rfl⟩:=cn
 refine SB.mul ⟨?_,fun cQ _=>?_,fun cQ _=>?_⟩ fun t' k=>⟨.str _,H,aa.tok _,⟨_,I⟩,q⟩
 .simp only[Bool.or_eq_false_iff,decide_eq_false_iff_not];omega
 ·intro c
  have aW:(0:Int)<i:=by omega
  have ai4:=v8
  have e:(z.length:Int)*i<=2^63-1:=by
   have:((z.length*i.toNat:Nat):Int)=(z.length:Int)*i:=by rw[Int.natCast_mul];congr 1;omega
   omega
  have:=(Int.le_ediv_iff_mul_le aW).mpr e
  omega
 .unfold cS.Str.tooLong;simpa using bE
theorem Ws:jL X (.type "int") (fun xs H Q=>∃x n,xs=[.str x]/\PySem.intText? x=J n/\x.length<=640/\Q (.int n) H):=by
 intro ar s U H xs us Q aa r h
 obtain⟨x,n,rfl,aW,aD,q⟩:=h
 obtain⟨u,rfl,t,rfl⟩:=vals1 r
 exact PySem.W.KIN.call_text aW aD ⟨.int n,H,aa.tok _,⟨_,I⟩,q⟩
theorem Uj:m8 X (fun x lo ay H Q=>∃z,x=.str z/\z.length<=cj/\Q (.str (Txt.slice z lo ay)) H):=by
 intro ar s U H x v iy iz lo ay dp Q aa bp hs pl pu h
 obtain⟨z,rfl,bz,q⟩:=h
 obtain⟨t,rfl⟩:=bp
 refine⟨"str",_,F.slot_str_getitem.lookup,typeIs_str s z t,?_⟩
 have ck:∀(t':Tok)(k:Nat),iA X ar U Q (.str (Txt.slice z lo ay) t') {s with toks:=k}:=fun t' k=>⟨.str _,H,aa.tok _,⟨_,rfl⟩,q⟩
 obtain⟨o,aH,hc,hd⟩:=hs
 cases pl with
 |none =>
  cases pu with
  |none=>exact Dv (l:=aw) (u:=aw) (st:=aw) ⟨o,aH,hc,hd⟩ I (post_val_or_str ⟨dE (Txt.slice_le z _ _) bz,ck⟩)
  |int j Ji=>exact Dv (l:=aw) (u:=J (j,Ji)) (st:=aw) ⟨o,aH,hc,hd⟩ I (post_val_or_str ⟨dE (Txt.slice_le z _ _) bz,ck⟩)
 |int i Rc =>
  cases pu with
  |none=>exact Dv (l:=J (i,Rc)) (u:=aw) (st:=aw) ⟨o,aH,hc,hd⟩ I (post_val_or_str ⟨dE (Txt.slice_le z _ _) bz,ck⟩)
  |int j Ji=>exact Dv (l:=J (i,Rc)) (u:=J (j,Ji)) (st:=aw) ⟨o,aH,hc,hd⟩ I (post_val_or_str ⟨dE (Txt.slice_le z _ _) bz,ck⟩)
theorem Xr:jL X (.builtin "isinstance") (fun xs H Q=>∃x T t b,xs=[x,.ty T]/\lu X.K H x t/\uq X.K t (.type T)=J b/\Q (.aQ b) H):=by
 intro ar s U H xs us Q aa r h
 obtain⟨x,T,t,b,rfl,ty,e,q⟩:=h
 obtain⟨u,ie,rfl,cv,dZ⟩:=vals2 r
 cases(show ie=au.type T from dZ)
 exact Ln aa cv ty e fun dK=>⟨.aQ b,H,aa.tok _,I,q⟩
theorem WX:jL X (.builtin "isinstance") (fun xs H Q=>∃x C t b,xs=[x,.ref C]/\lu X.K H x t/\uq X.K t (.ref C)=J b/\Q (.aQ b) H):=by
 intro ar s U H xs us Q aa r h
 obtain⟨x,C,t,b,rfl,ty,e,q⟩:=h
 obtain⟨u,ie,rfl,cv,dZ⟩:=vals2 r
 cases(show ie=au.ref C from dZ)
 exact Ln aa cv ty e fun dK=>⟨.aQ b,H,aa.tok _,I,q⟩
end
noncomputable def w5(lo c:Int)(n:Nat):kr:=⟨fun i _=>i<n,fun i H x H'=>H'=H/\x=.int (lo+i*c),fun i _=>n<=i⟩
theorem WZ(it:af)(lo c:Int)(n:Nat):Turn P w K eP (w5 lo c n) [it] it (fun i h=>IsRangeIter h it (lo+(i:Nat)*c) ((n:Int)-(i:Nat)) c) where
 mem:=by simp
 obj:=fun i h st b ag=>by
  have e:b=it:=by simpa using ag
  subst e
  exact⟨_,st,fun v z=>by
   have pd:Data.fields _=Data.cell v:=z
   cases pd⟩
 keep:=fun i h h' st k=>k it (by simp) _ st
 item:=by
  intro X cG hw gw hc i ar s U H E aa az st aX
  subst cG hw gw
  obtain⟨f0,f1,f2,hL,f4,h8⟩:=az it (by simp)
  have W:=Walks.range (prog:=X.prog) (w:=X.w) (aa.ok.hd hc) it lo c n
  refine W.item i s _ _ aX st fun v h' dK br h1 dY=>?_
  obtain⟨t,rfl⟩:=br
  have bC:Inv X ar U H {s with heap:=h',toks:=dK}:=aa.turned (fun b o ag e=>dY b o (by simpa using ag) e) f0 f1 hL f4 h8
  exact⟨_,I,xK (s:={s with heap:=h',toks:=dK}) (n:="range_iterator") h1 I I (by decide) ⟨.int (lo+i*c),H,bC,⟨t,I⟩,⟨I,I⟩,h1,fun b ag=>(az b ag).1⟩⟩
 done:=by
  intro X cG hw gw hc i ar s U H E aa az st aX
  subst cG hw gw
  obtain⟨f0,f1,f2,hL,f4,h8⟩:=az it (by simp)
  exact wpAny_pyNext_range_end (aa.ok.hd hc) st (by have:n<=i:=aX;omega) fun h' eA=>⟨I,aa.turned (t':=s.toks) (fun b o ag e=>eA b o ag e) f0 f1 hL f4 h8⟩
 self:=fun _ _ _ _ _ st h=>wpAny_pyIter_rangeiter st h
section
variable {X:bS} {eP:cO}
def adp(cH:h4):dU:=fun U H R=>cH U H fun vs H1=>∃i j:Int,vs=[.int i,.int j,.int (-1)]/\(-(2^61)<=i/\i<2^61/\-(2^61)<=j/\j<2^61)/\R (w5 i (-1) (i-j).toNat) H1
end
section
variable {X:bS} {eP:cO}
theorem Xy{a b:Int}(aJ : -(2^61)<=a)(B3:a<2^61)(ag : -(2^61)<=b)(lE:b<2^61):cS.Range.small a b (-1)=ah:=by
 unfold cS.Range.small cS.Range.rangeSize
 simp only[cS.Range.rangeFitsLong,gZ,Bool.or_eq_true,iR,beq_iff_eq,show ¬((-1:Int) > 0) by decide,if_false,Int.neg_neg,Int.ediv_one]
 split<;>omega
theorem VU(a b:Int):cS.Range.rangeSize a b (-1)=(((a-b).toNat:Nat):Int):=by
 unfold cS.Range.rangeSize
 rw[if_neg (by decide)]
 simp only[Int.neg_neg,Int.ediv_one]
 split<;>omega
theorem Lb{a b c:cO}{p:Pos}(aX:jr X "range")(hm:X.mg "range"=aw)(aJ:iQ X [a,b,c] cH)
  (hs:ek [a,b,c] X.env=[(aF,eval a X.env),(aF,eval b X.env),(aF,eval c X.env)]:=by rfl) (c1:ek [b,c] X.env=[(aF,eval b X.env),(aF,eval c X.env)]:=by rfl) :
  jw X eP (.Call (.Name "range" p) [a,b,c] [] aZ) (adp cH):=by
 intro ar s U H R aa h
 refine Call_ (ot aa aX hm boot_range (PyProof.Rows.callWith_type1 (dm (aJ aZ ar s U H _ aa h) fun us s1 ⟨vs,H1,bC,cv,cu⟩=>?_) (by rw[hs,c1]) (by rw[c1];rfl)))
 obtain⟨i,j,e,⟨cu,bX,fS,aeZ⟩,q⟩:=cu
 subst e
 cases cv with
 | cons r jY =>
  cases jY with
  | cons eD jY =>
   cases jY with
   | cons agN jY =>
    cases jY
    obtain⟨t,rfl⟩:=r
    obtain⟨t',rfl⟩:=eD
    obtain⟨aht,rfl⟩:=agN
    refine call_range_3 (by decide) ?_ (.inl (PyProof.noPylong_small (by decide)))
    refine wpAny_pyIter_range (IsRange.new ..) (Xy cu bX fS aeZ) ?_
    have cJ:Inv X ar U H1 {s1 with heap:=s1.heap.push {cls :=.type "range",data :=.fields #[.int i t,.int j t',.int (-1) aht]}}:=bC.kept (t':=s1.toks) fun b o e=>fV _ e
    refine⟨_,[_],_,_,H1,I,cJ.kept (t':=s1.toks) fun b o e=>fV _ e,WZ _ i (-1) (i-j).toNat,?_,fun b ag=>?_,q⟩
    ·have aS:i+((0:Nat):Int)*(-1)=i:=by simp
     have aV:(((i-j).toNat:Nat):Int)-((0:Nat):Int)=cS.Range.rangeSize i j (-1):=by rw[VU];simp
     show IsRangeIter _ _ (i+((0:Nat):Int)*(-1)) ((((i-j).toNat:Nat):Int)-((0:Nat):Int)) (-1)
     rw[aS,aV]
     exact hH _ I
    ·have e:=d5.mp ag
     subst e
     exact cJ.pO (b8 _) (cJ.aL.fresh (b8 _))
end
noncomputable def uD(x:ae):kr:=⟨fun i _=>i<x.cps.size,fun i H v H'=>H'=H/\∃c,x.cps[i]?=J c/\v=.str ⟨#[c]⟩,fun i _=>x.cps.size<=i⟩
section
variable {X:bS} {eP:cO}
theorem LI{eP:cO}(x:ae)(it:af)(n:String)(t:Tok)(W:∀zq:dF,zq.handled=aw->Walks P w zq it [it] [it] x.cps.size (SignAt x) (fun i h=>h.IsStrIter it n x t i))
  (aW:["enumerate","zip","dict_itemiterator","dict_reverseitemiterator","odict_iterator","itertools.zip_longest","itertools.pairwise"].contains n=aF)
  (abU:∀(A:dF)(i:Nat)(s:aO)(Q:Option au->aO->Prop)(E:au->aO->Prop),A.handled=aw->s.heap.IsStrIter it n x t i->x.cps.size<=i->(∀h',(∀b o,b≠it->s.heap.get? b=J o->h'.get? b=J o)->Q aw {s with heap:=h'})->bN (model P w) A (pyNext (.ref it)) Q E s)
  (acR:∀(A:dF)(i:Nat)(s:aO)(Q:au->aO->Prop)(E:au->aO->Prop),s.heap.IsStrIter it n x t i->Q (.ref it) s->bN (model P w) A (pyIter (.ref it)) Q E s) :
  Turn P w K eP (uD x) [it] it (fun i h=>h.IsStrIter it n x t i) where
 mem:=by simp
 obj:=fun i h st b ag=>by
  have e:b=it:=by simpa using ag
  subst e
  obtain⟨o,aH,hc,hd⟩:=st
  exact⟨o,aH,fun v z=>by rw[hd]at z;cases z⟩
 keep:=fun i h h' st k=>by
  obtain⟨o,aH,r⟩:=st
  exact⟨o,k it (by simp) o aH,r⟩
 item:=by
  intro X cG hw gw hc i ar s U H E aa az st aX
  subst cG hw gw
  obtain⟨f0,f1,f2,hL,f4,h8⟩:=az it (by simp)
  refine(W X.A (aa.ok.hd hc)).item i s _ _ aX st fun v h' dK br h1 dY=>?_
  obtain⟨c,u,l5,rfl⟩:=br
  have bC:Inv X ar U H {s with heap:=h',toks:=dK}:=aa.turned (fun b o ag e=>dY b o (by simpa using ag) e) f0 f1 hL f4 h8
  obtain⟨o,aH,mE,hd⟩:=id h1
  exact⟨_,I,xK (s:={s with heap:=h',toks:=dK}) (n:=n) aH mE hd aW ⟨.str ⟨#[c]⟩,H,bC,⟨u,I⟩,⟨I,c,l5,I⟩,h1,fun b ag=>(az b ag).1⟩⟩
 done:=by
  intro X cG hw gw hc i ar s U H E aa az st aX
  subst cG hw gw
  obtain⟨f0,f1,f2,hL,f4,h8⟩:=az it (by simp)
  exact abU X.A i s _ _ (aa.ok.hd hc) st aX fun h' eA=>⟨I,aa.turned (t':=s.toks) (fun b o ag e=>eA b o ag e) f0 f1 hL f4 h8⟩
 self:=fun A i s Q E st h=>acR A i s Q E st h
def OG(dd:TE):dU:=fun U H R=>dd U H fun x H1=>∃y,x=.str y/\R (uD y) H1
theorem Uo{l:cO}{dd:TE}(aD:cz X l dd):jw X eP l (OG dd):=by
 intro ar s U H R aa h
 refine dm (aD ar s U H _ aa h) fun v s1 b4=>?_
 obtain⟨x,H1,bC,cv,cu⟩:=b4
 obtain⟨y,e,q⟩:=cu
 subst e
 obtain⟨t,rfl⟩:=cv
 have ck:∀(o:bU)(iN:Nat->bA->Prop),Turn X.prog X.w X.K eP (uD y) [s1.heap.objs.size] s1.heap.objs.size iN->iN 0 (s1.heap.push o)->Ed X ar U eP R (.ref s1.heap.objs.size) {s1 with heap:=s1.heap.push o}:=fun o iN T bg=>by
  refine⟨s1.heap.objs.size,[s1.heap.objs.size],iN,uD y,H1,I,bC.kept (t':=s1.toks) fun b o e=>fV _ e,T,bg,fun b ag=>?_,q⟩
  have e:=d5.mp ag
  subst e
  exact bC.pO (b8 _) (bC.aL.fresh (b8 _))
 cases aJ:y.cps.all (· < 128)
 ·refine wpAny_pyIter_wide aJ (ck _ _ (LI y _ "str_iterator" t (fun zq nv=>Walks.strWide nv _ y t) (by decide) (fun A i s Q E ft st ay gq=>?_) fun A i s Q E st bj=>wpAny_pyIter_striter_wide st bj) ⟨_,hH _ I,I,I⟩)
  exact wpAny_pyNext_wide_end ft st (by simpa using ay) fun h' ts=>gq h' fun b o ag e=>ts b o ag e
 ·refine wpAny_pyIter_ascii aJ (ck _ _ (LI y _ "str_ascii_iterator" t (fun zq nv=>Walks.strAscii nv _ y t) (by decide) (fun A i s Q E ft st ay gq=>?_) fun A i s Q E st bj=>wpAny_pyIter_striter_ascii st bj) ⟨_,hH _ I,I,I⟩)
  exact wpAny_pyNext_ascii_end ft st (by simpa using ay) fun h' ts=>gq h' fun b o ag e=>ts b o ag e
end
noncomputable def Bz(sc:Scope)(cs:List ae):Bool :=
 sc.kind ==.function&&sc.names.all (fun y=>y.2 !=.cell)&&sc.names.all (fun y=>y.2 !=.local||sc.names.lookup y.1 == J .local) &&
  sc.names.all (fun y=>y.2 !=.free||cs.contains y.1)&&cs.all (fun x=>sc.names.lookup x == J .free)
noncomputable def so(X:bS):List (Nat×ae)->Prop
 |[]=>True
 |(j,x)::r=>X.N[j]?=J x/\(X.env.kindOf x=J .cell\/X.env.kindOf x=J .free)/\so X r
theorem so.at{X:bS}:∀{cs:List (Nat×ae)},so X cs->∀p∈cs,X.N[p.1]?=J p.2/\(X.env.kindOf p.2=J .cell\/X.env.kindOf p.2=J .free)
 |[],_,_,h=>nomatch h
 |(j,x)::r,⟨ai,aj,bE⟩,p,h=>by
  rcases c9.mp h with e|e
  .subst e;exact⟨ai,aj⟩
  .exact so.at bE p e
noncomputable def Gr(X:bS)(dC:Scope)(cl:List (ae×af))(C:af)(N:List ae)(s2:aO)(av:aq)(b7:List af):bS where
 prog:=X.prog
 w:=X.w
 K:=X.K
 mg:=X.mg
 base:=X.base
 A:=X.A
 N:=N
 eE:=s2
 jt:=av
 env:=compEnvC dC cl C X.env
 outer:=X.stack
 stack:=X.stack
 ex:=b7
 calm:=X.calm
 fn:=fun _=>aF
 nR:=[]
 xe:=fun _ _=>False
theorem Fn{env:Env}:∀(names:List (ae×j1)),(∀y∈names,y.2=.free->∃c,env.cells.lookup y.1=J c)->
  ∀acc:List (ae×af),(∀x c,acc.lookup x=J c->env.cells.lookup x=J c)->∃cl,
  (forIn names acc fun(x:ae×j1)r=>do
   if x.2 ==.free then pure (ForInStep.yield ((x.1,<-cellOf env x.1)::r))else pure (ForInStep.yield r):Sem (List (ae×af)))=pure cl/\
  (∀x c,cl.lookup x=J c->env.cells.lookup x=J c)/\(∀y∈names,y.2=.free->∃c,cl.lookup y.1=J c)/\∀x c,acc.lookup x=J c->∃h7,cl.lookup x=J h7
 |[],_,acc,aJ=>⟨acc,rfl,aJ,(fun _ h=>nomatch h),fun _ c h=>⟨c,h⟩⟩
 | (n,k)::r,aW,acc,aJ=>by
  by_cases hk:k=.free
  ·subst hk
   obtain⟨c,hc⟩:=aW _ gF rfl
   have B3:∀x h7,((n,c)::acc).lookup x=J h7->env.cells.lookup x=J h7:=fun x h7 e=>by
    rw[List.lookup_cons]at e
    by_cases ao:x=n
    ·subst ao
     rw[beq_self_eq_true]at e
     cases e
     exact hc
    ·rw[beq_false_of_ne ao]at e
     exact aJ x h7 e
   obtain⟨cl,e,ai,aj,bE⟩:=Fn r (fun y aU=>aW y (en _ aU)) ((n,c)::acc) B3
   refine⟨cl,?_,ai,fun y aU az=>?_,fun x h7 ao=>?_⟩
   ·rw[List.forIn_cons]
    simp only[cellOf,hc,beq_self_eq_true,if_true]
    exact e
   ·rcases c9.mp aU with e'|e'
    ·subst e'
     exact bE n c (by rw[List.lookup_cons,beq_self_eq_true])
    .exact aj y e' az
   ·by_cases OD:x=n
    ·subst OD
     exact bE x c (by rw[List.lookup_cons,beq_self_eq_true])
    .exact bE x h7 (by rw[List.lookup_cons,beq_false_of_ne OD];exact ao)
  ·obtain⟨cl,e,ai,aj,bE⟩:=Fn r (fun y aU=>aW y (en _ aU)) acc aJ
   refine⟨cl,?_,ai,fun y aU az=>?_,bE⟩
   ·rw[List.forIn_cons]
    have ag:(k == j1.free)=aF:=by simpa using hk
    simp only[ag,Bool.false_eq_true,if_false]
    exact e
   ·rcases c9.mp aU with e'|e'
    ·subst e'
     exact absurd az hk
    .exact aj y e' az
def lO(el:kr)(g:gC)(gb:gQ)(cI:TE)(Q:bJ)(eV:St)(H1:aq)(D:af):Prop :=
 ∃ W:Nat->Nat->St->aq->Prop,(∃m,W 0 m eV (upd H1 D (.lst [])))/\∀i m bL av,W i m bL av->
  (el.stop i av/\Q (.ref D) av)\/
  (el.go i av/\∀x bQ,el.p0 i av x bQ->g x bL bQ fun bu fZ=>gb bu fZ fun b fm =>
   if b=ah then cI bu fm fun y d9=>∃xs bY,d9 D=J (.lst xs)/\xs.length<cj/\bY<m/\W (i+1) bY bu (upd d9 D (.lst (xs++[y])))
   else ∃bY,bY<m/\W (i+1) bY bu fm)
def I8(iO:dU)(g:gC)(gb:gQ)(cI:TE)(eV:St->St):TE:=fun U H Q=>iO U H fun el H1=>∀D,H1 D=aw->lO el g gb cI Q (eV U) H1 D
def pY:gQ:=fun _ H Q=>Q ah H
def uT(X:bS)(ifs:List cO)(t:gQ):Prop :=
 ∀(ar:List (af×bU))(s:aO)(U:St)(H:aq)(Q:Bool->aq->Prop),Inv X ar U H s->t U H Q->
  bN (model X.prog X.w) X.A (forIn ifs ah fun c r=>if r=ah then do let ok <-isTrue c X.env (eval c X.env);pure (ForInStep.yield ok)else pure (ForInStep.yield r)) (z5 X ar U Q) X.xe s
theorem hu{X:bS}:uT X [] pY:=fun _ _ _ H _ aa h=>wpAny_tests_nil ⟨H,aa,h⟩
theorem F0{X:bS}{c:cO}{t:gQ}(h:kM X c t):uT X [c] t:=fun ar s U H Q aa q=>wpAny_tests_one (h ar s U H Q aa q)
section
variable {prog:dA} {w:cZ} {A:dF} {E:au->aO->Prop} {R:Result->aO->Prop} {s:aO}
theorem WV{elt jc:cO}{ifs:List cO}{it:au}(aa:Nat->aO->Prop)
  (turn:∀n s,aa n s->bN (model prog w) A (pyNext it) (fun r eg=>match r with
   |none=>R (.ok .next) eg
   | some v=>bN (model prog w) A (letOwnedTupleGo jc it v) (fun _ QZ=>bN (model prog w) A (assign jc env v) (fun _ nU =>
     bN (model prog w) A (forIn ifs ah fun c r=>if r=ah then do let ok <-isTrue c env (eval c env);pure (ForInStep.yield ok)else pure (ForInStep.yield r)) (fun ok uc =>
      if ok=ah then bN (model prog w) A (eval elt env) (fun x Q0 =>
       bN (model prog w) A (call (.builtin "list.append") [acc,x]) (fun _ Q1=>∃m,m<n/\aa m Q1) (notedBy (model prog w) A env fun e bl=>R (.error e) bl) Q0) (notedBy (model prog w) A env fun e bl=>R (.error e) bl) uc
      else ∃m,m<n/\aa m uc) (notedBy (model prog w) A env fun e bl=>R (.error e) bl) nU) (notedBy (model prog w) A env fun e bl=>R (.error e) bl) QZ) (notedBy (model prog w) A env fun e bl=>R (.error e) bl) eg) (notedBy (model prog w) A env fun e bl=>R (.error e) bl) s)
  (n:Nat) (h:aa n s) :
  n2 (model prog w) A (.compLoop (.ListComp elt [⟨jc,iter,ifs,0⟩] dC aZ) 0 it acc env) R s:=by
 refine codeAny_loop I aa (fun n s fv=>?_) n h
 show bN _ A ((compTurn (.ListComp elt [⟨jc,iter,ifs,0⟩] dC aZ) 0 it acc env).onRaise (fun x=>do noteFrame x env;theTreesLotGoes x)) _ _ s
 refine wpAny_noted ?_
 rw[compTurn_list]
 refine bF (wpAny_standAt (bF (mY (turn n s fv) (fun r eg iu=>?_) fun _ _ h'=>h')))
 cases r with
 |none=>exact dP iu
 | some v =>
  refine bF (mY iu (fun _ QZ adb=>?_) fun _ _ h'=>h')
  refine bF (mY adb (fun _ nU ade=>bF (mY ade (fun ok uc OE=>?_) fun _ _ h'=>h')) fun _ _ h'=>h')
  cases ok with
  |false=>exact dP ⟨I,OE⟩
  |true =>
   exact bF (bF (mY OE (fun x Q0 adf=>bF (mY adf (fun _ Q1 adg=>dP (dP ⟨I,adg⟩)) fun _ _ h'=>h')) fun _ _ h'=>h'))
end
section
variable {X:bS} {elt jc iter:cO} {ifs:List cO} {dC:Scope} {aZ p:Pos} {gg:List (Nat×ae)} {g9:List ae} {iO:dU} {g:gC} {gb:gQ} {cI:TE}
noncomputable def pJ(g9:List ae)(gg:List (Nat×ae)):St->St:=fun U=>List.replicate g9.length aw++gg.map fun p=>(U[p.1]?).join
theorem Ky{env:Env}:∀{names:List (ae×j1)}{x:ae},names.lookup x=J .free->
  ((names.map fun(n,k)=>if(k == j1.free&&env.scope.kind ==.function&&env.kindOf n == J .cell)then(n,j1.cell)else(n,k)).lookup x=J .cell\/
   (names.map fun(n,k)=>if(k == j1.free&&env.scope.kind ==.function&&env.kindOf n == J .cell)then(n,j1.cell)else(n,k)).lookup x=J .free)
 |[],_,h=>by cases h
 | (n,k)::r,x,h=>by
  rw[List.lookup_cons]at h
  rw[fD]
  by_cases ao:x=n
  ·subst ao
   rw[beq_self_eq_true]at h
   cases h
   dsimp only
   split
   .exact .inl (by rw[List.lookup_cons,beq_self_eq_true])
   .exact .inr (by rw[List.lookup_cons,beq_self_eq_true])
  ·rw[beq_false_of_ne ao]at h
   have bT:=Ky (env:=env) h
   dsimp only
   split<;>(rw[List.lookup_cons,beq_false_of_ne ao];exact bT)
theorem Kz{env:Env}:∀{names:List (ae×j1)}{x:ae},((names.map fun(n,k)=>if(k == j1.free&&env.scope.kind ==.function&&env.kindOf n == J .cell)then(n,j1.cell)else(n,k)).lookup x=J .cell\/
   (names.map fun(n,k)=>if(k == j1.free&&env.scope.kind ==.function&&env.kindOf n == J .cell)then(n,j1.cell)else(n,k)).lookup x=J .free)->(∀y∈names,y.2≠.cell)->names.lookup x=J .free
 |[],_,h,_=>by rcases h with h|h<;>cases h
 | (n,k)::r,x,h,aW=>by
  rw[List.lookup_cons]
  by_cases ao:x=n
  ·subst ao
   rw[beq_self_eq_true]
   have hk:=aW _ gF
   rw[fD]at h
   dsimp only at h
   split at h
   ·rename_i c
    simp only[gZ,beq_iff_eq]at c
    exact congrArg J c.1.1
   ·rw[List.lookup_cons,beq_self_eq_true]at h
    rcases h with h|h
    .cases h;exact absurd I hk
    .exact h
  ·rw[beq_false_of_ne ao]
   refine Kz (env:=env) ?_ fun y aU=>aW y (en _ aU)
   rw[fD]at h
   dsimp only at h
   split at h<;>(rw[List.lookup_cons,beq_false_of_ne ao]at h;exact h)
theorem Eu:∀{names:List (ae×j1)}{x:ae}{k:j1},names.lookup x=J k->(x,k)∈names
 |[],_,_,h=>by cases h
 | (n,i5)::r,x,k,h=>by
  rw[List.lookup_cons]at h
  by_cases ao:x=n
  ·subst ao
   rw[beq_self_eq_true]at h
   cases h
   exact gF
  ·rw[beq_false_of_ne ao]at h
   exact en _ (Eu h)
set_option maxHeartbeats 1000000
noncomputable abbrev Dw(α:Type):=List (ae×af)->af->aO->aq->List af->α
end
noncomputable def mj(H:aq)(a:af):df->Prop
 |.ins _ ak _=>H ak=J (.own a)
 |.ji _ u=>mj H a u
 |_=>True
def kJ(H:aq):Prop:=∀a o,H a=J o->mj H a o
theorem mj.of(x:ih P w H h a o):mj H a o:=by
 induction o with
 |ins C ak fs=>exact x.1
 |ji ec u bT=>exact bT x.2
 |_=>trivial
theorem f3.closed(x:f3 P w H h):kJ H:=fun a o e=>mj.of (x a o e)
theorem mj.mono(s:∀b u,H b=J u->H' b=J u)(x:mj H a o):mj H' a o:=by
 induction o with
 |ins C ak fs=>exact s _ _ x
 |ji ec u bT=>exact bT x
 |_=>trivial
theorem ih.sub(x:ih P w H' h a o)(se:mj H a o):ih P w H h a o:=by
 induction o with
 |ins C ak fs=>exact⟨se,x.2⟩
 |ji ec u bT=>exact⟨x.1,bT x.2 se⟩
 |lst _=>exact x
 |tup _=>exact x
 |my _=>exact x
 |pM _=>exact x
 |set _ _=>exact x
 |own _=>exact x
 |hE _=>exact x
 |met _ _=>exact x
 |yZ _ _=>exact x
 |q0 _=>exact x
 |ext _=>exact x
structure Sub(H lk H':aq):Prop where
 le:ef lk H'
 ge:∀b o,H b=J o->∃u,lk b=J u
 cl:kJ H->kJ lk
theorem Sub.refl(h:ef H H'):Sub H H H':=⟨h,fun _ o e=>⟨o,e⟩,id⟩
theorem Sub.all(h:∀b o,H b=J o->∃u,H' b=J u)(c:kJ H->kJ H'):Sub H H' H':=⟨ef.refl _,h,c⟩
theorem dg(h:H p=aw):ef H (upd H p o):=fun b u q=>by rw[bK (f5 q h)];exact q
theorem uV(c:kJ H)(h:H p=aw)(aH:mj (upd H p o) p o):kJ (upd H p o):=fun a u e=>by
 by_cases z:a=p
 .subst z;rw[aG]at e;cases e;exact aH
 ·rw[bK z]at e
  exact(c a u e).mono (dg h)
theorem Sub.new(h:H p=aw)(hs:ef H H')(e:H' p=J o)(aH:mj (upd H p o) p o):Sub H (upd H p o) H' :=
 ⟨fun b u q=>by
  by_cases z:b=p
  .subst z;rw[aG]at q;cases q;exact e
  .rw[bK z]at q;exact hs b u q,fun b u q=>⟨u,dg h b u q⟩,fun c=>uV c h aH⟩
theorem Sub.ins{ak:af}{fs:List (ae×V)}(h:H p=J (.ins C ak fs))(hs:∀b u,b≠p->H b=J u->H' b=J u)(e:H' p=J (.ins C ak ox)):Sub H (upd H p (.ins C ak ox)) H' :=
 ⟨fun b u q=>by
  by_cases z:b=p
  .subst z;rw[aG]at q;cases q;exact e
  .rw[bK z]at q;exact hs b u z q,fun b u q=>by
  by_cases z:b=p
  .subst z;exact⟨_,aG⟩
  .exact⟨u,by rw[bK z];exact q⟩,fun c a u q=>by
  have hd:H ak=J (.own p):=c p _ h
  have bo:ak≠p:=fun z=>by rw[z,h]at hd;cases hd
  by_cases z:a=p
  ·subst z;rw[aG]at q;cases q
   show upd H a _ ak=_
   rw[bK bo];exact hd
  ·rw[bK z]at q
   have x:=c a u q
   revert x
   generalize u=o
   clear q
   induction o with
   |ins aiL d' Nd =>
    intro (x:H d'=J (.own a))
    show upd H p _ d'=_
    rw[bK (fun y=>by rw[y,h]at x;cases x)];exact x
   |ji ec u bT=>intro x;exact bT x
   |_=>intro _;trivial⟩
section
variable {X:bS} {ar:List (af×bU)} {U:St} {H H' lk:aq} {s s0:aO}
theorem gR.sub{fs ex:List af}{DW:aq}{ai aj:bA}(zi:gR fs ex DW H h ai)(u:gR fs ex DW H' h aj)(d:Sub H lk H'):gR fs ex DW lk h aj:=by
 refine⟨u.keep,u.slot,fun b o e n ao=>?_,u.there,fun b xs e=>?_,fun b o v e=>?_,fun b aK e=>?_⟩
 ·cases q:lk b with
  |none=>rfl
  |some v=>have:=d.le b v q;rw[u.free b o e n ao]at this;cases this
 ·obtain⟨v,br⟩:=d.ge b _ (zi.pa b xs e)
  have:=d.le b v br;rw[u.pa b xs e]at this;cases this;exact br
 ·obtain⟨z,br⟩:=d.ge b _ (zi.nq b o v e)
  have:=d.le b z br;rw[u.nq b o v e]at this;cases this;exact br
 ·obtain⟨m0,eM⟩:=zi.o9 b aK e
  obtain⟨z,br⟩:=d.ge b _ eM
  obtain⟨m,aS⟩:=u.o9 b aK e
  have:=d.le b z br;rw[aS]at this;cases this;exact⟨m,br⟩
theorem f3.sub(x:f3 P w H' h)(c:kJ lk)(d:ef lk H'):f3 P w lk h:=fun a o e=>(x a o (d a o e)).sub (c a o e)
end
inductive kt(H H':aq)(Q:aq->Prop):Prop where
 |mk (lk:aq) (s:Sub H lk H') (q:Q lk):kt H H' Q
theorem de.keep{f:af}{sp:cD}(F:de P w K mg base dv k f fd aK sp)
  (h:∀vs H Q E,y4 vs H Q E->sp vs H (fun v H'=>kt H H' (Q v)) E):de P w K mg base dv k f fd aK y4:=by
 refine⟨fun vs H Q E q=>F.len vs H _ E (h vs H Q E q),fun A outer s H args us vs Q E ax eM ag r q=>ur (F.run A outer s H args us vs _ E ax eM ag r (h vs H Q E q)) fun rs bl c=>?_⟩
 cases rs with
 |error e=>exact c
 | ok fi =>
  cases fi with
  |ret u =>
   obtain⟨v,H',os,bare,un,aL,d0,lk,d,jH⟩:=c
   exact⟨v,lk,os,bare,gR.sub (gR.refl (h:=s.heap)) un d,aL.sub (d.cl eM.aL.closed) d.le,d0,jH⟩
  |next=>exact c
  |brk=>exact c
  |cont=>exact c
theorem dG.O8{st:bD}{f:af}{sp:cD}(F:dG K x eW st f fd)(S:cc N aK (bR st))(len:∀vs H Q E,sp vs H Q E->vs.length=aK.length)
  (oG:∀(bx:au)(A:dF)(outer:List Env)(s:aO)(H:aq)(vs:List V)(Q:bJ)(E:cN),gB k (A.deeper (envOfC eW (bR st) s.heap.objs.size f bx))->sp vs H Q E->
   ∃t,jx (pL dv P w K mg base N eW (bR st) f bx A outer s H E).r8 (ky st) t/\t {nx:=fun _ H'=>kt H H' (Q .aT),rt:=fun v H'=>kt H H' (Q v)} (start N vs) H):de P w K mg base dv (k+1) f fd aK sp :=
 (F.ok (sp:=fun vs H Q E=>∃qj,Q=(fun v H'=>kt H H' (qj v))/\sp vs H qj E) S (fun vs H Q E ⟨qj,_,h⟩=>len vs H qj E h) (fun bx A outer s H vs Q E ax ⟨qj,e,h⟩=>by
  subst e
  exact oG bx A outer s H vs qj E ax h)).keep fun vs H Q E h=>⟨Q,rfl,h⟩
end c0
end
variable {m n':Nat} {L:List Bool}
section
namespace ea
noncomputable def dj(n:Nat):Nat->List Bool
 |0=>[]
 |w+1=>n.testBit w::dj n w
noncomputable def aE(n:Nat):Nat:=if n=0 then 0 else n.log2+1
theorem iV(n w:Nat):(dj n w).length=w:=by
 induction w with
 |zero=>rfl
 |succ w bT=>simp[dj,bT]
theorem pG(n:Nat):n<2^aE n:=by
 unfold aE
 split
 .omega
 .exact Nat.lt_log2_self
theorem jh{w:Nat}(h:n<2^w):aE n<=w:=by
 unfold aE
 split
 .omega
 ·rename_i bg
  exact(Nat.log2_lt bg).mpr h
theorem oi(h:n≠0):0<aE n:=by unfold aE;rw[if_neg h];omega
theorem F8(h:n≠0):2^(aE n-1)<=n:=by
 unfold aE;rw[if_neg h];exact Nat.log2_self_le h
theorem LB(h:m<=n):aE m<=aE n:=jh (Nat.lt_of_le_of_lt h (pG n))
theorem Wv(n:Nat)(b:Bool):(2*n+b.toNat).testBit 0=b:=by
 cases b<;>simp[Nat.testBit_zero]<;>omega
theorem Xx(n k:Nat)(b:Bool):(2*n+b.toNat).testBit (k+1)=n.testBit k:=by
 rw[Nat.testBit_succ]
 congr 1
 cases b<;>simp<;>omega
theorem K1(n w:Nat)(b:Bool):dj (2*n+b.toNat) (w+1)=dj n w++[b]:=by
 induction w with
 |zero=>simp only[dj,List.nil_append,Wv]
 |succ w bT =>
  rw[dj,bT,Xx]
  rfl
noncomputable def kG(a:Nat)(l:List Bool):Nat:=l.foldl (fun x b=>2*x+b.toNat) a
theorem aiS(a:Nat):kG a []=a:=rfl
theorem To(a:Nat)(b:Bool)(l:List Bool):kG a (b::l)=kG (2*a+b.toNat) l:=rfl
theorem Yj(a:Nat)(l m:List Bool):kG a (l++m)=kG (kG a l) m:=by simp[kG,List.foldl_append]
theorem Tp(a n w:Nat):kG a (dj n w)=a*2^w+n%2^w:=by
 induction w generalizing a with
 |zero=>simp[dj,kG,Nat.mod_one]
 | succ w bT =>
  rw[dj,To,bT]
  have h:n%2^(w+1)=(n.testBit w).toNat*2^w+n%2^w:=by
   rw[Nat.pow_succ,Nat.mod_mul,Nat.testBit_eq_decide_div_mod_eq,Nat.add_comm,Nat.mul_comm]
   congr 1
   have:n/2^w%2<2:=Nat.mod_lt _ (by decide)
   by_cases q:n/2^w%2=1
   .simp[q]
   ·have:n/2^w%2=0:=by omega
    simp[this]
  rw[h,Nat.pow_succ,Nat.add_mul]
  have e:2*a*2^w=a*(2^w*2):=by rw[Nat.mul_comm 2 a,Nat.mul_assoc,Nat.mul_comm 2 (2^w)]
  omega
theorem MH(h:n≠0):kG 1 (dj n (aE n-1))=n:=by
 rw[Tp,Nat.one_mul]
 have ai:=F8 h
 have aj:=pG n
 have bE:=oi h
 have e:2^aE n=2^(aE n-1)*2:=by rw[<-Nat.pow_succ];congr 1;omega
 have:n%2^(aE n-1)=n-2^(aE n-1):=by
  rw[Nat.mod_eq_sub_mod ai,Nat.mod_eq_of_lt (by omega)]
 omega
def Sep(a b:List Bool):Prop:=∃c x y,a=c++aF::x/\b=c++ah::y
variable {a:List Bool}
theorem Sep.pre(p:List Bool){b:List Bool}(h:Sep a b):Sep (p++a) (p++b):=by
 obtain⟨c,x,y,rfl,rfl⟩:=h
 exact⟨p++c,x,y,by simp,by simp⟩
theorem Sep.post{b:List Bool}(h:Sep a b)(u v:List Bool):Sep (a++u) (b++v):=by
 obtain⟨c,x,y,rfl,rfl⟩:=h
 exact⟨c,x++u,y++v,by simp,by simp⟩
theorem Sep.turn{b:List Bool}(h:Sep a b):Sep (b.map (!·)) (a.map (!·)):=by
 obtain⟨c,x,y,rfl,rfl⟩:=h
 exact⟨c.map (!·),y.map (!·),x.map (!·),by simp,by simp⟩
theorem Sep.np{b:List Bool}(h:Sep a b):¬a <+: b:=by
 obtain⟨c,x,y,rfl,rfl⟩:=h
 rintro⟨t,e⟩
 simp only[gD]at e
 have:=List.append_cancel_left e
 simp at this
theorem AY{w:Nat}(h:n<n')(h':n'<2^w):Sep (dj n w) (dj n' w):=by
 induction w generalizing n n' with
 |zero=>omega
 | succ w bT =>
  have e:n=2*(n/2)+(decide (n%2=1)).toNat:=by
   by_cases q:n%2=1
   .simp[q];omega
   .simp[q];omega
  have e':n'=2*(n'/2)+(decide (n'%2=1)).toNat:=by
   by_cases q:n'%2=1
   .simp[q];omega
   .simp[q];omega
  rw[e,e',K1,K1]
  rw[Nat.pow_succ]at h'
  by_cases q:n/2<n'/2
  .exact(bT q (by omega)).post _ _
  ·have:n/2=n'/2:=by omega
   rw[this]
   have a:n%2=0:=by omega
   have b:n'%2=1:=by omega
   simp only[a,b]
   exact⟨_,[],[],I,I⟩
theorem Tl(h:i<j)(x y:List Bool):Sep (List.replicate i ah++aF::x) (List.replicate j ah++y):=by
 refine⟨List.replicate i ah,x,List.replicate (j-i-1) ah++y,I,?_⟩
 have:j=i+(1+(j-i-1)):=by omega
 conv=>lhs;rw[this]
 rw[<-List.replicate_append_replicate,<-List.replicate_append_replicate]
 simp
noncomputable def fq(e:Nat):List Bool:=if e=8 then []else [aF]
noncomputable def cnt(n:Nat):List Bool :=
 List.replicate (aE (aE (n+1))-1) ah++(fq (aE (aE (n+1)))++(dj (aE (n+1)) (aE (aE (n+1))-1)++dj (n+1) (aE (n+1)-1)))
theorem Mj(h:n≠0):n%2^(aE n-1)=n-2^(aE n-1):=by
 have ai:=F8 h
 have aj:=pG n
 have bE:=oi h
 have e:2^aE n=2^(aE n-1)*2:=by rw[<-Nat.pow_succ];congr 1;omega
 rw[Nat.mod_eq_sub_mod ai,Nat.mod_eq_of_lt (by omega)]
theorem LC(n w:Nat):dj n w=dj (n%2^w) w:=by
 have:∀j,j<=w->dj n j=dj (n%2^w) j:=by
  intro j b2
  induction j with
  |zero=>rfl
  |succ j bT =>
   rw[dj,dj,bT (by omega),Nat.testBit_mod_two_pow]
   simp[show j<w by omega]
 exact this w (b8 _)
theorem Md(bg:n≠0)(h:n<n')(e:aE n=aE n'):Sep (dj n (aE n-1)) (dj n' (aE n' - 1)):=by
 have abp:n'≠0:=by omega
 rw[LC n,LC n',Mj bg,Mj abp,<-e]
 have ai:=F8 bg
 have aj:=pG n'
 rw[<-e]at aj
 have bE:=oi bg
 have aV:2^aE n=2^(aE n-1)*2:=by rw[<-Nat.pow_succ];congr 1;omega
 exact AY (by omega) (by omega)
theorem F7(h:n<n')(h':n'+1<2^255):Sep (cnt n) (cnt n'):=by
 unfold cnt
 have hd:aE (n'+1)<=255:=jh h'
 have aY:0<aE (n+1):=oi (by omega)
 have ajB:0<aE (n'+1):=oi (by omega)
 have he:aE (aE (n'+1))<=8:=jh (by omega)
 have fj:aE (n+1)<=aE (n'+1):=LB (by omega)
 have kD:aE (aE (n+1))<=aE (aE (n'+1)):=LB fj
 have bj:0<aE (aE (n+1)):=oi (by omega)
 by_cases q:aE (aE (n+1))<aE (aE (n'+1))
 ·have c:fq (aE (aE (n+1)))=[aF]:=by unfold fq;rw[if_neg (by omega)]
  rw[c]
  exact Tl (by omega) _ _
 ·have jH:aE (aE (n+1))=aE (aE (n'+1)):=by omega
  by_cases r:aE (n+1)<aE (n'+1)
  ·have s:=Md (by omega) r jH
   rw[<-jH]at s ⊢
   exact((s.post _ _).pre _).pre _
  ·have eD:aE (n+1)=aE (n'+1):=by omega
   have s:=Md (n:=n+1) (n':=n'+1) (by omega) (by omega) eD
   rw[<-eD]at s ⊢
   exact((s.pre _).pre _).pre _
theorem AM(h:n+1<2^255):(cnt n).length<=aE (n+1)+14:=by
 unfold cnt
 have hd:aE (n+1)<=255:=jh h
 have he:aE (aE (n+1))<=8:=jh (by omega)
 have bj:0<aE (n+1):=oi (by omega)
 simp only[dX,List.length_replicate,iV]
 have:(fq (aE (aE (n+1)))).length<=if aE (aE (n+1))=8 then 0 else 1:=by
  unfold fq;split<;>simp
 split at this<;>omega
noncomputable def gP(n:Int):List Bool:=if n<0 then aF::(cnt (-1-n).toNat).map (!·)else ah::cnt n.toNat
theorem L9{n n':Int}(h:n<n')(ai : -(2^255)<n)(aj:n'<2^255-1):Sep (gP n) (gP n'):=by
 unfold gP
 by_cases a:n<0
 ·by_cases b:n'<0
  ·rw[if_pos a,if_pos b]
   have s:=F7 (n:=(-1-n').toNat) (n':=(-1-n).toNat) (by omega) (by omega)
   exact s.turn.pre [aF]
  ·rw[if_pos a,if_neg b]
   exact⟨[],_,_,I,I⟩
 ·rw[if_neg a,if_neg (by omega)]
  have s:=F7 (n:=n.toNat) (n':=n'.toNat) (by omega) (by omega)
  exact s.pre [ah]
end ea
namespace ea
structure Rt(L:List Bool)(p n:Nat):Prop where
 ones:∀j,j<aE (aE (n+1))-1->L.getD (p+j) aF=ah
 zero:aE (aE (n+1))<8->L.getD (p+(aE (aE (n+1))-1)) aF=aF
 size:(L.drop (p+(aE (aE (n+1))-1)+(fq (aE (aE (n+1)))).length)).take (aE (aE (n+1))-1)=dj (aE (n+1)) (aE (aE (n+1))-1)
 more:(L.drop (p+(aE (aE (n+1))-1)+(fq (aE (aE (n+1)))).length+(aE (aE (n+1))-1))).take (aE (n+1)-1)=dj (n+1) (aE (n+1)-1)
 fits:p+(cnt n).length<=L.length
theorem Mv(n:Nat):(cnt n).length=(aE (aE (n+1))-1)+(fq (aE (aE (n+1)))).length+(aE (aE (n+1))-1)+(aE (n+1)-1):=by
 unfold cnt
 simp only[dX,List.length_replicate,iV]
 omega
theorem UL{p:Nat}(h:cnt n <+: L.drop p)(aY:p<=L.length):Rt L p n:=by
 obtain⟨r,e⟩:=h
 have aD:=congrArg List.length e
 rw[dX,je]at aD
 have key:∀j,j<(cnt n).length->L.getD (p+j) aF=(cnt n).getD j aF:=by
  intro j b2
  have:(L.drop p)[j]?=(cnt n)[j]?:=by rw[<-e,List.getElem?_append_left b2]
  rw[List.getElem?_drop]at this
  rw[dN,dN,this]
 have cl:=Mv n
 refine⟨fun j b2=>?_,fun nu=>?_,?_,?_,by omega⟩
 ·rw[key j (by omega)]
  unfold cnt
  rw[dN,List.getElem?_append_left (by simpa using b2),List.getElem?_replicate,if_pos b2];rfl
 ·have fu:(fq (aE (aE (n+1))))=[aF]:=by unfold fq;rw[if_neg (by omega)]
  rw[key _ (by rw[cl,fu];simp only[d6,List.length_nil];omega)]
  unfold cnt
  rw[fu,dN,List.getElem?_append_right (by simp)]
  simp
 ·have:L.drop (p+(aE (aE (n+1))-1)+(fq (aE (aE (n+1)))).length)=dj (aE (n+1)) (aE (aE (n+1))-1)++dj (n+1) (aE (n+1)-1)++r:=by
   rw[Nat.add_assoc,<-List.drop_drop,<-e]
   unfold cnt
   rw[<-gD,<-gD,gD (List.replicate _ _++_),gD (List.replicate _ _++_)]
   have:(aE (aE (n+1))-1)+(fq (aE (aE (n+1)))).length=(List.replicate (aE (aE (n+1))-1) ah++fq (aE (aE (n+1)))).length:=by simp
   rw[this,List.drop_left]
  rw[this,gD,List.take_left' (iV _ _)]
 ·have:L.drop (p+(aE (aE (n+1))-1)+(fq (aE (aE (n+1)))).length+(aE (aE (n+1))-1))=dj (n+1) (aE (n+1)-1)++r:=by
   rw[Nat.add_assoc,Nat.add_assoc,<-List.drop_drop,<-e]
   unfold cnt
   have aV:(List.replicate (aE (aE (n+1))-1) ah++(fq (aE (aE (n+1)))++(dj (aE (n+1)) (aE (aE (n+1))-1)++dj (n+1) (aE (n+1)-1))))++r=(List.replicate (aE (aE (n+1))-1) ah++fq (aE (aE (n+1)))++dj (aE (n+1)) (aE (aE (n+1))-1))++(dj (n+1) (aE (n+1)-1)++r):=by simp
   rw[aV]
   have:(aE (aE (n+1))-1)+((fq (aE (aE (n+1)))).length+(aE (aE (n+1))-1))=(List.replicate (aE (aE (n+1))-1) ah++fq (aE (aE (n+1)))++dj (aE (n+1)) (aE (aE (n+1))-1)).length:=by simp[iV,Nat.add_assoc]
   rw[this,List.drop_left]
  rw[this,List.take_left' (iV _ _)]
end ea
end
variable {c:Nat} {l:List Bool}
section
namespace ea
open PySem c0
noncomputable def mx(b:Bool):Nat:=if b then 49 else 48
noncomputable def aP(l:List Bool):ae:=⟨(l.map mx).toArray⟩
theorem vb{a b:ae}(h:a.cps.toList=b.cps.toList):a=b:=by
 obtain⟨x⟩:=a;obtain⟨y⟩:=b
 exact congrArg ae.mk (Array.ext' h)
theorem iC(l:List Bool):(aP l).cps.toList=l.map mx:=by simp[aP]
theorem eG(l:List Bool):(aP l).length=l.length:=by simp[aP,ae.length]
theorem UO{a b:Bool}(h:mx a=mx b):a=b:=by cases a<;>cases b<;>first|rfl|(revert h;decide)
variable {a:List Bool}
theorem FH{b:List Bool}(h:aP a=aP b):a=b:=by
 have:=congrArg (fun x:ae=>x.cps.toList) h
 simp only[iC]at this
 exact List.map_inj_right (fun _ _=>UO) |>.mp this
theorem ka(a b:List Bool):aP a++aP b=aP (a++b):=by
 apply vb
 show((aP a).cps++(aP b).cps).toList=_
 rw[Array.toList_append,iC,iC,iC,fo]
theorem s1:(ae.ofString "1")=aP [ah]:=by decide+kernel
theorem s0:(ae.ofString "0")=aP [aF]:=by decide+kernel
theorem IL:(ae.ofString "")=aP []:=by decide+kernel
theorem Zh(a b:List Bool):decide (V.str (aP a)=V.str (aP b))=decide (a=b):=by
 by_cases h:a=b
 .subst h;simp
 ·have:¬V.str (aP a)=V.str (aP b):=fun q=>h (FH (V.str.inj q))
  rw[fC h,fC this]
theorem WS:∀aA:List ae,(Txt.join (ae.ofString "") aA).cps.toList=(aA.map (·.cps.toList)).flatten:=by
 have e:(ae.ofString "").cps=#[]:=by decide+kernel
 have key:∀(aA:List ae)(acc:Array Nat),(aA.foldl (fun acc p=>acc++(ae.ofString "").cps++p.cps) acc).toList=acc.toList++(aA.map (·.cps.toList)).flatten:=by
  intro aA
  induction aA with
  |nil=>intro acc;simp
  |cons y r bT=>intro acc;rw[List.foldl_cons,bT,e];simp
 intro aA
 cases aA with
 |nil=>rfl
 |cons y r =>
  show((r.foldl (fun acc p=>acc++(ae.ofString "").cps++p.cps) y.cps)).toList=_
  rw[key];simp
theorem rh(ls:List (List Bool)):Txt.join (ae.ofString "") (ls.map aP)=aP ls.flatten:=by
 apply vb
 rw[WS,iC,gE,List.map_flatten]
 exact congrArg List.flatten (oh fun l _=>iC l)
theorem YP(l:List Bool):(l.map fun b=>[b]).flatten=l:=by
 induction l with
 |nil=>rfl
 |cons b r bT=>rw[fD,j8,bT];rfl
theorem Ll(l:List Bool):Txt.join (ae.ofString "") (l.map fun b=>aP [b])=aP l:=by
 have:=rh (l.map fun b=>[b])
 rw[gE]at this
 rw[show(fun b=>aP [b])=aP ∘ (fun b=>[b])from rfl,this]
 exact congrArg aP (YP l)
theorem Be(b:Bool)(n:Int):Txt.mul (aP [b]) n=aP (List.replicate n.toNat b):=by
 unfold Txt.mul
 by_cases h:n<1
 .rw[if_pos h,show n.toNat=0 by omega];rfl
 ·rw[if_neg h]
  by_cases ai:n=1
  .subst ai;rfl
  ·have:(n == 1||(aP [b]).length == 0)=aF:=by simp[eG,ai]
   rw[this,if_neg (by decide)]
   apply vb
   have key:∀(k:Nat)(acc:Array Nat),((List.replicate k (aP [b]).cps).foldl (· ++ ·) acc).toList=acc.toList++(List.replicate k b).map mx:=by
    intro k
    induction k with
    |zero=>intro acc;simp
    |succ k bT=>intro acc;rw[List.replicate_succ,List.foldl_cons,bT,List.replicate_succ];simp[aP]
   rw[iC]
   simpa using key n.toNat #[]
theorem ahi(lo ay:Option Int)(n:Nat):cS.Str.strSliceIndices lo ay 1 n=(List.range (cA.cV n n ay-cA.cV n 0 lo)).map (cA.cV n 0 lo+·):=by
 unfold cS.Str.strSliceIndices
 rw[<-sliceRange_one]
 simp only[show((1:Int) > 0)=True from eq_true (by decide),if_true]
 congr 1
 ·cases lo with
  |none=>rfl
  |some i =>
   simp only[cA.cV]
   by_cases h:i<0
   .simp only[h,if_true];omega
   .simp only[h,if_false];omega
 ·cases ay with
  |none=>rfl
  |some i =>
   simp only[cA.cV]
   by_cases h:i<0
   .simp only[h,if_true];omega
   .simp only[h,if_false];omega
theorem u3(x:ae)(lo ay:Option Int):(Txt.slice x lo ay).cps.toList=(x.cps.toList.drop (cA.cV x.length 0 lo)).take (cA.cV x.length x.length ay-cA.cV x.length 0 lo):=by
 have aD:x.cps.toList.length=x.length:=by simp[ae.length]
 have ai:=cA.IM x.length x.length (b8 _) ay
 have aj:=cA.IM x.length 0 (UF _) lo
 unfold Txt.slice
 rw[ahi]
 split
 ·rename_i c
  simp only[cw,kQ,gZ,beq_iff_eq]at c
  have a0:cA.cV x.length 0 lo=0\/x.length=0:=by omega
  rcases a0 with a0|a0
  .rw[a0,List.drop_zero,UV (by omega)]
  ·have:x.cps.toList=[]:=List.length_eq_zero_iff.mp (by omega)
   rw[this];simp
 .rw[pick_run]
theorem Yb(l:List Bool)(lo ay:Option Int):Txt.slice (aP l) lo ay=aP ((l.drop (cA.cV l.length 0 lo)).take (cA.cV l.length l.length ay-cA.cV l.length 0 lo)):=by
 apply vb
 rw[u3,iC,iC,eG,List.map_take,List.map_drop]
theorem qt{b:List Bool}(h:Sep a b):(aP a).cps.toList<(aP b).cps.toList:=by
 obtain⟨c,x,y,rfl,rfl⟩:=h
 simp only[iC,fo,fD]
 refine List.append_left_lt ?_
 exact List.Lex.rel (by decide)
theorem sW{b:List Bool}(h:Sep a b):¬(aP b).cps.toList<(aP a).cps.toList:=fun q=>List.lt_asymm q (qt h)
theorem Zg{b:Bool}(h:l[i]?=J b):(aP l).cps.toList[i]?=J (mx b):=by rw[iC,eL,h];rfl
theorem Zc(b:Bool):PySem.intText? (aP [b])=J (b.toNat:Int):=by cases b<;>decide+kernel
theorem ve(n:Nat):cS.Int.intBits ((n:Nat):Int)=aE n:=by
 unfold cS.Int.intBits aE
 by_cases h:n=0
 .subst h;rfl
 ·have:(((n:Nat):Int) == 0)=aF:=by simpa using h
  rw[this,if_neg (by decide),if_neg h]
  simp
theorem Zf(h:(aP l).cps[i]?=J c):V.str ⟨#[c]⟩=V.str (aP [l.getD i aF]):=by
 have h':(aP l).cps.toList[i]?=J c:=by simpa using h
 rw[iC,eL]at h'
 rw[dN]
 cases e:l[i]? with
 |none=>rw[e]at h';cases h'
 |some b =>
  rw[e]at h'
  have:mx b=c:=e8 h'
  rw[<-this];rfl
end ea
end
section
namespace c0
open PySem PySem.Spec PyProof.Rows
section
variable {X:bS}
noncomputable def eb:=dQ.or (Uw (X:=X)) XH
theorem gj:dQ X (j2 .Sub) (mS fun i j =>.int (i-j)):=Ur
noncomputable def k0:=dQ.or (Ut (X:=X)) XG
noncomputable def jm:=dQ.or (US (X:=X)) Yr
noncomputable def bH:=oc.or (oc.or (TV (X:=X)) UD) UE
noncomputable def qW:=m8.or (Th (X:=X)) Uj
theorem jw.or{it:cO}{iO Rh:dU}(h:jw X eP it iO)(h':jw X eP it Rh):jw X eP it (fun U H R=>iO U H R\/Rh U H R):=fun ar s U H R aa q=>q.elim (h ar s U H R aa) (h' ar s U H R aa)
theorem h0{l:cO}{dd:TE}(aD:cz X l dd):jw X eP l (fun U H R=>OF X.K dd U H R\/OG dd U H R):=(Tr aD).or (Uo aD)
end
def d1(K:bM)(mg:ae->Option au)(x:ae)(st:bD)(aK:List ae)(f:af)(fd:iP):Prop:=dG K x x st f fd/\Binds K fd aK []/\mg x=J (.ref f)
def bq(P:dA)(w:cZ)(K:bM)(mg:ae->Option au)(base:bA)(k:Nat)(x:ae)(aK:List ae)(sp:cD):Prop :=
 ∃f fd,de P w K mg base dv k f fd aK sp/\Binds K fd aK []/\p1 K (.ref f)=ah/\mg x=J (.ref f)
def hb(P:dA)(w:cZ)(K:bM)(mg:ae->Option au)(base:bA)(k:Nat)(C:af)(m:ae)(aK:List ae)(sp:cD):Prop :=
 ∃f fd,de P w K mg base dv k f fd aK sp/\Binds K fd aK []/\uQ K C m f
def j4(P:dA)(w:cZ)(K:bM)(mg:ae->Option au)(base:bA)(k:Nat)(x:ae)(C:af)(aK:List ae)(sp:cD):Prop :=
 ∃f fd,D9 K C f/\de P w K mg base dv k f fd aK sp/\Binds K fd aK []/\mg x=J (.ref C)
def gX(mg:ae->Option au)(x:ae)(v:V):Prop:=∃u,mg x=J u/\RelV v u
section
variable {X:bS} {k i5:Nat} {x m:ae} {C:af} {aK:List ae} {sp:cD} {e o:cO} {es:List cO} {t:h4} {cH:TE} {p aZ apos:Pos} {v:V}
theorem lV(h:gX X.mg x v)(aX:jr X x:=by rfl)(hd:(x == ("__debug__":ae))=aF:=by decide+kernel):cz X (.Name x p) (lK v):=by
 obtain⟨u,ai,aj⟩:=h
 exact Tv aX ai aj hd
theorem b6(h:bq X.prog X.w X.K X.mg X.base k x aK sp)(ax:gB i5 X.A)(aJ:iQ X (e::es) t)(hk:k<=i5:=by decide)(aX:jr X x:=by rfl)(mF:(x == ("__debug__":ae))=aF:=by decide+kernel)
  (he:ek (e::es) X.env=(aF,eval e X.env)::ek es X.env:=by rfl) (gx:(backTo aZ (ek es X.env)).any (·.1)=aF:=by rfl):cz X (.Call (.Name x p) (e::es) [] aZ) (I7 sp [] jd t):=by
 obtain⟨f,fd,F,ag,iL,hm⟩:=h
 exact Tw F (ax.mono hk) aX hm iL ag .nil yW aJ mF he gx
theorem xw{pl:Sem Bool}(h:hb X.prog X.w X.K X.mg X.base k C m aK sp)(c:fY X.K C)(ax:gB i5 X.A)(he:cz X o cH)(aJ:iQ X (e::es) t)(hk:k<=i5:=by decide)
  (qP:ek (e::es) X.env=(aF,eval e X.env)::ek es X.env:=by rfl) (gx:(backTo aZ (ek es X.env)).any (·.1)=aF:=by rfl)
  (aM:eval (.Call (.Attribute o m apos) (e::es) [] aZ) X.env=(do
   let k2 <-eval o X.env
   standAt apos.atName
   let (f,first) <-holding [k2] (getMethod k2 m pl)
   callWith aZ f first (backTo aZ (ek (e::es) X.env)) (backToKw aZ (wQ [] X.env))):=by rfl) :
  cz X (.Call (.Attribute o m apos) (e::es) [] aZ) (Dd C m sp [] jd cH t):=by
 obtain⟨f,fd,F,ag,hm⟩:=h
 exact Tt he c hm F (ax.mono hk) ag .nil yW aJ qP gx aM
theorem jA{pl:Sem Bool}(h:hb X.prog X.w X.K X.mg X.base k C m aK sp)(c:fY X.K C)(ax:gB i5 X.A)(he:cz X o cH)(hk:k<=i5:=by decide)
  (aM:eval (.Call (.Attribute o m apos) [] [] aZ) X.env=(do
   let k2 <-eval o X.env
   standAt apos.atName
   let (f,first) <-holding [k2] (getMethod k2 m pl)
   callWith aZ f first (backTo aZ (ek [] X.env)) (backToKw aZ (wQ [] X.env))):=by rfl) :
  cz X (.Call (.Attribute o m apos) [] [] aZ) (Dd C m sp [] jd cH De):=by
 obtain⟨f,fd,F,ag,hm⟩:=h
 exact Zo he c hm F (ax.mono hk) ag .nil yW aM
theorem qk(h:j4 X.prog X.w X.K X.mg X.base k x C aK sp)(ax:gB i5 X.A)(aJ:iQ X (e::es) t)(hk:k+1<=i5:=by decide)(aX:jr X x:=by rfl)(mF:(x == ("__debug__":ae))=aF:=by decide+kernel)
  (he:ek (e::es) X.env=(aF,eval e X.env)::ek es X.env:=by rfl) (gx:(backTo aZ (ek es X.env)).any (·.1)=aF:=by rfl):cz X (.Call (.Name x p) (e::es) [] aZ) (Q4 C sp [] jd t):=by
 obtain⟨f,fd,M,F,ag,hm⟩:=h
 exact Tu M F (ax.mono hk) aX hm ag .nil yW aJ mF he gx
end
theorem d1.ok{st:bD}{f:af}{sp:cD}(F:d1 K mg x st aK f fd)(S:cc N aK (bR st))(len:∀vs H Q E,sp vs H Q E->vs.length=aK.length)
  (oG:∀(bx:au)(A:dF)(outer:List Env)(s:aO)(H:aq)(vs:List V)(Q:bJ)(E:cN),gB k (A.deeper (envOfC x (bR st) s.heap.objs.size f bx))->sp vs H Q E->
   ∃t,jx (pL dv P w K mg base N x (bR st) f bx A outer s H E).r8 (ky st) t/\t {nx:=fun _ H'=>kt H H' (Q .aT),rt:=fun v H'=>kt H H' (Q v)} (start N vs) H):bq P w K mg base (k+1) x aK sp :=
 ⟨f,fd,F.1.O8 S len oG,F.2.1,F.1.iL,F.2.2⟩
section
variable {X:bS} {e:cO} {aZ:Pos}
theorem c2:dQ X (gW .Eq) qS:=UX
theorem qR:dQ X (gW .NotEq) Ph:=UR
theorem wj:dQ X (gW .LtE) (mS fun i j =>.aQ (decide (i<=j))):=UT
theorem jG:dQ X (gW .Gt) (mS fun i j =>.aQ (decide (j<i))):=UU
theorem CQ:dQ X (gW .GtE) (mS fun i j =>.aQ (decide (j<=i))):=UW
theorem jL.or'{f:au}{r eD:List V->aq->bJ->Prop}(h:jL X f r)(h':jL X f eD):jL X f (fun xs H Q=>r xs H Q\/eD xs H Q):=fun ar s U H xs us Q aa d0 q=>q.elim (h ar s U H xs us Q aa d0) (h' ar s U H xs us Q aa d0)
noncomputable def qc:=jL.or' (YY (X:=X)) Ws
noncomputable def iU:=jL.or' (Xr (X:=X)) WX
theorem F1{cH:TE}(aJ:cz X e cH):cz X (.UnaryOp .Not e aZ) (fun U H Q=>cH U H fun x H'=>∃k,z8 X.K x H' k/\Q (.aQ (!k)) H'):=by
 intro ar s U H Q aa h
 refine UnaryOp_ (dm (aJ ar s U H _ aa h) fun v s1 b4=>?_)
 obtain⟨x,H1,bC,cv,k,wH,cu⟩:=b4
 exact not_of (dm (MD ar s1 U H1 x v (fun b H'=>b=k/\Q (.aQ (!k)) H') bC cv ⟨k,wH,I,cu⟩) fun b s2 ⟨av,cJ,e,bX⟩=>by subst e;exact⟨.aQ (!b),av,cJ,I,bX⟩)
end
end c0
namespace c0
open PySem
theorem nh:kp "int"=J (.type "int"):=by decide+kernel
theorem xJ:kp "str"=J (.type "str"):=by decide+kernel
theorem Bi:kp "bool"=J (.type "bool"):=by decide+kernel
theorem ql:kp "tuple"=J (.type "tuple"):=by decide+kernel
theorem xF:kp "list"=J (.type "list"):=by decide+kernel
theorem dq:kp "len"=J (.builtin "len"):=by decide+kernel
theorem iT:kp "isinstance"=J (.builtin "isinstance"):=by decide+kernel
theorem Bn:kp "min"=J (.builtin "min"):=by decide+kernel
theorem UN:kp "abs"=J (.builtin "abs"):=by decide+kernel
theorem YZ:kp "sorted"=J (.builtin "sorted"):=by decide+kernel
theorem vi:kp "all"=J (.builtin "all"):=by decide+kernel
end c0
end
variable {t:Bool} {g:c0.gC} {d:Nat} {el:c0.kr} {cI:c0.TE} {eV:c0.St} {dO:c0.e1}
section
namespace c0
open PySem PySem.Spec PyProof.Rows ea
theorem fN{u:df}:upd (upd H a o) a u=upd H a u:=by
 funext b
 unfold upd
 split<;>rfl
theorem FR{Q:bJ}{D:af}(n:Nat)(xs hz:Nat->V)(S:St->Prop)(aW:n<=cj)(bg:S eV)
  (yf:∀i H,i<n->el.go i H) (HZ:∀H,el.stop n H) (aU:∀i H x H',i<n->el.p0 i H x H'->H'=H/\x=xs i)
  (aM:∀i bL H1,i<n->S bL->∀R:St->V->aq->Prop,(∀bu,S bu->R bu (hz i) H1)->g (xs i) bL H1 fun bu av=>cI bu av fun y bQ=>R bu y bQ)
  (bj:Q (.ref D) (upd H D (.lst ((List.range n).map hz)))) :
  lO el g pY cI Q eV H D:=by
 refine⟨fun i m bL av=>i<=n/\m=n-i/\S bL/\av=upd H D (.lst ((List.range i).map hz)),⟨n,UF _,I,bg,I⟩,?_⟩
 rintro i m bL av ⟨ai,rfl,aj,rfl⟩
 rcases g4 i n with z|z
 ·refine .inr ⟨yf i _ z,fun x bQ y=>?_⟩
  obtain⟨rfl,rfl⟩:=aU i _ x bQ z y
  refine aM i bL _ z aj (fun bu y d9=>∃xs bY,d9 D=J (.lst xs)/\xs.length<cj/\bY<n-i/\(i+1<=n/\bY=n-(i+1)/\S bu/\upd d9 D (.lst (xs++[y]))=upd H D (.lst ((List.range (i+1)).map hz)))) fun bu fS=>?_
  refine⟨_,n-(i+1),aG,?_,by omega,by omega,rfl,fS,?_⟩
  .rw[cw,kQ];omega
  .rw[fN,List.range_succ,fo];rfl
 ·have e:i=n:=by omega
  subst e
  exact .inl ⟨HZ _,bj⟩
theorem XZ{c:Int}{D:Ends}(Pv:Nat->St->aq->Prop)(bg:Pv 0 U H)
  (hs:∀i U H,i<n->Pv i U H->g (.int (lo+i*c)) U H fun bu av=>dO {D with nx:=Pv (i+1),ct:=Pv (i+1),bk:=D.nx} bu av) (hd:∀U H,Pv n U H->D.nx U H) :
  ∃W:Nat->Nat->St->aq->Prop,(∃m,W 0 m U H)/\∀i m U H,W i m U H->
   ((w5 lo c n).stop i H/\D.nx U H)\/((w5 lo c n).go i H/\∃N:St->aq->Prop,(∀cg H',N cg H'->∃bY,bY<m/\W (i+1) bY cg H')/\∀x H',(w5 lo c n).p0 i H x H'->g x U H' fun bu av=>dO {D with nx:=N,ct:=N,bk:=D.nx} bu av):=by
 refine⟨fun i m U H=>i<=n/\m=n-i/\Pv i U H,⟨n,UF _,I,bg⟩,?_⟩
 rintro i m U H ⟨ai,rfl,aj⟩
 rcases g4 i n with z|z
 ·refine .inr ⟨z,Pv (i+1),fun cg H' q=>⟨n-(i+1),by omega,by omega,rfl,q⟩,?_⟩
  rintro x H' ⟨rfl,rfl⟩
  exact hs i U _ z aj
 ·have e:i=n:=by omega
  subst e
  exact .inl ⟨b8 _,hd U H aj⟩
end c0
namespace c0
open PySem
theorem AN(h:H a=J o):upd H a o=H:=by
 funext b
 unfold upd
 split
 .rename_i e;rw[e,h]
 .rfl
end c0
namespace ea
theorem SS(n k:Nat):n/2^k=2*(n/2^(k+1))+(n.testBit k).toNat:=by
 rw[Nat.testBit_eq_decide_div_mod_eq,Nat.pow_succ,<-Nat.div_div_eq_div_mul]
 have:n/2^k%2<2:=Nat.mod_lt _ (by decide)
 by_cases q:n/2^k%2=1
 .simp[q];omega
 ·have:n/2^k%2=0:=by omega
  simp[this];omega
theorem Y0(h:j<d):(dj n d)[j]?=J (n.testBit (d-1-j)):=by
 induction d generalizing j with
 |zero=>omega
 | succ d bT =>
  cases j with
  |zero=>simp[dj]
  |succ j =>
   rw[dj,List.getElem?_cons_succ,bT (by omega)]
   congr 2
   omega
theorem Yn(h:((l.drop i).take d).map (xor t)=dj n d)(b2:j<d)(aD:i+d<=l.length):∃b,l[i+j]?=J b/\xor t b=n.testBit (d-1-j):=by
 have e:=Y0 (n:=n) b2
 rw[<-h,eL,List.getElem?_take_of_lt b2,List.getElem?_drop]at e
 cases q:l[i+j]? with
 |none=>rw[q]at e;cases e
 |some b =>
  rw[q]at e
  exact⟨b,I,e8 e⟩
theorem xy(l:List Bool):l.map (xor aF)=l:=by
 rw[show(xor aF)=(id:Bool->Bool)from funext fun b=>by cases b<;>rfl,List.map_id]
end ea
namespace c0
open PySem
theorem Zv(K:bM)(t:au):uq K t t=J ah:=by
 unfold uq;rw[beq_self_eq_true,if_pos rfl]
end c0
namespace ea
theorem Ko{a:List Bool}(h:a.map (!·) <+: L):a <+: L.map (!·):=by
 obtain⟨r,e⟩:=h
 refine⟨r.map (!·),?_⟩
 rw[<-e,fo,gE]
 congr 1
 conv=>lhs;rw[<-List.map_id a]
 exact oh fun b _=>(Bool.not_not b).symm
theorem KD(l:List Bool)(t:Bool):(l.map (xor t)).map (!·)=l.map (xor (!t)):=by
 rw[gE]
 exact oh fun b _=>by cases t<;>cases b<;>rfl
theorem KU{n:Int}(ai : -(2^255)<n)(aj:n<2^255-1):(gP n).length<=270:=by
 have c:∀m:Nat,m+1<2^255->(cnt m).length<=269:=fun m h=>by
  have:=AM h
  have:=jh h
  omega
 unfold gP
 split
 .rw[d6,cw];have:=c (-1-n).toNat (by omega);omega
 .rw[d6];have:=c n.toNat (by omega);omega
end ea
end
section
namespace c0
open PySem PySem.Spec PyProof.Rows
def JD(e:af)(o:Option af)(c:Option au)(d:Option af):Prop:=(o=d/\(d=aw\/c=J .none))\/(d=J e/\o=aw/\c=J .none)
def ps(h:bA)(e:af)(cls:au)(d:Option af)(T:af)(fi:au):Prop :=
 ∃g7 vs k1 jK,h.get? e=J g7/\g7.cls=cls/\JD e g7.dict vs[2]? d/\g7.data=.fields vs/\vs[1]?=J (.ref T)/\T≠e/\h.get? T=J k1/\k1.data=.fields jK/\jK[3]?=J fi/\True
structure Ej(fs:List af)(e:af)(T:Option af)(h h':bA):Prop where
 keep:∀b o,b≠e->J b≠T->b∉fs->h.get? b=J o->h'.get? b=J o
 slot:∀b o,b≠e->J b≠T->h.get? b=J o->∃dp,h'.get? b=J {o with slots:=dp}
section
variable {M:Model} {A:dF} {E:au->aO->Prop} {s:aO} {base:bA} {env:Env} {outer:List Env} {L e T:af} {g7:bU} {vs:Array au} {head:au} {abH:Bool} {Q:Unit->aO->Prop} {cls:au} {d:Option af} {fi:au}
theorem V1(o:bU)(f):(o.mapFields f).dict=o.dict:=by
 obtain⟨c,d,ZV,dp⟩:=o;cases ZV<;>rfl
theorem M6(tu:A.frames=J (env::outer))(aD:s.heap.FunFrames base (env::outer))(az:env.frame=J L)(he:s.heap.get? e=J g7)(hd:g7.data=.fields vs)(gy:1<vs.size)(rP:JD e g7.dict vs[2]? d)
  (h:∀h' eR,ps h' e g7.cls d eR (rawInt L)->s.heap.get? eR=aw->h'.FunFrames base (env::outer)->Ej ((env::outer).filterMap (·.frame)) e aw s.heap h'->Q () {s with heap:=h'}) :
  bN M A (do let a <-frameOf env;let pl <-entryPlaceOf L abH;let b <-EntryCells.newEntry head a .none (rawInt L) .none pl;setField (.ref e) 1 b) Q E s:=by
 have ab1:e∉(env::outer).filterMap (·.frame):=fun hm=>by
  obtain⟨_,o,aH,jV⟩:=aD.mem hm
  rw[he]at aH;injection aH with aH;subst aH;exact jV vs hd
 refine bF (wpAny_frameOf_fun tu aD az fun iu yt=>?_)
 refine bF (wpAny_entryPlaceOf fun pl gx=>?_)
 unfold EntryCells.newEntry newFields
 refine bF (wpAny_newObj_type ?_ (gx.sizeOk5 _ _ _ _ _))
 have NY:iu.get? e=J g7:=(yt.2.1 e ab1).trans he
 generalize Ol:({cls :=.type "traceback",dict:=aw,data :=.fields ([head,.ref L,.none,rawInt L,.none]++(if pl.isEmpty then List.replicate 6 au.none else pl)).toArray}:bU)=k1
 have NZ:=fV (h:=iu) k1 NY
 refine uw NZ hd gy ?_
 have l3:iu.objs.size≠e:=Nat.ne_of_gt (eS NY)
 have pS:=bU.data_mapFields hd (·.setIfInBounds 1 (au.ref iu.objs.size))
 have abZ:=bA.get?_update_self (bU.mapFields (·.setIfInBounds 1 (au.ref iu.objs.size))) NZ (bU.isFreed_of_fields pS)
 have x8:((iu.push k1).update e (bU.mapFields (·.setIfInBounds 1 (au.ref iu.objs.size)))).get? iu.objs.size=J k1 :=
  (bA.get?_update_other _ _ (eF l3)).trans (hH iu (by rw[<-Ol];rfl))
 have keep:∀b o,b≠e->iu.get? b=J o->((iu.push k1).update e (bU.mapFields (·.setIfInBounds 1 (au.ref iu.objs.size)))).get? b=J o:=fun b o mD ag=>by
  rw[bA.get?_update_other _ _ (eF mD)];exact fV _ ag
 have tM:∀b o,s.heap.get? b=J o->(∀vs,o.data≠.fields vs)->b≠e:=fun b o ag jV q=>by
  rw[q,he]at ag;injection ag with ag;subst ag;exact jV vs hd
 refine h _ iu.objs.size ⟨_,_,k1,_,abZ,bU.cls_mapFields _ _,(by rw[V1,Array.getElem?_setIfInBounds_ne (by decide)];exact rP),pS,by simp[gy],l3,x8,by rw[<-Ol],?_,trivial⟩ ?_ (aD.of_keeps fun b o ag jV=>?_) ⟨fun b o mD _ tq ag=>keep b o mD ((yt.2.1 b tq).trans ag),fun b o mD _ ag=>?_⟩
 .first|(simp;done)|(rcases gx with rfl|⟨_,_,_,_,_,_,_,rfl⟩<;>simp)
 .exact bA.get?_none_of_le (by rw[yt.1];exact b8 _)
 ·obtain⟨dp,hs⟩:=yt.2.2 b o ag
  exact⟨_,keep b _ (tM b o ag jV) hs,I⟩
 ·obtain⟨dp,hs⟩:=yt.2.2 b o ag
  exact⟨dp,keep b _ mD hs⟩
theorem adD(aD:s.heap.FunFrames base outer)(aM:ps s.heap e cls d T fi)
  (h:∀h',ps h' e cls d T .none->h'.FunFrames base outer->(∀b o,b≠T->s.heap.get? b=J o->h'.get? b=J o)->Q () {s with heap:=h'}):bN M A (setFlight (.ref e) aw) Q E s:=by
 obtain⟨g7,vs,k1,jK,he,hc,mG,hd,ai,l3,bZ,il,bE,rP⟩:=aM
 have ys:3<jK.size:=(Array.getElem?_eq_some_iff.mp bE).1
 unfold setFlight
 refine bF (jb he hd ai ?_)
 rw[if_pos (show(au.ref T != au.none)=ah from by simp)]
 have other:∀b,b≠T->(s.heap.update T (bU.mapFields (·.setIfInBounds 3 ((aw:Option af).elim au.none fun f=>rawInt f)))).get? b=s.heap.get? b:=fun b ag=>bA.get?_update_other _ _ (eF ag)
 have tM:∀b o,s.heap.get? b=J o->(∀vs,o.data≠.fields vs)->b≠T:=fun b o ag jV q=>by
  rw[q,bZ]at ag;injection ag with ag;subst ag;exact jV jK il
 refine uw bZ il ys (h _ ⟨g7,vs,_,_,(other e (eF l3)).trans he,hc,mG,hd,ai,l3,bA.get?_update_self _ bZ (bU.isFreed_of_fields (bU.data_mapFields il _)),bU.data_mapFields il _,by simp[ys],rP⟩
  (aD.of_keeps fun b o ag jV=>⟨o,(other b (tM b o ag jV)).trans ag,rfl⟩) fun b o ag q=>(other b ag).trans q)
theorem aeD(tu:A.frames=J (env::outer))(aD:s.heap.FunFrames base (env::outer))(az:env.frame=J L)(aM:ps s.heap e cls d T .none)
  (h:∀h' eR,ps h' e cls d eR (rawInt L)->s.heap.get? eR=aw->h'.FunFrames base (env::outer)->Ej ((env::outer).filterMap (·.frame)) e (J T) s.heap h'->Q () {s with heap:=h'}):bN M A (noteFrame (.ref e) env) Q E s:=by
 obtain⟨g7,vs,k1,jK,he,hc,mG,hd,ai,l3,bZ,il,bE,rP⟩:=aM
 unfold noteFrame
 simp only[az]
 refine bF (jb he hd ai ?_)
 rw[if_pos (show(au.ref T != au.none)=ah from by simp)]
 refine bF (jb bZ il bE ?_)
 rw[if_neg (show ¬((au.none == rawInt L)=ah)from by simp[rawInt])]
 refine bF (uw bZ il (Array.getElem?_eq_some_iff.mp bE).1 ?_)
 have other:∀b,b≠T->(s.heap.update T (bU.mapFields (·.setIfInBounds 3 au.none))).get? b=s.heap.get? b:=fun b ag=>bA.get?_update_other _ _ (eF ag)
 have tM:∀b o,s.heap.get? b=J o->(∀vs,o.data≠.fields vs)->b≠T:=fun b o ag jV q=>by
  rw[q,bZ]at ag;injection ag with ag;subst ag;exact jV jK il
 have back:∀b,(s.heap.update T (bU.mapFields (·.setIfInBounds 3 au.none))).get? b=aw->s.heap.get? b=aw:=fun b ag=>by
  by_cases z:b=T
  ·subst z
   rw[bA.get?_update_self _ bZ (bU.isFreed_of_fields (bU.data_mapFields il _))]at ag;cases ag
  .rw[other b z]at ag;exact ag
 subst hc
 refine M6 (s:={s with heap:=s.heap.update T (bU.mapFields (·.setIfInBounds 3 au.none))}) tu (aD.of_keeps fun b o ag jV=>⟨o,(other b (tM b o ag jV)).trans ag,I⟩) az ((other e (eF l3)).trans he) hd (Array.getElem?_eq_some_iff.mp ai).1 mG fun h' eR k8 fz zl q2=>?_
 exact h h' eR k8 (back _ fz) zl ⟨fun b o ai aj bE cQ=>q2.keep b o ai (by simp) bE ((other b (fun z=>aj (by rw[z]))).trans cQ),fun b o ai aj cQ=>q2.slot b o ai (by simp) ((other b (fun z=>aj (by rw[z]))).trans cQ)⟩
end
noncomputable def DA(P:dA)(w:cZ):mZ:=fun outer H s E e bl=>∃a C d H' T,e=.ref a/\bl.os=s.os/\AllBare bl.gens/\gR (kf outer) [] H H' s.heap bl.heap/\f3 P w H' bl.heap/\
 ps bl.heap a (.ref C) d T .none/\H' a=aw/\H' T=aw/\s.heap.get? a=aw/\s.heap.get? T=aw/\E (.ref C) d H'
theorem f3.there(ok:f3 P w H h)(e:H a=J o):∃u,h.get? a=J u:=by
 have x:=ok a o e
 cases o with
 |lst xs=>obtain⟨_,_,_,_,e⟩:=x;exact⟨_,e⟩
 |tup xs=>obtain⟨_,_,_,p⟩:=x;obtain⟨o,e,_⟩:=p;exact⟨_,e⟩
 |my f9=>obtain⟨_,_,_,_,o,_,_,e,_⟩:=x;exact⟨_,e⟩
 |pM f9=>exact(show False from x).elim
 |set S n=>obtain⟨o,_,_,_,e,_⟩:=x;exact⟨_,e⟩
 |ins C ak fs=>obtain⟨_,_,_,e,_⟩:=x;exact⟨_,e⟩
 |own y=>exact x
 |hE fs=>obtain⟨_,⟨_,_,_,e,_⟩,_⟩:=x;exact⟨_,e⟩
 |yZ lo ay=>obtain⟨_,_,_,e⟩:=x;exact⟨_,e⟩
 |ji ec u=>obtain⟨e,_⟩:=x;exact⟨_,e⟩
 |q0 aK=>exact⟨_,x⟩
 |met f y=>exact⟨_,x⟩
 |ext uo=>exact x.2.1
theorem f3.none(ok:f3 P w H h)(e:h.get? a=aw):H a=aw:=by
 cases q:H a with
 |none=>rfl
 |some o=>obtain⟨u,z⟩:=ok.there q;rw[e]at z;cases z
end c0
end
section
namespace c0
open PySem PySem.W PySem.Spec PyProof.Rows
section
variable {X:bS}
theorem F2:dQ X (j2 .Mult) (qT (fun i j=>cS.Int.intBits i<=2^20/\cS.Int.intBits j<=2^20) fun i j =>.int (i*j)):=sd fun _ _ _ _ _ _ _ hc q=>mul_int q (IntMulOk.of_bits hc.1 hc.2)
theorem wm(ax:gB k A):A.units+64<cLine:=by have:=ax.un;omega
end
end c0
end
section
namespace c0
open PySem PySem.W PySem.Spec PyProof.Rows PySem.Builtin.ObjectAttr
end c0
end
variable {gb:c0.gQ}
section
namespace c0
open PySem PySem.W PySem.Spec PyProof.Rows
noncomputable abbrev aiR:=ae->St->aq->bJ->Prop
section
variable {X:bS}
def Dy(i j:Int):Prop:=0<j/\(cS.Int.intBits j<=9000\/cS.Int.intBits i<=cS.Int.intBits j+4000)
theorem Lh{j:Int}(h:j≠0):j.natAbs.log2+1=cS.Int.intBits j:=by
 unfold cS.Int.intBits
 rw[if_neg (by simpa using h)]
theorem Dy.ok{i j:Int}(h:Dy i j):cS.divisionGoesByPylong i j=aF:=by
 unfold cS.divisionGoesByPylong
 have b2:=Lh (Int.ne_of_gt h.1)
 have aj:=h.2
 have hK:(j == 0)=aF:=by have:=h.1;simp;omega
 simp only[Bool.and_eq_false_iff,decide_eq_false_iff_not,hK,if_neg (show ¬(aF=ah)from by decide)]
 rcases aj with aj|aj
 .left;omega
 ·right
  by_cases ay:i=0
  .subst ay;rw[if_pos (by decide)];omega
  ·have oL:=Lh ay
   rw[if_neg (by simpa using ay)]
   omega
theorem u6:dQ X (j2 .FloorDiv) (qT Dy fun i j =>.int (i/j)):=sd fun i j _ _ _ _ _ hc q=>by
 have e:i.fdiv j=i/j:=Int.fdiv_eq_ediv_of_nonneg _ (Int.le_of_lt hc.1)
 exact floordiv_int (by have:=hc.1;omega) (by rw[e];exact q) (.inl hc.ok)
end
noncomputable def sE(K:bM)(a:af)(xs:List V):kr:=⟨fun i H=>cK K H a xs/\i<xs.length,fun i H x H'=>H'=H/\xs[xs.length-1-i]?=J x,fun i H=>cK K H a xs/\xs.length<=i⟩
theorem Y6(a it:af)(xs:List V):Turn P w K eP (sE K a xs) [it] it (fun i h=>i<=xs.length/\h.IsRevIter it a ((xs.length:Int)-1-i)) where
 mem:=by simp
 obj:=fun i h st b ag=>by
  have e:b=it:=by simpa using ag
  subst e
  obtain⟨_,o,e,c,d⟩:=st
  exact⟨o,e,fun v z=>by rw[d]at z;cases z⟩
 keep:=fun i h h' st k=>⟨st.1,st.2.at fun o e=>k it (by simp) o e⟩
 item:=by
  intro X cG hw gw hc i ar s U H E aa az st aX
  subst cG hw gw
  obtain⟨bj,ay⟩:=aX
  obtain⟨bt,d0,p,bz⟩:=aa.list bj
  have ao:xs[xs.length-1-i]?=J (xs[xs.length-1-i]'(by omega)):=cp _
  obtain⟨u,cC,e4⟩:=d0.get ao
  obtain⟨f0,f1,f2,hL,f4,h8⟩:=az it (by simp)
  have eI:((xs.length:Int)-1-i)=((xs.length-1-i:Nat):Int):=by omega
  have ix:=st.2
  rw[eI]at ix
  refine wpAny_pyNext_rev_item ix p.isList (x:=u) (by simpa using cC) fun h' h1 nS=>?_
  have bC:Inv X ar U H {s with heap:=h'}:=aa.turned (t':=s.toks) (fun b o ag e=>(nS.2 b ag).trans e) f0 f1 hL f4 h8
  have hK:(((xs.length-1-i:Nat):Int)-1)=((xs.length:Int)-1-((i+1:Nat):Int)):=by omega
  rw[hK]at h1
  obtain⟨o,e,c,d⟩:=id h1
  exact⟨u,I,xK (s:={s with heap:=h'}) e c d (by decide) ⟨_,H,bC,e4,⟨I,ao⟩,⟨by omega,h1⟩,fun b ag=>(az b ag).1⟩⟩
 done:=by
  intro X cG hw gw hc i ar s U H E aa az st aX
  subst cG hw gw
  obtain⟨bj,ao⟩:=aX
  obtain⟨f0,f1,f2,hL,f4,h8⟩:=az it (by simp)
  have eI:((xs.length:Int)-1-i) = -1:=by have:=st.1;omega
  have ix:=st.2
  rw[eI]at ix
  exact wpAny_pyNext_rev_end (aa.ok.hd hc) ix fun h' eA=>⟨I,aa.turned (t':=s.toks) (fun b o ag e=>eA b o ag e) f0 f1 hL f4 h8⟩
 self:=fun _ _ _ _ _ st h=>wpAny_pyIter_revIter st.2 h
section
variable {X:bS} {eP:cO}
def adn(K:bM)(dd:TE):dU:=fun U H R=>dd U H fun x H1=>∃a xs,x=.ref a/\cK K H1 a xs/\R (sE K a xs) H1
theorem Up{l:cO}{dd:TE}{p:Pos}(aX:jr X "reversed")(hm:X.mg "reversed"=aw)(aD:cz X l dd)(hs:ek [l] X.env=[(aF,eval l X.env)]:=by rfl):jw X eP (.Call (.Name "reversed" p) [l] [] aZ) (adn X.K dd):=by
 intro ar s U H R aa h
 have aJ:iQ X [l] _:=al aD aB (hs:=hs.trans rfl)
 refine Call_ (ot aa aX hm boot_reversed (callWith_type1 (dm (aJ aZ ar s U H (fun vs H1=>∃x,vs=[x]/\∃a xs,x=.ref a/\cK X.K H1 a xs/\R (sE X.K a xs) H1) aa ?_) fun us s1 ⟨vs,H1,bC,cv,cu⟩=>?_) (by rw[hs];rfl) I))
 ·have h':dd U H fun x H1=>∃a xs,x=.ref a/\cK X.K H1 a xs/\R (sE X.K a xs) H1:=h
  show dd U H fun x H1=>∃y,[x]=[y]/\_
  exact cast (congrArg (dd U H) (funext fun x=>funext fun H1=>propext ⟨fun q=>⟨x,I,q⟩,fun⟨y,e,q⟩=>by cases e;exact q⟩)) h'
 ·obtain⟨x,rfl,a,xs,rfl,bj,q⟩:=cu
  obtain⟨u,rfl,e4⟩:=vals1 cv
  obtain rfl:u=au.ref a:=e4
  obtain⟨bt,d0,pl,bz⟩:=bC.list bj
  have cM:=d0.length
  refine call_reversed_list pl.isList ?_
  have cJ:Inv X ar U H1 {s1 with heap:=s1.heap.push (revObj a ((bt.toArray.size:Int)-1))}:=bC.kept (t':=s1.toks) fun b o e=>fV _ e
  have C8:(s1.heap.push (revObj a ((bt.toArray.size:Int)-1))).IsRevIter s1.heap.objs.size a ((xs.length:Int)-1-((0:Nat):Int)):=by
   have eM:((bt.toArray.size:Int)-1)=((xs.length:Int)-1-((0:Nat):Int)):=by rw[eo,<-cM];omega
   rw[eM]
   exact⟨_,hH _ I,I,I⟩
  refine wpAny_pyIter_revIter C8 ?_
  refine⟨_,[_],_,_,H1,I,cJ,Y6 a _ xs,⟨UF _,C8⟩,fun b ag=>?_,q⟩
  have e:=d5.mp ag
  subst e
  exact bC.pO (b8 _) (bC.aL.fresh (b8 _))
theorem T4{D:Ends}(Pv:Nat->St->aq->Prop)(bg:Pv 0 U H)(aD:∀i U H,i<=xs.length->Pv i U H->cK K H a xs)
  (hs:∀i x U H,i<xs.length->xs[xs.length-1-i]?=J x->Pv i U H->g x U H fun bu av=>dO {D with nx:=Pv (i+1),ct:=Pv (i+1),bk:=D.nx} bu av) (hd:∀U H,Pv xs.length U H->D.nx U H) :
  ∃W:Nat->Nat->St->aq->Prop,(∃m,W 0 m U H)/\∀i m U H,W i m U H->
   ((sE K a xs).stop i H/\D.nx U H)\/((sE K a xs).go i H/\∃N:St->aq->Prop,(∀cg H',N cg H'->∃bY,bY<m/\W (i+1) bY cg H')/\∀x H',(sE K a xs).p0 i H x H'->g x U H' fun bu av=>dO {D with nx:=N,ct:=N,bk:=D.nx} bu av):=by
 refine⟨fun i m U H=>i<=xs.length/\m=xs.length-i/\Pv i U H,⟨xs.length,UF _,I,bg⟩,?_⟩
 rintro i m U H ⟨ai,rfl,aj⟩
 rcases g4 i xs.length with z|z
 ·refine .inr ⟨⟨aD i U H ai aj,z⟩,Pv (i+1),fun cg H' q=>⟨xs.length-(i+1),by omega,by omega,rfl,q⟩,?_⟩
  rintro x H' ⟨rfl,ao⟩
  exact hs i x U _ z ao aj
 ·have e:i=xs.length:=by omega
  subst e
  exact .inl ⟨⟨aD _ U H (b8 _) aj,b8 _⟩,hd U H aj⟩
theorem u7(hc:X.calm=ah):jL X (.builtin "all") (fun xs H Q=>∃a,∃bs:List Bool,xs=[.ref a]/\cK X.K H a (bs.map .aQ)/\Q (.aQ (bs.all id)) H):=by
 intro ar s U H xs us Q aa r h
 obtain⟨a,bs,rfl,bj,q⟩:=h
 obtain⟨u,rfl,e4⟩:=vals1 r
 obtain rfl:u=au.ref a:=e4
 obtain⟨bt,d0,pl,bz⟩:=aa.list bj
 have cM:=d0.length
 have h9:a<s.heap.objs.size:=by obtain⟨o,aH,_⟩:=pl.isList;exact eS aH
 refine call_all_walkS (wpAny_pyIter_list pl.isList ?_)
 refine⟨s.heap.objs.size,[s.heap.objs.size,a],[s.heap.objs.size],_,bt.toArray.size,_,_,fun i=>bs.getD i aF,I,(Walks.list (A:=X.A.in1) (aa.ok.hd hc) s.heap.objs.size a (g0 h9) bt.toArray).toS,⟨⟨_,hH _ I,I,I⟩,?_⟩,?_,fun bl kY=>?_⟩
 .obtain⟨o,aH,r⟩:=pl.isList;exact⟨o,fV _ aH,r⟩
 ·intro i v s2 aiQ rb br bX
  have qQ:bt[i]?=J v:=by simpa using br
  have ay:i<bs.length:=by
   have:=(g5.mp qQ).1
   rw[cw]at cM;omega
  have ag:(bs.map V.aQ)[i]?=J (.aQ (bs.getD i aF)):=by rw[eL,cp ay,dN,cp ay];rfl
  obtain⟨u,cC,e4⟩:=d0.get ag
  rw[qQ]at cC;cases cC
  obtain rfl:v=au.bool (bs.getD i aF):=e4
  exact zp bX
 ·have fI:(List.range bt.toArray.size).all (fun i=>bs.getD i aF)=bs.all id:=by
   rw[eo,<-cM,cw]
   apply Bool.eq_iff_iff.mpr
   rw[e9,e9]
   constructor
   ·intro h x ao
    obtain⟨i,ay,rfl⟩:=List.mem_iff_getElem.mp ao
    have:=h i (List.mem_range.mpr ay)
    rw[dN,cp ay]at this
    exact this
   ·intro h i ay
    have tw:=List.mem_range.mp ay
    rw[dN,cp tw]
    exact h _ (List.getElem_mem tw)
  rw[fI]
  refine⟨.aQ _,H,?_,I,q⟩
  have cJ:Inv X ar U H {s with heap:=s.heap.push {cls :=.type "list_iterator",data :=.fields #[.ref a,.int 0 0]}}:=aa.kept (t':=s.toks) fun b o e=>fV _ e
  obtain⟨f0,f1,f2,hL,f4,h8⟩:=aa.pO (b:=s.heap.objs.size) (b8 _) (aa.aL.fresh (b8 _))
  have e:bl={s with heap:=bl.heap,toks:=bl.toks}:=by
   obtain⟨ai,g1,hj,t1,yQ⟩:=bl
   have:=kY.gens;have:=kY.drawn;have:=kY.os
   dsimp only at *
   subst_vars;rfl
  have jM:=cJ.turned (t':=bl.toks) (it:=s.heap.objs.size) (h':=bl.heap) (fun b o ag e=>kY.heap b o (by simpa using ag) e) f0 f1 hL f4 h8
  rw[e]
  exact jM
end
theorem Ly(l:List V):kx l (J 1) aw=l.drop 1:=by
 unfold kx cA.cV
 cases l with
 |nil=>rfl
 |cons a r=>simp
theorem YW(l:List V):kx l aw (J (-1))=l.take (l.length-1):=by
 unfold kx cA.cV
 cases l with
 |nil=>rfl
 |cons a r =>
  simp only[show((-1:Int)<0)from by decide,if_true,List.drop_zero,Nat.sub_zero]
  congr 1
  simp only[d6]
  omega
theorem AU{Q:bJ}{D:af}(f:V->V)(S:St->Prop)(bz:xs.length<=cj)(bg:S eV)(dB:H D=aw)(aD:cK K H a xs)
  (aM:∀x,x∈xs->∀bL H1,S bL->ef H H1->∀R:St->V->aq->Prop,(∀bu,S bu->R bu (f x) H1)->g x bL H1 fun bu av=>cI bu av fun y bQ=>R bu y bQ)
  (bj:Q (.ref D) (upd H D (.lst (xs.map f)))) :
  lO (pv K a) g pY cI Q eV H D:=by
 refine⟨fun i m bL av=>i<=xs.length/\m=xs.length-i/\S bL/\av=upd H D (.lst ((xs.take i).map f)),⟨xs.length,UF _,I,bg,I⟩,?_⟩
 rintro i m bL av ⟨ai,rfl,aj,rfl⟩
 have fQ:=(dg (o :=.lst ((xs.take i).map f)) dB).seq aD
 rcases g4 i xs.length with z|z
 ·refine .inr ⟨⟨xs,xs[i],fQ,cp z⟩,?_⟩
  rintro x bQ ⟨rfl,ao⟩
  have ao:=ao xs fQ
  refine aM x (fE ao) bL _ aj (dg dB) (fun bu y d9=>∃aA bY,d9 D=J (.lst aA)/\aA.length<cj/\bY<xs.length-i/\(i+1<=xs.length/\bY=xs.length-(i+1)/\S bu/\upd d9 D (.lst (aA++[y]))=upd H D (.lst ((xs.take (i+1)).map f)))) fun bu fS=>?_
  refine⟨_,xs.length-(i+1),aG,?_,by omega,by omega,rfl,fS,?_⟩
  .rw[cw,ht];omega
  .rw[fN,jy,ao,fo];rfl
 ·have e:i=xs.length:=by omega
  subst e
  rw[List.take_length]
  rw[List.take_length]at fQ
  exact .inl ⟨⟨xs,fQ,b8 _⟩,bj⟩
theorem Xq{Q:bJ}{D:af}(keep:V->Bool)(f:V->V)(S:St->Prop)(bz:xs.length<=cj)(bg:S eV)(dB:H D=aw)(aD:cK K H a xs)
  (aM:∀x,x∈xs->∀bL H1,S bL->ef H H1->∀(R:St->V->aq->Prop)(R':St->aq->Prop),(∀bu,S bu->if keep x=ah then R bu (f x) H1 else R' bu H1)->g x bL H1 fun bu av=>gb bu av fun b bQ=>if b=ah then cI bu bQ fun y fZ=>R bu y fZ else R' bu bQ)
  (bj:Q (.ref D) (upd H D (.lst ((xs.filter keep).map f)))) :
  lO (pv K a) g gb cI Q eV H D:=by
 refine⟨fun i m bL av=>i<=xs.length/\m=xs.length-i/\S bL/\av=upd H D (.lst (((xs.take i).filter keep).map f)),⟨xs.length,UF _,I,bg,I⟩,?_⟩
 rintro i m bL av ⟨ai,rfl,aj,rfl⟩
 have fQ:=(dg (o :=.lst (((xs.take i).filter keep).map f)) dB).seq aD
 rcases g4 i xs.length with z|z
 ·refine .inr ⟨⟨xs,xs[i],fQ,cp z⟩,?_⟩
  rintro x bQ ⟨rfl,ao⟩
  have ao:=ao xs fQ
  refine aM x (fE ao) bL _ aj (dg dB) (fun bu y d9=>∃aA bY,d9 D=J (.lst aA)/\aA.length<cj/\bY<xs.length-i/\(i+1<=xs.length/\bY=xs.length-(i+1)/\S bu/\upd d9 D (.lst (aA++[y]))=upd H D (.lst (((xs.take (i+1)).filter keep).map f))))
   (fun bu fm=>∃bY,bY<xs.length-i/\(i+1<=xs.length/\bY=xs.length-(i+1)/\S bu/\fm=upd H D (.lst (((xs.take (i+1)).filter keep).map f)))) fun bu fS=>?_
  have iY:xs.take (i+1)=xs.take i++[x]:=by rw[jy,ao];rfl
  by_cases hk:keep x=ah
  ·rw[if_pos hk]
   refine⟨_,xs.length-(i+1),aG,?_,by omega,by omega,rfl,fS,?_⟩
   ·rw[cw]
    have:=List.length_filter_le keep (xs.take i)
    rw[ht]at this;omega
   .rw[fN,iY,List.filter_append,fo,List.filter_cons_of_pos hk];rfl
  ·rw[if_neg hk]
   refine⟨xs.length-(i+1),by omega,by omega,rfl,fS,?_⟩
   rw[iY,List.filter_append,fo,List.filter_cons_of_neg hk];simp
 ·have e:i=xs.length:=by omega
  subst e
  rw[List.take_length]
  rw[List.take_length]at fQ
  exact .inl ⟨⟨xs,fQ,b8 _⟩,bj⟩
end c0
end
variable {s:List Int}
section
namespace ea
open PySem c0
noncomputable def cX:List Int->Int×Int
 |[]=>(1,0)
 |a::r=>(a*(cX r).1+(cX r).2,(cX r).1)
def Tail(r:List Int):Prop:=(∀x∈r,1<=x)/\∀h:r≠[],2<=r.getLast h
noncomputable def Good:List Int->Prop
 |[]=>False
 |_::r=>Tail r
theorem Tail.dd{a:Int}{r:List Int}(h:Tail (a::r)):Tail r:=by
 refine⟨fun x ao=>h.1 x (en _ ao),fun ax=>?_⟩
 have:=h.2 (lx _ _)
 rwa [List.getLast_cons ax]at this
theorem Tail.cX:∀{r:List Int},Tail r->0<=(cX r).2/\(cX r).2<(cX r).1/\(r≠[]->0<(cX r).2)
 |[],_=>⟨by decide,by decide,fun h=>absurd rfl h⟩
 | a::r,h=>by
  obtain⟨ai,aj,bE⟩:=h.dd.cX
  have aJ:=h.1 a (gF ..)
  show 0<=(ea.cX r).1/\(ea.cX r).1<a*(ea.cX r).1+(ea.cX r).2/\(_->0<(ea.cX r).1)
  refine⟨by omega,?_,fun _=>by omega⟩
  by_cases ax:r=[]
  ·subst ax
   have aD:=h.2 (lx _ _)
   have rV:(2:Int)<=a:=aD
   show(1:Int)<a*1+0
   omega
  ·have:=bE ax
   have hm:1*(ea.cX r).1<=a*(ea.cX r).1:=Int.mul_le_mul_of_nonneg_right aJ (by omega)
   omega
noncomputable def fh(p q:Int):List Int:=if h:0<q then(p/q)::fh q (p%q)else []
termination_by q.toNat
decreasing_by
 have:=h5 p h
 have:=hT p (Int.ne_of_gt h)
 omega
theorem m4{p q:Int}(h:0<q):fh p q=(p/q)::fh q (p%q):=by rw[fh,dif_pos h]
theorem ru(p:Int):fh p 0=[]:=by rw[fh,dif_neg (by decide)]
theorem Ba(i:Int):cS.Int.intBits i=aE i.natAbs:=by
 unfold cS.Int.intBits aE
 by_cases h:i=0
 .subst h;rfl
 .rw[if_neg (by simpa using h),if_neg (by omega)]
theorem Lp{B:Nat}:∀{s:List Int},(∀x∈s,x.natAbs<2^B)->(cX s).1.natAbs<=2^((B+1)*s.length)/\(cX s).2.natAbs<=2^((B+1)*s.length)
 |[],_=>⟨by rw[List.length_nil,Nat.mul_zero];decide,by rw[List.length_nil,Nat.mul_zero];decide⟩
 | a::r,h=>by
  obtain⟨ai,aj⟩:=Lp (s:=r) fun x ao=>h x (en _ ao)
  have aJ:=h a (gF ..)
  have e:(B+1)*(a::r).length=(B+1)*r.length+(B+1):=by rw[d6,Nat.mul_succ]
  rw[e,Nat.pow_add]
  obtain⟨T,bZ⟩:∃T,T=2^((B+1)*r.length):=⟨_,rfl⟩
  rw[<-bZ]at ai aj ⊢
  have ag:1<=2^B:=Nat.one_le_two_pow
  have aV:2^(B+1)=2^B*2:=Nat.pow_succ ..
  rw[aV]
  obtain⟨b,Hi⟩:∃b,b=2^B:=⟨_,rfl⟩
  rw[<-Hi]at aJ ag ⊢
  have gh:T*(b*2)=b*T+T*b:=by rw[<-Nat.mul_assoc,Nat.mul_two,Nat.mul_comm b T]
  have mb:T*1<=T*b:=Nat.mul_le_mul_left _ ag
  constructor
  ·show(a*(cX r).1+(cX r).2).natAbs<=_
   have z:=Int.natAbs_add_le (a*(cX r).1) (cX r).2
   rw[Int.natAbs_mul]at z
   have m:a.natAbs*(cX r).1.natAbs<=b*T:=Nat.mul_le_mul (Nat.le_of_lt aJ) ai
   omega
  ·show(cX r).1.natAbs<=_
   have:0<=b*T:=UF _
   omega
theorem MA{i:Int}(h:i.natAbs<=2^k):cS.Int.intBits i<=k+1:=by
 rw[Ba]
 refine jh ?_
 rw[Nat.pow_succ]
 have:=Nat.two_pow_pos k
 omega
theorem Mz{i:Int}(h:i.natAbs<2^k):cS.Int.intBits i<=k:=by rw[Ba];exact jh h
theorem SU{p q:Int}{B:Nat}(h:0<q)(hs:(p/q).natAbs<2^B):cS.Int.intBits p<=cS.Int.intBits q+(B+1):=by
 rw[Ba,Ba]
 refine jh ?_
 have e:=Int.mul_ediv_add_emod p q
 have k3:=hT p (Int.ne_of_gt h)
 have cv:=h5 p h
 have z:=Int.natAbs_add_le (q*(p/q)) (p%q)
 rw[e,Int.natAbs_mul]at z
 have bj:=pG q.natAbs
 have m:q.natAbs*(p/q).natAbs<=q.natAbs*2^B:=Nat.mul_le_mul_left _ (Nat.le_of_lt hs)
 rw[Nat.pow_add,Nat.pow_succ]
 have kD:q.natAbs*2^B<=2^aE q.natAbs*2^B:=Nat.mul_le_mul_right _ (Nat.le_of_lt bj)
 have ag:1<=2^B:=Nat.one_le_two_pow
 have yK:2^aE q.natAbs*1<=2^aE q.natAbs*2^B:=Nat.mul_le_mul_left _ ag
 have gh:2^aE q.natAbs*(2^B*2)=2^aE q.natAbs*2^B+2^aE q.natAbs*2^B:=by rw[<-Nat.mul_assoc,Nat.mul_two]
 omega
noncomputable def qD(s:List Int):Bool:=if s.length<2 then decide (s.length=1)else s.tail.all (fun x=>decide (0<x))&&decide (1<s.getLastD 0)
theorem Lo(s:List Int):qD s=ah↔Good s:=by
 unfold qD
 match s with
 |[]=>simp[Good]
 |[a]=>simp[Good,Tail]
 | a::b::r =>
  rw[if_neg (by simp)]
  rw[gZ,e9,iR]
  have e:(a::b::r).getLastD 0=(b::r).getLast (lx _ _):=by
   rw[List.getLastD_cons,List.getLastD_eq_getLast?,List.getLast?_eq_some_getLast (lx _ _)];rfl
  rw[e]
  constructor
  ·rintro⟨ai,aj⟩
   exact⟨fun x ao=>by have:=hg (ai x ao);omega,fun _=>by omega⟩
  ·rintro⟨ai,aj⟩
   exact⟨fun x ao=>eu (by have:=ai x ao;omega),by have:=aj (lx _ _);omega⟩
theorem Good.ne(h:Good s):s≠[]:=by intro e;subst e;exact h
end ea
end
variable {elts:List cO} {wG:Pos}
section
namespace c0
open PySem PySem.W PySem.Spec PyProof.Rows
section
variable {X:bS} {ar:List (af×bU)} {U:St} {H:aq} {s:aO} {h':bA}
theorem Inv.Dg(aa:Inv X ar U H s)(k:∀b u,b∉ch->s.heap.get? b=J u->h'.get? b=J u)(az:∀b∈ch,qa X ar H b)(aJ:s.heap.objs.size<=a)(new:ih X.prog X.w (upd H a o) h' a o):
  Inv X ar U (upd H a o) {s with heap:=h',toks:=t'}:=by
 have aW:=aa.aL.fresh aJ
 have oV:∀b u,H b=J u->b∉ch:=fun b u e z=>by have:=(az b z).1;rw[this]at e;cases e
 have ne:∀b u,s.heap.get? b=J u->b≠a:=fun b u e z=>by subst z;exact absurd (fB (eS e) aJ) (Nat.lt_irrefl _)
 refine aa.step (g':=s.gens) (d':=s.drawn) (ch:=ch) (fun b ag=>?_) (fun b o _ _ hc e _=>k b o hc e) (fun b o _ _ hc e _=>⟨o.slots,k b o hc e⟩) (fun b u _ e n=>by rw[bK (ne b u e)];exact n)
  (fun b o hc e=>⟨o,k b o hc e⟩) (fun b xs e=>by rw[bK (f5 e aW)];exact e) (fun b u v e=>by rw[bK (f5 e aW)];exact e) (fun b aK e=>⟨#[],by rw[bK (f5 e aW),e];simp⟩) (fun m hm=>?_) (fun b u e=>?_) aa.bare
 ·obtain⟨f0,f1,f2,hL,f4,h8⟩:=az b ag
  exact⟨hL,f1,f4,h8⟩
 ·obtain⟨ec,es,gu,aH,r⟩:=hm
  exact⟨ec,es,gu,k _ ec (fun z=>(az _ z).2.1 I) aH,r⟩
 ·by_cases ag:b=a
  .subst ag;rw[aG]at e;cases e;exact new
  ·rw[bK ag]at e
   refine(aa.aL b u e).sg (fun c v hc q=>k c v ?_ q) (fun c q=>by rw[bK (f5 q aW)];exact q) fun c xs q=>by rw[bK (f5 q aW)];exact q
   rcases hc with z|z
   .rw[z];exact oV b u e
   .exact oV c _ z
theorem Inv.Jg(aa:Inv X ar U H s)(k:∀b u,b∉ch->s.heap.get? b=J u->h'.get? b=J u)(az:∀b∈ch,qa X ar H b):Inv X ar U H {s with heap:=h',toks:=t'}:=by
 have oV:∀b u,H b=J u->b∉ch:=fun b u e z=>by have:=(az b z).1;rw[this]at e;cases e
 refine aa.step (g':=s.gens) (d':=s.drawn) (ch:=ch) (fun b ag=>?_) (fun b o _ _ hc e _=>k b o hc e) (fun b o _ _ hc e _=>⟨o.slots,k b o hc e⟩) (fun _ _ _ _ n=>n)
  (fun b o hc e=>⟨o,k b o hc e⟩) (fun _ _ e=>e) (fun _ _ _ e=>e) (fun b aK e=>⟨#[],by rw[e];simp⟩) (fun m hm=>?_) (fun b u e=>?_) aa.bare
 ·obtain⟨f0,f1,f2,hL,f4,h8⟩:=az b ag
  exact⟨hL,f1,f4,h8⟩
 ·obtain⟨ec,es,gu,aH,r⟩:=hm
  exact⟨ec,es,gu,k _ ec (fun z=>(az _ z).2.1 I) aH,r⟩
 ·refine(aa.aL b u e).sg (fun c v hc q=>k c v ?_ q) (fun _ q=>q) fun _ _ q=>q
  rcases hc with z|z
  .rw[z];exact oV b u e
  .exact oV c _ z
end
noncomputable def sD(K:bM)(a:af)(xs:List V):kr :=
 ⟨fun i H=>cK K H a xs/\i<xs.length,fun i H x H'=>∃(T:af)(y:V),H T=aw/\xs[i]?=J y/\x=.ref T/\H'=upd H T (.tup [.int (i:Nat),y]),fun i H=>cK K H a xs/\xs.length<=i⟩
theorem X6(a e it:af)(xs:List V)(ai:e≠it)(aj:a≠e)(bE:a≠it):
  Turn P w K (.Tuple elts k aZ) (sD K a xs) [e,it] e (fun i h=>i<=xs.length/\(∃old,IsEnum h e it (i:Nat) old)/\h.IsListIter it a i) where
 mem:=by simp
 obj:=fun i h st b ag=>by
  obtain⟨_,⟨old,ix⟩,i9⟩:=st
  rcases c9.mp ag with z|z
  ·subst z
   exact⟨_,ix,fun v z=>by cases z⟩
  ·obtain rfl:=d5.mp z
   obtain⟨o,e,c,d⟩:=i9
   exact⟨o,e,fun v z=>by rw[d]at z;cases z⟩
 keep:=fun i h h' st k=>by
  obtain⟨ay,⟨old,ix⟩,i9⟩:=st
  exact⟨ay,⟨old,k e (by simp) _ ix⟩,i9.at fun o e=>k it (by simp) o e⟩
 item:=by
  intro X cG hw gw hc i ar s U H E aa az st aX
  subst cG hw gw
  obtain⟨bj,ay⟩:=aX
  obtain⟨bt,d0,p,bz⟩:=aa.list bj
  have cM:=d0.length
  have W:=WalksT.enumerate (prog:=X.prog) (w:=X.w) (aa.ok.hd hc) e it a ai aj bE bt.toArray
  refine W.item i s _ _ (by rw[eo];omega) ⟨st.2.1,st.2.2,p.isList⟩ fun T vals h' dK br bZ H0 mid dY=>?_
  refine⟨_,I,W.go elts k aZ i T _ _ _ mid fun G0 h1 yD=>?_⟩
  obtain⟨t,u,cC,rfl⟩:=br
  have H3:bt[i]?=J u:=by simpa using cC
  have aU:xs[i]?=J (xs[i]'ay):=cp ay
  obtain⟨dS,mN,e4⟩:=d0.get aU
  rw[H3]at mN;cases mN
  have x9:=aa.aL.fresh bZ
  have kE:T∉[e,it]:=W.apart i T h' mid
  refine⟨.ref T,upd H T (.tup [.int (i:Nat),xs[i]'ay]),?_,I,⟨T,_,x9,aU,I,I⟩,⟨by omega,h1.1,h1.2.1⟩,fun b ag=>?_⟩
  ·refine aa.Dg (ch:=[e,it]) (t':=dK) (fun b o ag eA=>yD b o ag (dY b o ag eA)) az bZ ?_
   refine⟨by show 2<=cj;decide,[au.int (i:Nat) t,u],.cons ⟨t,rfl⟩ (.cons e4 .nil),?_⟩
   obtain⟨o,aH,r⟩:=H0
   exact⟨o,yD T o kE aH,r⟩
  ·have:=(az b ag).1
   rw[bK]
   .exact this
   .intro z;subst z;exact kE ag
 done:=by
  intro X cG hw gw hc i ar s U H E aa az st aX
  subst cG hw gw
  obtain⟨bj,ay⟩:=aX
  obtain⟨bt,d0,p,bz⟩:=aa.list bj
  have cM:=d0.length
  have W:=WalksT.enumerate (prog:=X.prog) (w:=X.w) (aa.ok.hd hc) e it a ai aj bE bt.toArray
  have eI:i=bt.toArray.size:=by rw[eo];have:=st.1;omega
  subst eI
  exact W.done s _ _ ⟨st.2.1,st.2.2,p.isList⟩ fun h' dK dY=>⟨I,aa.Jg (t':=dK) dY az⟩
 self:=fun A i s Q E st h=>by
  obtain⟨_,⟨old,ix⟩,_⟩:=st
  exact wpAny_pyIter_enum ix h
section
variable {X:bS}
def adm(K:bM)(dd:TE):dU:=fun U H R=>dd U H fun x H1=>∃a xs,x=.ref a/\cK K H1 a xs/\R (sD K a xs) H1
theorem Ts{l:cO}{dd:TE}{p:Pos}(aX:jr X "enumerate")(hm:X.mg "enumerate"=aw)(aD:cz X l dd)(hs:ek [l] X.env=[(aF,eval l X.env)]:=by rfl):jw X (.Tuple elts k wG) (.Call (.Name "enumerate" p) [l] [] aZ) (adm X.K dd):=by
 intro ar s U H R aa h
 have aJ:iQ X [l] _:=al aD aB (hs:=hs.trans rfl)
 refine Call_ (ot aa aX hm boot_enumerate (callWith_type1 (dm (aJ aZ ar s U H (fun vs H1=>∃x,vs=[x]/\∃a xs,x=.ref a/\cK X.K H1 a xs/\R (sD X.K a xs) H1) aa ?_) fun us s1 ⟨vs,H1,bC,cv,cu⟩=>?_) (by rw[hs];rfl) I))
 ·have h':dd U H fun x H1=>∃a xs,x=.ref a/\cK X.K H1 a xs/\R (sD X.K a xs) H1:=h
  show dd U H fun x H1=>∃y,[x]=[y]/\_
  exact cast (congrArg (dd U H) (funext fun x=>funext fun H1=>propext ⟨fun q=>⟨x,I,q⟩,fun⟨y,e,q⟩=>by cases e;exact q⟩)) h'
 ·obtain⟨x,rfl,a,xs,rfl,bj,q⟩:=cu
  obtain⟨u,rfl,e4⟩:=vals1 cv
  obtain rfl:u=au.ref a:=e4
  obtain⟨bt,d0,pl,bz⟩:=bC.list bj
  have h9:a<s1.heap.objs.size:=by obtain⟨o,aH,_⟩:=pl.isList;exact eS aH
  refine call_enumerate_list pl.isList fun h' he ay gy dY=>?_
  have cJ:Inv X ar U H1 {s1 with heap:=h'}:=bC.kept (t':=s1.toks) dY
  refine wpAny_pyIter_enum he ?_
  refine⟨_,[s1.heap.objs.size+1,s1.heap.objs.size],_,_,H1,I,cJ,X6 a _ _ xs (Nat.succ_ne_self _) (g0 (Nat.lt_succ_of_lt h9)) (g0 h9),⟨UF _,⟨_,he⟩,ay⟩,fun b ag=>?_,q⟩
  rcases c9.mp ag with z|z
  .subst z;exact bC.pO (by omega) (bC.aL.fresh (by omega))
  ·obtain rfl:=d5.mp z
   exact bC.pO (b8 _) (bC.aL.fresh (b8 _))
theorem SK{D:Ends}(Pv:Nat->St->aq->Prop)(bg:Pv 0 U H)(aD:∀i U H,i<=xs.length->Pv i U H->cK K H a xs)
  (hs:∀i x U H T,xs[i]?=J x->H T=aw->Pv i U H->g (.ref T) U (upd H T (.tup [.int (i:Nat),x])) fun bu av=>dO {D with nx:=Pv (i+1),ct:=Pv (i+1),bk:=D.nx} bu av) (hd:∀U H,Pv xs.length U H->D.nx U H) :
  ∃W:Nat->Nat->St->aq->Prop,(∃m,W 0 m U H)/\∀i m U H,W i m U H->
   ((sD K a xs).stop i H/\D.nx U H)\/((sD K a xs).go i H/\∃N:St->aq->Prop,(∀cg H',N cg H'->∃bY,bY<m/\W (i+1) bY cg H')/\∀x H',(sD K a xs).p0 i H x H'->g x U H' fun bu av=>dO {D with nx:=N,ct:=N,bk:=D.nx} bu av):=by
 refine⟨fun i m U H=>i<=xs.length/\m=xs.length-i/\Pv i U H,⟨xs.length,UF _,I,bg⟩,?_⟩
 rintro i m U H ⟨ai,rfl,aj⟩
 rcases g4 i xs.length with z|z
 ·refine .inr ⟨⟨aD i U H ai aj,z⟩,Pv (i+1),fun cg H' q=>⟨xs.length-(i+1),by omega,by omega,rfl,q⟩,?_⟩
  rintro x H' ⟨T,y,bZ,aU,rfl,rfl⟩
  exact hs i y U H T aU bZ aj
 ·have e:i=xs.length:=by omega
  subst e
  exact .inl ⟨⟨aD _ U H (b8 _) aj,b8 _⟩,hd U H aj⟩
end
end c0
end
section
namespace ea
open PySem c0
noncomputable def more:List Int->List Bool
 |[]=>[aF]
 |b::r=>ah::(cnt (b-1).toNat++more r).map (!·)
noncomputable def jD:List Int->List Bool
 |[]=>[]
 |a::r=>gP a++more r
noncomputable def odd(k:Nat):Bool:=decide (k%2=1)
theorem A1(k:Nat):odd (k+1)=!odd k:=by
 unfold odd
 have h:k%2=0\/k%2=1:=by omega
 rcases h with h|h
 ·have:(k+1)%2=1:=by omega
  simp[h,this]
 ·have:(k+1)%2=0:=by omega
  simp[h,this]
noncomputable def ic(k:Nat)(x:Int)(last:Bool):List Bool:=((if k=0 then gP x else cnt (x-1).toNat)++[!last]).map (xor (odd k))
noncomputable def g8:Nat->List Int->List (List Bool)
 |_,[]=>[]
 |k,x::r=>ic k x r.isEmpty::g8 (k+1) r
theorem Fi(k:Nat)(s:List Int):(g8 k s).length=s.length:=by
 induction s generalizing k with
 |nil=>rfl
 |cons x r bT=>simp only[g8,d6,bT]
theorem Mh{x:Int}(h:s[i]?=J x):(g8 k s)[i]?=J (ic (k+i) x (decide (i+1=s.length))):=by
 induction s generalizing k i with
 |nil=>cases h
 | cons y r bT =>
  cases i with
  |zero =>
   cases h
   show J (ic k x r.isEmpty)=_
   congr 2
   cases r<;>simp
  |succ i =>
   have h':r[i]?=J x:=h
   have:=bT (k:=k+1) h'
   show(g8 (k+1) r)[i]?=_
   rw[this]
   congr 2
   .omega
   .simp
theorem Y4(l:List Bool)(t:Bool):(l.map (!·)).map (xor t)=l.map (xor (!t)):=by
 rw[gE]
 exact oh fun b _=>by cases t<;>cases b<;>rfl
theorem Zp(hk:k≠0)(b:Int)(r:List Int):(g8 k (b::r)).flatten=(cnt (b-1).toNat++more r).map (xor (odd k)):=by
 induction r generalizing k b with
 |nil =>
  show(ic k b ah++[])=_
  rw[List.append_nil]
  unfold ic
  rw[if_neg hk];rfl
 |cons c r bT =>
  show ic k b aF++(g8 (k+1) (c::r)).flatten=_
  rw[bT (by omega) c]
  unfold ic
  rw[if_neg hk,A1,more,<-Y4,<-fo,gD];rfl
theorem Tx(a:Int)(r:List Int):(g8 0 (a::r)).flatten=jD (a::r):=by
 have eM:∀l:List Bool,l.map (xor (odd 0))=l:=fun l=>xy l
 cases r with
 |nil =>
  show(ic 0 a ah++[])=_
  rw[List.append_nil]
  unfold ic
  rw[if_pos rfl,eM];rfl
 |cons b r =>
  show ic 0 a aF++(g8 1 (b::r)).flatten=_
  rw[Zp (by decide)]
  unfold ic
  rw[if_pos rfl,eM]
  show _=gP a++(ah::(cnt (b-1).toNat++more r).map (!·))
  rw[gD]
  congr 1
  show ah::List.map (xor (odd 1)) _=ah::_
  congr 1
  exact oh fun b _=>by cases b<;>rfl
noncomputable def e0(p q:Int):Int:=if h:0<q then e0 q (p%q)else p
termination_by q.toNat
decreasing_by
 have:=h5 p h
 have:=hT p (Int.ne_of_gt h)
 omega
theorem Bm{p q:Int}(h:0<q):e0 p q=e0 q (p%q):=by rw[e0,dif_pos h]
theorem xE(p:Int):e0 p 0=p:=by rw[e0,dif_neg (by decide)]
end ea
namespace c0
open PySem PySem.Spec PyProof.Rows
theorem Sub.trans'{X:aq}(a:Sub H H1 X)(b:Sub H1 av H'):Sub H av H' :=
 ⟨b.le,fun c o e=>let ⟨u,cC⟩:=a.ge c o e;b.ge c u cC,fun z=>b.cl (a.cl z)⟩
theorem Sub.Ie{ak r:af}{fs:List (ae×V)}(h:H p=J (.ins C ak fs))(ax:H r=aw)(hs:∀b u,b≠p->H b=J u->H' b=J u)(e:H' p=J (.ins C ak ox))(g6:H' r=J o)(aH:mj (upd (upd H p (.ins C ak ox)) r o) r o):
  Sub H (upd (upd H p (.ins C ak ox)) r o) H':=by
 have acM:r≠p:=fun z=>by rw[z,h]at ax;cases ax
 refine Sub.trans' (Sub.ins h hs e) (.new (by rw[bK acM];exact ax) (fun b u q=>?_) g6 aH)
 by_cases z:b=p
 .subst z;rw[aG]at q;cases q;exact e
 .rw[bK z]at q;exact hs b u z q
end c0
end
section
namespace ea
open PySem c0
def pn(s t:List Int):Prop:=(cX s).1*(cX t).2<(cX t).1*(cX s).2
variable {a:Int} {r u:List Int}
theorem L5{b:Int}(ax:Tail r)(cC:Tail u)(h:a<b):pn (a::r) (b::u):=by
 obtain⟨aiq,Rk,_⟩:=ax.cX
 obtain⟨air,aj8,_⟩:=cC.cX
 show(a*(cX r).1+(cX r).2)*(cX u).1<(b*(cX u).1+(cX u).2)*(cX r).1
 generalize (cX r).1=x at *
 generalize (cX r).2=y at *
 generalize (cX u).1=fX at *
 generalize (cX u).2=q3 at *
 have ao:0<x:=by omega
 have OC:0<fX:=by omega
 have mb:(a+1)*(x*fX)<=b*(x*fX):=Int.mul_le_mul_of_nonneg_right (by omega) (Int.le_of_lt (Int.mul_pos ao OC))
 have mc:y*fX<x*fX:=Int.mul_lt_mul_of_pos_right Rk OC
 have vY:0<=q3*x:=Int.mul_nonneg air (Int.le_of_lt ao)
 have aS:(a*x+y)*fX=a*(x*fX)+y*fX:=by rw[Int.add_mul,Int.mul_assoc]
 have aV:(b*fX+q3)*x=b*(x*fX)+q3*x:=by rw[Int.add_mul,Int.mul_assoc,Int.mul_comm fX x]
 have gh:(a+1)*(x*fX)=a*(x*fX)+x*fX:=by rw[Int.add_mul,Int.one_mul]
 rw[aS,aV]
 rw[gh]at mb
 omega
theorem MX:pn (a::r) (a::u)↔pn u r:=by
 show(a*(cX r).1+(cX r).2)*(cX u).1<(a*(cX u).1+(cX u).2)*(cX r).1↔(cX u).1*(cX r).2<(cX r).1*(cX u).2
 generalize (cX r).1=x
 generalize (cX r).2=y
 generalize (cX u).1=fX
 generalize (cX u).2=q3
 have aS:(a*x+y)*fX=a*(x*fX)+fX*y:=by rw[Int.add_mul,Int.mul_assoc,Int.mul_comm y]
 have aV:(a*fX+q3)*x=a*(x*fX)+x*q3:=by rw[Int.add_mul,Int.mul_assoc,Int.mul_comm fX x,Int.mul_comm q3]
 rw[aS,aV]
 omega
theorem Lz(cC:Tail u):¬pn [] u:=by
 obtain⟨aiq,Rk,_⟩:=cC.cX
 show ¬(1*(cX u).2<(cX u).1*0)
 omega
def sC(r:List Int):Prop:=∀x∈r,1<=x/\x<2^255
noncomputable def zg:List Int->List Bool
 |[]=>[]
 |c::r=>cnt (c-1).toNat++more r
theorem AS(c:Int)(r:List Int):more (c::r)=ah::(zg (c::r)).map (!·):=rfl
theorem X7:∀(n:Nat){s t:List Int},s.length+t.length<=n->Tail s->Tail t->sC s->sC t->s≠[]->t≠[]->pn s t->Sep (zg s) (zg t):=by
 intro n
 induction n with
 |zero =>
  intro s t aW _ _ _ _ ai _ _
  exact absurd (List.eq_nil_of_length_eq_zero (by omega)) ai
 | succ n bT =>
  intro s t aW hs aM is it ai aj h
  obtain⟨a,r,rfl⟩:=List.exists_cons_of_ne_nil ai
  obtain⟨b,u,rfl⟩:=List.exists_cons_of_ne_nil aj
  have aJ:=is a (gF ..)
  have ag:=it b (gF ..)
  rcases Int.lt_trichotomy a b with c|c|c
  .exact(F7 (n:=(a-1).toNat) (n':=(b-1).toNat) (by omega) (by omega)).post _ _
  ·subst c
   have h':=MX.mp h
   refine Sep.pre _ ?_
   have ax:=hs.dd
   have cC:=aM.dd
   cases u with
   |nil=>exact absurd h' (Lz ax)
   | cons d u =>
    cases r with
    |nil=>exact⟨[],[],_,I,I⟩
    |cons c r =>
     rw[AS,AS]
     exact Sep.pre [ah] (Sep.turn (bT (by simp only[d6]at aW ⊢;omega) cC ax (fun x ao=>it x (en _ ao)) (fun x ao=>is x (en _ ao)) (lx _ _) (lx _ _) h'))
  ·have:=L5 aM.dd hs.dd c
   unfold pn at h this
   omega
theorem Y7{t:List Int}(hs:Tail s)(aM:Tail t)(is:sC s)(it:sC t)(ai:s≠[])(aj:t≠[])(h:pn s t):Sep (zg s) (zg t):=X7 _ (b8 _) hs aM is it ai aj h
theorem SI{b:Int}(ax:Tail r)(cC:Tail u)(aJ : -(2^255)<a/\a<2^255-1)(ag : -(2^255)<b/\b<2^255-1)(yz:sC r)(yB:sC u)(h:pn (a::r) (b::u)):Sep (jD (a::r)) (jD (b::u)):=by
 rcases Int.lt_trichotomy a b with c|c|c
 .exact(L9 c aJ.1 ag.2).post _ _
 ·subst c
  have h':=MX.mp h
  refine Sep.pre _ ?_
  match r,u,h',ax,cC,yz,yB with
  |r,[],h',ax,cC,yz,yB=>exact absurd h' (Lz ax)
  |[],d::u,h',ax,cC,yz,yB=>exact⟨[],[],_,I,I⟩
  |c::r,d::u,h',ax,cC,yz,yB =>
   rw[AS,AS]
   exact Sep.pre [ah] (Sep.turn (Y7 cC ax yB yz (lx _ _) (lx _ _) h'))
 ·have:=L5 cC ax c
  unfold pn at h this
  omega
end ea
end
section
namespace c0
open PySem PySem.W PySem.Spec PyProof.Rows
theorem xo{Q:bJ}{D:af}(hz:Nat->V)(S:St->Prop)(bz:xs.length<=cj)(bg:S eV)(dB:H D=aw)(aD:cK K H a xs)
  (aM:∀i x,xs[i]?=J x->∀bL H1,S bL->ef H H1->∀R:St->V->aq->Prop,(∀bu,S bu->R bu (hz i) H1)->g x bL H1 fun bu av=>cI bu av fun y bQ=>R bu y bQ)
  (bj:Q (.ref D) (upd H D (.lst ((List.range xs.length).map hz)))) :
  lO (pv K a) g pY cI Q eV H D:=by
 refine⟨fun i m bL av=>i<=xs.length/\m=xs.length-i/\S bL/\av=upd H D (.lst ((List.range i).map hz)),⟨xs.length,UF _,I,bg,I⟩,?_⟩
 rintro i m bL av ⟨ai,rfl,aj,rfl⟩
 have fQ:=(dg (o :=.lst ((List.range i).map hz)) dB).seq aD
 rcases g4 i xs.length with z|z
 ·refine .inr ⟨⟨xs,xs[i],fQ,cp z⟩,?_⟩
  rintro x bQ ⟨rfl,ao⟩
  have ao:=ao xs fQ
  refine aM i x ao bL _ aj (dg dB) (fun bu y d9=>∃aA bY,d9 D=J (.lst aA)/\aA.length<cj/\bY<xs.length-i/\(i+1<=xs.length/\bY=xs.length-(i+1)/\S bu/\upd d9 D (.lst (aA++[y]))=upd H D (.lst ((List.range (i+1)).map hz)))) fun bu fS=>?_
  refine⟨_,xs.length-(i+1),aG,by rw[cw,kQ];omega,by omega,by omega,rfl,fS,?_⟩
  rw[fN,List.range_succ,fo];rfl
 ·have e:i=xs.length:=by omega
  subst e
  exact .inl ⟨⟨xs,fQ,b8 _⟩,bj⟩
end c0
end
section
namespace ea
open PySem c0
noncomputable def mp:List Int->List Bool
 |[]=>[]
 |b::r=>ah::(cnt (b-1).toNat++mp r).map (!·)
end ea
end
section
namespace c0
open PySem PySem.W PySem.Spec PyProof.Rows
section
variable {X:bS}
theorem Yz:sH X "str.rstrip" (fun x xs H Q=>∃y z,x=.str y/\xs=[.str z]/\y.length<=cj/\Q (.str (Txt.rstripChars y z)) H):=by
 intro ar s U H x xs v us Q aa bp d0 h
 obtain⟨y,z,rfl,rfl,bz,q⟩:=h
 obtain⟨t,rfl⟩:=bp
 obtain⟨u,rfl,t',rfl⟩:=d0.one
 exact SC.rstripChars (fun t' k=>⟨.str _,H,aa.tok _,⟨_,I⟩,q⟩) bz
end
end c0
namespace ea
open PySem c0
theorem V2{p:Nat->Bool}(h:p c=ah)(n:Nat)(r:List Nat):(List.replicate n c++r).takeWhile p=List.replicate n c++r.takeWhile p:=by
 induction n with
 |zero=>rfl
 |succ n bT=>rw[List.replicate_succ,List.cons_append,List.takeWhile_cons,if_pos h,bT];rfl
theorem KW(a:List Bool)(n:Nat)(h:a=[]\/∃b,a=b++[aF]):Txt.rstripChars (aP (a++List.replicate n ah)) (ae.ofString "1")=aP a:=by
 have tv:(ae.ofString "1").cps.contains (mx ah)=ah:=by decide+kernel
 have acb:(ae.ofString "1").cps.contains (mx aF)=aF:=by decide+kernel
 have HG:stripLo (ae.ofString "1").cps.contains aF (aP (a++List.replicate n ah))=0:=rfl
 have bz:((a.map mx).reverse).takeWhile (ae.ofString "1").cps.contains=[]:=by
  rcases h with rfl|⟨b,rfl⟩
  .rfl
  ·rw[fo,List.reverse_append]
   show([mx aF]++_).takeWhile _=[]
   rw[List.cons_append,List.takeWhile_cons,if_neg (by rw[acb];decide)]
 have N4:stripHi (ae.ofString "1").cps.contains ah (aP (a++List.replicate n ah)) 0=a.length:=by
  unfold stripHi
  rw[if_pos rfl,iC,List.drop_zero,fo,List.map_replicate,List.reverse_append,List.reverse_replicate,V2 tv,bz,List.append_nil,List.length_replicate,eG,dX,List.length_replicate]
  omega
 unfold Txt.rstripChars Txt.stripBy
 by_cases hs:stripSame (ae.ofString "1").cps.contains aF ah (aP (a++List.replicate n ah))=ah
 ·rw[if_pos hs]
  unfold stripSame at hs
  rw[HG,N4,eG,dX,List.length_replicate]at hs
  have:n=0:=by
   have:=beq_iff_eq.mp (mr.mp hs).2
   omega
  subst this
  rw[List.replicate_zero,List.append_nil]
 ·rw[if_neg hs]
  unfold stripped
  rw[HG,N4]
  apply vb
  show((aP (a++List.replicate n ah)).cps.extract 0 a.length).toList=_
  rw[Array.toList_extract,iC,iC]
  simp[List.extract]
theorem Lj(l:List Bool):(∃n,l=List.replicate n ah)\/∃b n,l=b++aF::List.replicate n ah:=by
 induction l with
 |nil=>exact .inl ⟨0,I⟩
 | cons x r bT =>
  rcases bT with⟨n,rfl⟩|⟨b,n,rfl⟩
  ·cases x with
   |true=>exact .inl ⟨n+1,I⟩
   |false=>exact .inr ⟨[],n,I⟩
  .exact .inr ⟨x::b,n,I⟩
theorem Xz(b:List Bool)(x:Bool):Txt.slice (aP (b++[x])) aw (J (-1))=aP b:=by
 rw[Yb]
 congr 1
 have aS:cA.cV (b++[x]).length 0 aw=0:=rfl
 have aV:cA.cV (b++[x]).length (b++[x]).length (J (-1))=b.length:=by
  rw[dX,ku]
  unfold cA.cV
  simp
  omega
 rw[aS,aV]
 simp
def Lt(a b:List Bool):Prop:=(aP a).cps.toList<(aP b).cps.toList
noncomputable instance (a b:List Bool):Decidable (Lt a b):=inferInstanceAs (Decidable (_<_))
theorem MM(y:Bool)(b:List Bool):Lt [] (y::b):=by
 unfold Lt;rw[iC,iC];exact List.nil_lt_cons _ _
variable {a:List Bool}
theorem Mu{x y:Bool}{b:List Bool}:Lt (x::a) (y::b)↔(x=aF/\y=ah)\/(x=y/\Lt a b):=by
 unfold Lt
 rw[iC,iC,iC,iC,fD,fD,List.cons_lt_cons_iff]
 cases x<;>cases y<;>simp[mx]
theorem UZ{b c:List Bool}(h:Lt a b)(aj:Lt b c):Lt a c:=List.lt_trans h aj
theorem MN(a b:List Bool):Lt a b\/a=b\/Lt b a:=by
 induction a generalizing b with
 |nil=>cases b with
  |nil=>exact .inr (.inl I)
  |cons y b=>exact .inl (MM y b)
 | cons x a bT=>cases b with
  |nil=>exact .inr (.inr (MM x a))
  |cons y b =>
   rw[Mu,Mu]
   rcases bT b with h|h|h
   .cases x<;>cases y<;>simp[h]
   .subst h;cases x<;>cases y<;>simp
   .cases x<;>cases y<;>simp[h]
noncomputable def By:List Bool->List Bool->Nat
 |x::a,y::b=>if x=y then By a b+1 else 0
 |_,_=>0
end ea
end
variable {aA:List c0.V}
section
namespace c0
open PySem PySem.W PySem.Spec PyProof.Rows
section
variable {X:bS}
theorem Ys:dQ X (gW .LtE) (fun x y H Q=>z0 x y fun i j=>Q (.aQ (!decide (j.cps.toList<i.cps.toList))) H):=by
 intro ar s U H x y u v Q aa e4 d0 h
 obtain⟨i,j,rfl,rfl,q⟩:=h
 obtain⟨t,rfl⟩:=e4
 obtain⟨t',rfl⟩:=d0
 exact PySem.P.le_str (fc aa q I)
noncomputable def agY:V->List V->aq->bJ->Prop:=fun x vs H Q=>∃(l:af)(xs:List V)(i:Int)(k:Nat)(y:V),x=.ref l/\vs=[.int i,y]/\H l=J (.lst xs)/\i=((k:Nat):Int)/\k<=xs.length/\xs.length<100000/\Q .aT (upd H l (.lst (xs.take k++y::xs.drop k)))
theorem YA:Ea X "list.insert" agY:=by
 intro ar s U H x vs v us Q aa bp d0 h
 obtain⟨l,xs,i,k,y,rfl,rfl,kV,ajm,hk,bz,q⟩:=h
 cases bp
 obtain⟨hP,dS,rfl,⟨t,rfl⟩,e4⟩:=vals2 d0
 obtain⟨z,bt,n,r,aD,e⟩:=aa.wa kV
 have eN:(100000:Nat)<=cj:=by decide
 have iq:cS.List.listFitsIndex i=ah:=fitsIndex_both (by omega) (by omega)
 have abL:¬(!cS.List.listFitsIndex i)=ah:=by rw[iq];exact hS
 have gy:bt.toArray.size<=cj:=by rw[eo];omega
 refine call_meets F.slot_list_insert ⟨_,e,I⟩ F.entry_list_insert (F.args_list_insert_3 _ _ _) (@AutoListH.list_insert_list_int_val_1 l bt.toArray n i t dS abL gy) ⟨e,?_⟩
 refine⟨.aT,_,aa.Im (its':=bt.take k++dS::bt.drop k) kV e ?_ ((r.take k).append (.cons e4 (r.drop k))) ?_,I,q⟩
 ·show(have i5:=if i<0 then(i+((bt.toArray.size:Nat):Int)).toNat else min i.toNat bt.toArray.size;(bt.toArray.extract 0 i5).push dS++bt.toArray.extract i5)=_
  have aS:(if i<0 then(i+((bt.toArray.size:Nat):Int)).toNat else min i.toNat bt.toArray.size)=k:=by
   rw[if_neg (by omega),eo];omega
  simp only[aS]
  apply Array.ext'
  simp[List.extract]
  exact UV (by rw[je];exact b8 _)
 ·rw[dX,d6,ht,je]
  omega
end
noncomputable def zz(K:bM)(a b:af)(xs aA:List V):kr :=
 ⟨fun i H=>cK K H a xs/\cK K H b aA/\i<min xs.length aA.length,fun i H x H'=>∃(T:af)(u v:V),H T=aw/\xs[i]?=J u/\aA[i]?=J v/\x=.ref T/\H'=upd H T (.tup [u,v]),fun i H=>cK K H a xs/\cK K H b aA/\min xs.length aA.length<=i⟩
theorem Y5(a b z dU dw dR da:af)(xs aA:List V)(D:ZipApart z dU dw dR da a b):
  Turn P w K (.Tuple elts k aZ) (zz K a b xs aA) [z,dU,dw,dR,da] z (fun i h=>i<=min xs.length aA.length/\IsZip h z dU dw .none/\IsPair h dU (.ref dR) (.ref da)/\(∃a b,IsPair h dw a b)/\h.IsListIter dR a i/\h.IsListIter da b i) where
 mem:=by simp
 obj:=fun i h st c hc=>by
  obtain⟨_,ix,i9,⟨p,q,kn⟩,nT,jJ⟩:=st
  rcases c9.mp hc with e|hc
  .subst e;exact⟨_,ix,fun v z=>by cases z⟩
  rcases c9.mp hc with e|hc
  .subst e;exact⟨_,i9,fun v z=>by cases z⟩
  rcases c9.mp hc with e|hc
  .subst e;exact⟨_,kn,fun v z=>by cases z⟩
  rcases c9.mp hc with e|hc
  ·subst e
   obtain⟨o,e,c,d⟩:=nT
   exact⟨o,e,fun v z=>by rw[d]at z;cases z⟩
  ·obtain rfl:=d5.mp hc
   obtain⟨o,e,c,d⟩:=jJ
   exact⟨o,e,fun v z=>by rw[d]at z;cases z⟩
 keep:=fun i h h' st k=>by
  obtain⟨ay,ix,i9,⟨p,q,kn⟩,nT,jJ⟩:=st
  exact⟨ay,k z (by simp) _ ix,k dU (by simp) _ i9,⟨p,q,k dw (by simp) _ kn⟩,nT.at fun o e=>k dR (by simp) o e,jJ.at fun o e=>k da (by simp) o e⟩
 item:=by
  intro X cG hw gw hc i ar s U H E aa az st aX
  subst cG hw gw
  obtain⟨oO,mL,ay⟩:=aX
  obtain⟨iv,oZ,cU,yx⟩:=aa.list oO
  obtain⟨eT,o1,cf,yy⟩:=aa.list mL
  have HD:=oZ.length
  have HE:=o1.length
  have W:=WalksT.zip2 (prog:=X.prog) (w:=X.w) (aa.ok.hd hc) z dU dw dR da a b D iv.toArray eT.toArray
  refine W.item i s _ _ (by rw[eo,eo];omega) ⟨st.2.1,st.2.2.1,st.2.2.2.1,st.2.2.2.2.1,st.2.2.2.2.2,cU.isList,cf.isList⟩ fun T vals h' dK br bZ H0 mid dY=>?_
  refine⟨_,I,W.go elts k aZ i T _ _ _ mid fun G0 h1 yD=>?_⟩
  obtain⟨hP,dS,kX,mN,rfl⟩:=br
  have H4:iv[i]?=J hP:=by simpa using kX
  have H5:eT[i]?=J dS:=by simpa using mN
  have lI:xs[i]?=J (xs[i]'(by omega)):=cp _
  have yw:aA[i]?=J (aA[i]'(by omega)):=cp _
  obtain⟨v1,hM,qU⟩:=oZ.get lI
  obtain⟨v2,lH,eU⟩:=o1.get yw
  rw[H4]at hM;cases hM
  rw[H5]at lH;cases lH
  have x9:=aa.aL.fresh bZ
  have kE:T∉[z,dw,dR,da]:=W.apart i T h' mid
  have CE:∀c∈[z,dU,dw,dR,da],c≠T:=fun c eX e=>by
   subst e
   rcases c9.mp eX with e|eX
   .exact kE (by rw[e];simp)
   rcases c9.mp eX with e|eX
   ·have bg:=eS st.2.2.1
    rw[<-e]at bg
    exact absurd (fB bg bZ) (Nat.lt_irrefl _)
   .exact kE (en _ eX)
  refine⟨.ref T,upd H T (.tup [xs[i]'(by omega),aA[i]'(by omega)]),?_,I,⟨T,_,_,x9,lI,yw,I,I⟩,⟨by omega,h1.1,h1.2.1,h1.2.2.1,h1.2.2.2.1,h1.2.2.2.2.1⟩,fun c eX=>?_⟩
  ·refine aa.Dg (ch:=[z,dw,dR,da]) (t':=dK) (fun c o rO qy=>yD c o rO (dY c o rO qy)) (fun c eX=>az c ?_) bZ ?_
   ·rcases c9.mp eX with e|eX
    .rw[e];simp
    .exact en _ (en _ eX)
   refine⟨by show 2<=cj;decide,[hP,dS],.cons qU (.cons eU .nil),?_⟩
   obtain⟨o,aH,r⟩:=H0
   exact⟨o,yD T o kE aH,r⟩
  ·rw[bK (CE c eX)]
   exact(az c eX).1
 done:=by
  intro X cG hw gw hc i ar s U H E aa az st aX
  subst cG hw gw
  obtain⟨oO,mL,ay⟩:=aX
  obtain⟨iv,oZ,cU,yx⟩:=aa.list oO
  obtain⟨eT,o1,cf,yy⟩:=aa.list mL
  have HD:=oZ.length
  have HE:=o1.length
  have W:=WalksT.zip2 (prog:=X.prog) (w:=X.w) (aa.ok.hd hc) z dU dw dR da a b D iv.toArray eT.toArray
  have eI:i=min iv.toArray.size eT.toArray.size:=by rw[eo,eo];have:=st.1;omega
  subst eI
  refine W.done s _ _ ⟨st.2.1,st.2.2.1,st.2.2.2.1,st.2.2.2.2.1,st.2.2.2.2.2,cU.isList,cf.isList⟩ fun h' dK dY=>⟨I,aa.Jg (t':=dK) dY fun c eX=>az c ?_⟩
  rcases c9.mp eX with e|eX
  .rw[e];simp
  .exact en _ (en _ eX)
 self:=fun A i s Q E st h=>wpAny_pyIter_zip st.2.1 h
section
variable {X:bS}
def adq(K:bM)(cH:h4):dU:=fun U H R=>cH U H fun vs H1=>∃a b xs aA,vs=[.ref a,.ref b]/\cK K H1 a xs/\cK K H1 b aA/\R (zz K a b xs aA) H1
theorem Un{l m:cO}{p:Pos}(aX:jr X "zip")(hm:X.mg "zip"=aw)(aJ:iQ X [l,m] cH)(hs:ek [l,m] X.env=[(aF,eval l X.env),(aF,eval m X.env)]:=by rfl)(c1:ek [m] X.env=[(aF,eval m X.env)]:=by rfl):
  jw X (.Tuple elts k wG) (.Call (.Name "zip" p) [l,m] [] aZ) (adq X.K cH):=by
 intro ar s U H R aa h
 refine Call_ (ot aa aX hm boot_zip (PyProof.Rows.callWith_type1 (dm (aJ aZ ar s U H (fun vs H1=>∃a b xs aA,vs=[.ref a,.ref b]/\cK X.K H1 a xs/\cK X.K H1 b aA/\R (zz X.K a b xs aA) H1) aa h) fun us s1 ⟨vs,H1,bC,cv,cu⟩=>?_) (by rw[hs,c1]) (by rw[c1];rfl)))
 obtain⟨a,b,xs,aA,rfl,oO,mL,q⟩:=cu
 obtain⟨hP,dS,rfl,qU,eU⟩:=vals2 cv
 obtain rfl:hP=au.ref a:=qU
 obtain rfl:dS=au.ref b:=eU
 obtain⟨iv,oZ,cU,yx⟩:=bC.list oO
 obtain⟨eT,o1,cf,yy⟩:=bC.list mL
 have cq:a<s1.heap.objs.size:=by obtain⟨o,aH,_⟩:=cU.isList;exact eS aH
 have cR:b<s1.heap.objs.size:=by obtain⟨o,aH,_⟩:=cf.isList;exact eS aH
 refine call_zip_2 cU.isList cf.isList fun h' cP cL fL mU pe gy dY=>?_
 have cJ:Inv X ar U H1 {s1 with heap:=h'}:=bC.kept (t':=s1.toks) dY
 refine wpAny_pyIter_zip cP ?_
 refine⟨_,_,_,_,H1,I,cJ,Y5 a b _ _ _ _ _ xs aA (zipApart_new cq cR),⟨UF _,cP,cL,⟨_,_,fL⟩,mU,pe⟩,fun c hc=>?_,q⟩
 have mE:s1.heap.objs.size<=c:=by
  rcases c9.mp hc with e|hc
  .rw[e];exact Nat.le_add_right ..
  rcases c9.mp hc with e|hc
  .rw[e];exact Nat.le_add_right ..
  rcases c9.mp hc with e|hc
  .rw[e];exact Nat.le_add_right ..
  rcases c9.mp hc with e|hc
  .rw[e];exact b8 _
  .rw[d5.mp hc];exact Nat.le_add_right ..
 exact bC.pO mE (bC.aL.fresh mE)
end
theorem SW{b:af}{Q:bJ}{D:af}(hz:Nat->V)(S:St->Prop)(bz:min xs.length aA.length<=100000)(bg:S eV)(dB:H D=aw)(kC:cK K H a xs)(fQ:cK K H b aA)
  (aM:∀i x y,xs[i]?=J x->aA[i]?=J y->∀bL H1 T,S bL->ef H H1->H1 T=aw->∀R:St->V->aq->Prop,(∀bu bQ,S bu->ef (upd H1 T (.tup [x,y])) bQ->R bu (hz i) bQ)->g (.ref T) bL (upd H1 T (.tup [x,y])) fun bu av=>cI bu av fun z bQ=>R bu z bQ)
  (bj:∀H':aq,ef H H'->H' D=J (.lst ((List.range (min xs.length aA.length)).map hz))->Q (.ref D) H') :
  lO (zz K a b xs aA) g pY cI Q eV H D:=by
 refine⟨fun i m bL av=>i<=min xs.length aA.length/\m=min xs.length aA.length-i/\S bL/\ef H av/\av D=J (.lst ((List.range i).map hz)),⟨min xs.length aA.length,UF _,I,bg,dg dB,aG⟩,?_⟩
 rintro i m bL av ⟨ai,rfl,aj,hs,iZ⟩
 have cu:=hs.seq kC
 have bX:=hs.seq fQ
 rcases g4 i (min xs.length aA.length)with z|z
 ·refine .inr ⟨⟨cu,bX,z⟩,?_⟩
  rintro x bQ ⟨T,u,v,bZ,cC,br,rfl,rfl⟩
  refine aM i u v cC br bL av T aj hs bZ (fun bu y d9=>∃zs bY,d9 D=J (.lst zs)/\zs.length<cj/\bY<min xs.length aA.length-i/\(i+1<=min xs.length aA.length/\bY=min xs.length aA.length-(i+1)/\S bu/\ef H (upd d9 D (.lst (zs++[y])))/\upd d9 D (.lst (zs++[y])) D=J (.lst ((List.range (i+1)).map hz)))) fun bu d9 fS yr=>?_
  have Ip:D≠T:=fun e=>by rw[e,bZ]at iZ;cases iZ
  refine⟨(List.range i).map hz,min xs.length aA.length-(i+1),yr _ _ (by rw[bK Ip];exact iZ),?_,by omega,by omega,rfl,fS,?_,?_⟩
  ·rw[cw,kQ]
   exact fB (show i<100000 by omega) (by decide)
  ·intro c o e
   rw[bK (f5 e dB)]
   refine yr c o ?_
   rw[bK (fun e'=>by rw[e',hs.free bZ]at e;cases e)]
   exact hs c o e
  .rw[aG,List.range_succ,fo];rfl
 ·have e:i=min xs.length aA.length:=by omega
  subst e
  exact .inl ⟨⟨cu,bX,b8 _⟩,bj av hs iZ⟩
end c0
end
section
namespace ea
open PySem c0
noncomputable def ent(a r:List Bool):List Bool:=cnt (By a r)++cnt (r.length-By a r)++r.drop (By a r)
noncomputable def ents:List Bool->List (List Bool)->List Bool
 |_,[]=>[]
 |a,r::rs=>ent a r++ents r rs
noncomputable def aj1(rs:List (List Bool)):List Bool:=cnt rs.length++ents [] rs
noncomputable abbrev hf(rs:List (List Bool)):List V:=rs.map fun r=>V.str (aP r)
theorem vj(rs:List (List Bool)):(hf rs).length=rs.length:=cw ..
theorem UP(xs aA:List (List Bool)):hf (xs++aA)=hf xs++hf aA:=fo ..
end ea
end
section
namespace c0
open PySem PySem.W PySem.Spec PyProof.Rows
section
variable {X:bS}
end
end c0
end
section
namespace ea
open PySem c0
theorem Yo:∀{l jW:List ae},l.Perm jW->∀{rs:List (List Bool)},l=rs.map aP->∃ss,jW=ss.map aP/\rs.Perm ss:=by
 intro l jW h
 induction h with
 |nil=>intro rs e;exact⟨[],I,by cases rs with|nil=>exact .refl _|cons a r=>cases e⟩
 | cons x _ bT =>
  intro rs e
  cases rs with
  |nil=>cases e
  |cons a r =>
   obtain⟨aS,aV⟩:=List.cons.inj e
   obtain⟨ss,ai,aj⟩:=bT aV
   exact⟨a::ss,by rw[ai,aS];rfl,.cons a aj⟩
 | swap x y l =>
  intro rs e
  match rs,e with
  |a::b::r,e =>
   obtain⟨aS,aV⟩:=List.cons.inj e
   obtain⟨gh,jC⟩:=List.cons.inj aV
   exact⟨b::a::r,by rw[aS,gh,jC];rfl,.swap b a r⟩
 |trans _ _ ads adt =>
  intro rs e
  obtain⟨ss,ai,aj⟩:=ads e
  obtain⟨jK,bE,cQ⟩:=adt ai
  exact⟨jK,bE,aj.trans cQ⟩
end ea
namespace c0
open PySem PySem.W PySem.Spec PyProof.Rows
section
variable {X:bS}
theorem LK:∀{vs:List au}{rs:List (List Bool)},Vals (ea.hf rs) vs->StrsAre vs (rs.map ea.aP)
 |[],[],_ =>.nil
 | v::vs,b::ns,h=>by
  cases h with
  |cons a r =>
   obtain⟨t,rfl⟩:=(show ∃t,v=au.str (ea.aP b) t from a)
   exact .cons _ _ (LK r)
 |[],_::_,h=>by cases h
 |_::_,[],h=>by cases h
theorem K5:∀{vs:List au}{rs:List (List Bool)},StrsAre vs (rs.map ea.aP)->Vals (ea.hf rs) vs
 |[],[],_ =>.nil
 |v::vs,b::ns,h=>by
  cases h with
  |cons x t r=>exact .cons ⟨t,I⟩ (K5 r)
 |[],_::_,h=>by cases h
 |_::_,[],h=>by cases h
end
end c0
end
section
namespace c0
open PySem PySem.W PySem.Spec PyProof.Rows
section
variable {X:bS}
noncomputable def O6:=dQ.or (wj (X:=X)) (Ys (X:=X))
end
end c0
end
section
namespace ea
open PySem c0
end ea
end
section
namespace c0
open PySem PySem.W PySem.Spec PyProof.Rows
end c0
end
section
namespace ea
open PySem
end ea
end
section
namespace c0
open PySem PySem.Spec
section
variable {w:cZ} {es ov:Array (Int×au)} {t t':SetTable} {v3:List ae}
end
section
variable {prog:dA} {w:cZ} {A:dF} {E:au->aO->Prop} {s:aO} {a:af} {es:Array (Int×au)} {gu:Nat} {t:SetTable} {v3:List ae}
end
section
variable {prog:dA} {w:cZ} {A:dF} {E:au->aO->Prop} {s:aO} {a:af} {es:Array (Int×au)} {gu:Nat} {t:SetTable} {v3:List ae}
end
section
variable {prog:dA} {w:cZ} {A:dF} {E:au->aO->Prop} {s:aO} {a aa p:af} {es:Array (Int×au)} {gu:Nat} {t:SetTable} {v3:List ae}
end
end c0
end
section
namespace c0
open PySem PySem.Spec PyProof.Rows
section
variable {prog:dA} {w:cZ} {A:dF} {E:au->aO->Prop} {s:aO} {a:af} {es:Array (Int×au)} {gu:Nat} {t:SetTable} {v3:List ae}
end
end c0
end
section
namespace c0
open PySem PySem.W PySem.Spec PyProof.Rows
theorem E9{Q:bJ}{D:af}(keep:Nat->Bool)(f:Nat->V)(S:St->Prop)(aW:n<=100000)(bg:S eV)(dB:H D=aw)
  (aM:∀i:Nat,i<n->∀bL H1,S bL->ef H H1->∀(R:St->V->aq->Prop)(R':St->aq->Prop),(∀bu,S bu->if keep i=ah then R bu (f i) H1 else R' bu H1)->g (.int (lo+(i:Int))) bL H1 fun bu av=>gb bu av fun b bQ=>if b=ah then cI bu bQ fun y fZ=>R bu y fZ else R' bu bQ)
  (bj:Q (.ref D) (upd H D (.lst (((List.range n).filter keep).map f)))) :
  lO (rf lo n) g gb cI Q eV H D:=by
 refine⟨fun i m bL av=>i<=n/\m=n-i/\S bL/\av=upd H D (.lst (((List.range i).filter keep).map f)),⟨n,UF _,I,bg,I⟩,?_⟩
 rintro i m bL av ⟨ai,rfl,aj,rfl⟩
 rcases g4 i n with z|z
 ·refine .inr ⟨z,?_⟩
  rintro x bQ ⟨rfl,rfl⟩
  refine aM i z bL _ aj (dg dB) (fun bu y d9=>∃aA bY,d9 D=J (.lst aA)/\aA.length<cj/\bY<n-i/\(i+1<=n/\bY=n-(i+1)/\S bu/\upd d9 D (.lst (aA++[y]))=upd H D (.lst (((List.range (i+1)).filter keep).map f))))
   (fun bu fm=>∃bY,bY<n-i/\(i+1<=n/\bY=n-(i+1)/\S bu/\fm=upd H D (.lst (((List.range (i+1)).filter keep).map f)))) fun bu fS=>?_
  by_cases hk:keep i=ah
  ·rw[if_pos hk]
   refine⟨_,n-(i+1),aG,?_,by omega,by omega,rfl,fS,?_⟩
   ·rw[cw]
    have:=List.length_filter_le keep (List.range i)
    rw[kQ]at this
    exact Nat.lt_of_le_of_lt this (fB (show i<100000 by omega) (by decide))
   .rw[fN,List.range_succ,List.filter_append,fo,List.filter_cons_of_pos hk];rfl
  ·rw[if_neg hk]
   refine⟨n-(i+1),by omega,by omega,rfl,fS,?_⟩
   rw[List.range_succ,List.filter_append,fo,List.filter_cons_of_neg hk];simp
 ·have e:i=n:=by omega
  subst e
  exact .inl ⟨b8 _,bj⟩
section
variable {X:bS} {e gp xW es:cO} {cI dd gN jK:TE} {cf aZ:Pos}
end
structure lS(K:bM)(C:af):Prop where
 makes:zo K C=ah
 init:gn K (.ref C) "__init__"=J (J (.builtin "object.__init__"))
 iL:p1 K (.ref C)=ah
section
variable {X:bS} {C:af} {x:ae} {p aZ:Pos}
theorem Yh{s:aO}{Q:bJ}(M:lS X.K C)(aa:Inv X ar U H s)(h:∀x ak,H x=aw->H ak=aw->ak≠x->Q (.ref x) (upd (upd H ak (.own x)) x (.ins C ak []))):
  bN (model X.prog X.w) X.A (call (.ref C) []) (iA X ar U Q) X.xe s:=by
 have bj:=h (s.heap.objs.size+1) s.heap.objs.size (aa.aL.fresh (Nat.le_succ _)) (aa.aL.fresh (b8 _)) (g0 (Nat.lt_succ_self _))
 have cJ:=Inv.made (C:=C) aa
 have Y:=makes_of (M:=model X.prog X.w) aa.hB M.makes
 refine Du (YB aa.hB M.makes M.init (fun self=>Looks.of_pure (oi_bind self)) ?_)
 have aV:((s.heap.push mV).push (mX C s.heap.objs.size)).get? (s.heap.objs.size+1)=J (mX C s.heap.objs.size):=by
  have:=hH (s.heap.push mV) (o:=mX C s.heap.objs.size) rfl
  rwa [bA.size_push]at this
 have t1:Looks (model X.prog X.w) ((s.heap.push mV).push (mX C s.heap.objs.size)) (typeOf (.ref (s.heap.objs.size+1))) (.ref C):=(Looks.ld aV).andThen .now
 have gs:Looks (model X.prog X.w) ((s.heap.push mV).push (mX C s.heap.objs.size)) (isInstance (.ref (s.heap.objs.size+1)) (.type "object")) ah:=t1.andThen (Y.top.keeps fun b o e=>fV _ (fV _ e))
 obtain⟨ft,g,d,t,os⟩:=s
 refine Ro oi_plain entry_oi (@check_slot (model X.prog X.w) _ _ _ "object.__init__" "object" "__init__" (.ref (ft.objs.size+1)) [] [] _ oi_kind oi_split gs (oi_args (.ref (ft.objs.size+1))) ?_)
 rw[oi_run]
 exact dP (And.intro I ⟨V.ref (ft.objs.size+1),_,cJ,I,bj⟩)
def ahF(C:af):TE:=fun _ H Q=>∀x ak,H x=aw->H ak=aw->ak≠x->Q (.ref x) (upd (upd H ak (.own x)) x (.ins C ak []))
theorem AR(M:lS X.K C)(aX:jr X x)(hm:X.mg x=J (.ref C))(mF:(x == ("__debug__":ae))=aF:=by decide):cz X (.Call (.Name x p) [] [] aZ) (ahF C):=by
 intro ar s U H Q aa h
 refine uu (Bf aa aX hm ?_ mF)
 exact PySem.W.callWith_K0 aa.hB M.iL (Yh M aa h)
theorem T5(a b:ae)(t u:Tok):MeetsSeq.EqGives (.str a t) (.str b u) (decide (a=b)):=by
 intro prog w A Q E s h
 exact wpAny_eqBool_str h
end
end c0
end
section
namespace c0
open PySem PySem.Spec PyProof.Rows
end c0
end
variable {h':bA} {val:Nat->ae}
section
namespace c0
open PySem PySem.Spec
noncomputable def gz(val:Nat->ae):Nat->List ae
 |0=>[]
 |i+1=>if val i∈gz val i then gz val i else gz val i++[val i]
theorem xB(val:Nat->ae):∀i,(gz val i).length<=i
 |0=>b8 _
 |i+1=>by
  have bT:=xB val i
  unfold gz
  split
  .omega
  .rw[dX,ku];omega
theorem Cz(val:Nat->ae)(i:Nat)(k:ae):(decide (k∈gz val i)||decide (k=val i))=decide (k∈gz val (i+1)):=by
 conv=>rhs;unfold gz
 by_cases h:val i∈gz val i
 ·rw[if_pos h]
  by_cases e:k=val i
  .subst e;simp[h]
  .simp[e]
 ·rw[if_neg h]
  by_cases e:k=val i<;>simp[e]
theorem Zs(val:Nat->ae)(i:Nat):(if decide (val i∈gz val i)=ah then(gz val i).length else(gz val i).length+1)=(gz val (i+1)).length:=by
 conv=>rhs;unfold gz
 by_cases h:val i∈gz val i
 .rw[if_pos h,if_pos (eu h)]
 .rw[if_neg h,if_neg (by simpa using h),dX];rfl
section
variable {prog:dA} {w:cZ} {A:dF} {R:Result->aO->Prop} {aa:af} {b7 wr:List af} {G:Array GenState->Array GenState->Prop} {n:Nat} {Pv:Nat->au->Prop} {St:Nat->aO->Prop}
abbrev oe(prog:dA)(w:cZ)(h:bA)(S:af)(val:Nat->ae)(i:Nat):Prop:=h.SetOf (PySem.strKind prog w) S (fun k=>decide (k∈gz val i)) (gz val i).length
theorem oe.keep{S:af}(t:oe prog w h S val i)(k:∀o,h.get? S=J o->h'.get? S=J o):oe prog w h' S val i:=by
 obtain⟨o,es,gu,dO,aH,rest⟩:=t
 exact⟨o,es,gu,dO,k o aH,rest⟩
theorem K7(W:WalksS prog w A.in1 aa b7 wr G n Pv St)(S:af)(vA:S∉b7)(val:Nat->ae)(ac2:∀i v,Pv i v->∃t,v=.str (val i) t)(ag:n+1<scanBound):
  ∀(m i:Nat)(s:aO),n-i=m->i<=n->St i s->oe prog w s.heap S val i->(∀bl,Moved (S::wr) G s bl->oe prog w bl.heap S val n->R (.ok (.ret .none)) bl)->
   n2 (model prog w) A (.builtin "set.update.loop" ⟨[.ref S,.ref aa],[]⟩) R s:=by
 have NK:S∉wr:=fun h=>vA (W.sub _ h)
 have up:∀b∈wr,b∈S::wr:=fun b h=>en _ h
 intro m
 induction m with
 |zero =>
  intro i s hm ay st bZ b1
  obtain rfl:i=n:=by omega
  refine codeAny_builtin PyProof.Rows.F.entry_set_update_loop ?_
  rw[dF.under_plainId PyProof.Rows.F.plain_set_update_loop _]
  refine bF (m:=pyNext (.ref aa)) (W.done s _ _ st fun bl kY=>?_)
  exact dP (b1 bl (kY.mono up) (bZ.keep fun o e=>kY.heap S _ NK e))
 | succ m bT =>
  intro i s hm ay st bZ b1
  have h9:i<n:=by omega
  refine codeAny_builtin PyProof.Rows.F.entry_set_update_loop ?_
  rw[dF.under_plainId PyProof.Rows.F.plain_set_update_loop _]
  refine bF (m:=pyNext (.ref aa)) (W.item i s _ _ h9 st fun v bl cG h1 kY=>?_)
  obtain⟨t,rfl⟩:=ac2 i v cG
  have vD:oe prog w bl.heap S val i:=bZ.keep fun o e=>kY.heap S _ NK e
  have N6:(PySem.strKind prog w).is (val i) (.str (val i) t)=ah:=by simp[PySem.strKind,au.isStrOf]
  refine bF (m:=holding [au.str (val i) t] (setAdd S (.str (val i) t))) (wpAny_holding ?_)
  unfold setAdd
  refine wpAny_holding (bF ((PySem.strKind prog w).pyHash (k:=val i) N6 ?_))
  have room:(gz val i).length+1<scanBound:=by have:=xB val i;omega
  refine wpAny_setAddHashed_of (knd:=PySem.strKind prog w) (s:={bl with toks:=bl.toks+1}) N6 I vD room fun h' nS gT=>?_
  have nz:oe prog w h' S val (i+1):=PyProof.Rows.SetOf_congr gT (fun k=>Cz val i k) (Zs val i)
  refine dP ⟨plainId_quiet PyProof.Rows.F.plain_set_update_loop _,bT (i+1) _ (by omega) h9 (W.frame _ bl _ _ h1 (Nat.le_succ _) fun b tq o e=>?_) nz fun o2 ad8 x8=>?_⟩
  .rw[nS.2 b fun z:b=S=>vA (z ▸ tq)];exact e
  ·refine b1 o2 (Moved.trans W.gtrans ((kY.mono up).then_heap (Nat.le_succ _) fun b o abK e=>?_) ad8) x8
   rw[nS.2 b fun z:b=S=>abK (by rw[z];exact gF)];exact e
end
section
variable {prog:dA} {w:cZ} {A:dF} {E:au->aO->Prop} {s:aO}
noncomputable abbrev kF(led:Bool):bU:={cls :=.type "set",dict:=aw,data :=.set #[] 0 (.fresh 0 0 led)}
abbrev CW(prog:dA)(w:cZ)(s:aO)(val:Nat->ae)(n:Nat)(r:au)(nU:aO):Prop:=r=.none/\∃h' dK,nU={s with heap:=h',toks:=dK}/\oe prog w h' s.heap.objs.size val n/\∀b o,b<s.heap.objs.size->s.heap.get? b=J o->h'.get? b=J o
def w3(prog:dA)(w:cZ)(A:dF)(E:au->aO->Prop)(s:aO)(x:au)(val:Nat->ae)(n:Nat)(led:Bool):Prop :=
 bN (model prog w) A.in1.in1 (cS.«set.__init__» ⟨[.ref s.heap.objs.size,x],[]⟩) (fun ck bl=>match ck with
   |Fin.done f=>wants (CW prog w s val n) E (Except.ok f) bl
   |Fin.again h7=>h7.quiet=ah/\n2 (model prog w) A.in1 h7 (wants (CW prog w s val n) E) bl)
  (fun e bl=>wants (CW prog w s val n) E (Except.error e) bl) {s with heap:=s.heap.push (kF led)}
set_option maxHeartbeats 3200000 in
theorem KS{x:au}
  (gi:∀led:Bool,w3 prog w A E s x val n led)
  (h:∀h' dK,oe prog w h' s.heap.objs.size val n->(∀b o,b<s.heap.objs.size->s.heap.get? b=J o->h'.get? b=J o)->Q (.ref s.heap.objs.size) {s with heap:=h',toks:=dK}) :
  bN (model prog w) A (call (.type "set") [x]) Q E s:=by
 obtain⟨c,dd,ajw⟩:=F.called_set.mro
 have aju:=F.called_set.made
 have acV:=F.called_set.sub
 refine Du (codeAny_of_tree ?_)
 show bN _ _ (callAny (.type "set") _) _ _ _
 refine dP ⟨Code.quiet_builtin _ (by decide+kernel),codeAny_builtin F.entry_type_call ?_⟩
 rw[dF.under_plain (weight_type_call_type "set" [x] []) rfl]
 have ai:=F.called_set.notType
 have aj:=F.called_set.canCreate
 have ajd:=F.typeCall_set_1 x
 repeat (any_goals (first|assumption|wp_step))
 refine ur (PySem.code_set_new_1 x (E:=E) (Q₁:=fun obj eg=>∃led:Bool,obj=.ref s.heap.objs.size/\eg={s with heap:=s.heap.push (kF led)}) fun led=>⟨led,I,I⟩) fun r eg ax=>?_
 cases r with
 |error e=>exact ax
 | ok fi =>
  cases fi with
  | ret obj =>
   obtain⟨led,rfl,rfl⟩:=ax
   have dk:(s.heap.push (kF led)).get? s.heap.objs.size=J (kF led):=hH _ rfl
   have bZ:aO.TypeIs {s with heap:=s.heap.push (kF led)} (.ref s.heap.objs.size) "set":=⟨_,dk,rfl⟩
   have ajq:=F.called_set.init.lookup
   have ai8:=F.called_set.init.bind (.ref s.heap.objs.size)
   repeat (any_goals (first|assumption|wp_step))
   refine ur (Ro (R:=wants (CW prog w s val n) E) F.called_set.init.plain F.entry_set_init (PySem.check_set_init_1 bZ ?_)) fun ag7 nU HS=>?_
   .exact gi led
   ·cases ag7 with
    |error e=>exact HS
    | ok aaT =>
     cases aaT with
     |ret r =>
      obtain⟨rfl,h',dK,rfl,ny,vO⟩:=HS
      repeat (any_goals (first|assumption|wp_step))
      exact h _ _ ny vO
     |_=>exact HS.elim
  |_=>exact ax.elim
set_option maxHeartbeats 3200000 in
theorem YG{l:af}{items:Array au}(ft:A.handled=aw)(aD:s.heap.IsList l items)(br:∀(i:Nat)(v:au),items[i]?=J v->∃t,v=.str (val i) t)(ag:items.size+1<scanBound)(led:Bool):w3 prog w A E s (.ref l) val items.size led:=by
 unfold w3
 obtain⟨ol,nD,mE,nl,ip⟩:=aD
 obtain⟨ajZ,aeM,aj0,aeO⟩:=ol
 simp only at mE ip
 subst mE;subst ip
 have dk:(s.heap.push (kF led)).get? s.heap.objs.size=J (kF led):=hH _ rfl
 have acG:(s.heap.push (kF led)).get? l=J {cls :=.type "list",dict:=aeM,data :=.seq items nl,slots:=aeO}:=fV _ nD
 have acU:=F.sub_list_set
 have acT:=F.sub_list_frozenset
 have jU:(au.type "list" == au.type "dict")=aF:=by decide
 have kC:(s.heap.push (kF led)).IsList l items:=⟨_,acG,rfl,nl,rfl⟩
 unfold cS.«set.__init__» noKeywords cS.Frozenset.updateFrom
 generalize Hd:pyIter=jw
 wp_walk
 subst Hd
 refine wpAny_pyIter_list kC ?_
 refine bF (wpAny_runValue ?_)
 have Od:l<s.heap.objs.size:=eS nD
 have Hy:A.in1.in1.in1.handled=aw:=by simp[ft]
 have gy:(s.heap.push (kF led)).objs.size=s.heap.objs.size+1:=bA.size_push ..
 have acx:l≠(s.heap.push (kF led)).objs.size:=by rw[gy];exact g0 (Nat.lt_succ_of_lt Od)
 have vA:s.heap.objs.size∉[(s.heap.push (kF led)).objs.size,l]:=fun z=>by
  rw[gy]at z
  rcases c9.mp z with y|y
  .exact absurd y (g0 (Nat.lt_succ_self _))
  .exact absurd (d5.mp y) (Nat.ne_of_gt Od)
 refine K7 ((Walks.list Hy _ l acx items).toS) s.heap.objs.size vA val br ag items.size 0 _ (by omega) (UF _) ⟨⟨_,hH _ I,I,I⟩,kC.push _⟩ ?_ ?_
 .exact PyProof.Rows.SetOf_congr ((PyProof.Rows.setObjOf_fresh (knd:=PySem.strKind prog w) led).setOf (fV _ dk) (by unfold scanBound;omega)) (fun _=>I) I
 ·intro bl hm ny
  obtain⟨h',g',d',Jd,yR⟩:=bl
  have iI:g'=s.gens:=hm.gens
  have kT:d'=s.drawn:=hm.drawn
  have GH:yR=s.os:=hm.os
  subst iI;subst kT;subst GH
  refine dP ?_
  refine dP (a:=Fin.done (Flow.ret au.none)) ⟨I,h',Jd,I,ny,fun b o rN e=>?_⟩
  refine hm.heap b o (fun z=>?_) (fV _ (fV _ e))
  rcases c9.mp z with y|y
  .exact absurd y (g0 rN)
  ·rcases c9.mp y with y|y
   .rw[gy]at y;exact absurd y (g0 (Nat.lt_succ_of_lt rN))
   .cases y
end
section
variable {prog:dA} {w:cZ} {A:dF} {E:au->aO->Prop} {s:aO}
noncomputable def signsOf(x:ae)(i:Nat):ae:=⟨#[x.cps.getD i 0]⟩
set_option maxHeartbeats 3200000 in
theorem YF{t:Tok}(ft:A.handled=aw)(ag:x.cps.size+1<scanBound)(led:Bool):w3 prog w A E s (.str x t) (signsOf x) x.cps.size led:=by
 unfold w3
 have dk:(s.heap.push (kF led)).get? s.heap.objs.size=J (kF led):=hH _ rfl
 have acU:=F.sub_str_set
 have acT:=F.sub_str_frozenset
 have jU:(au.type "str" == au.type "dict")=aF:=by decide
 unfold cS.«set.__init__» noKeywords cS.Frozenset.updateFrom
 generalize Hd:pyIter=jw
 wp_walk
 subst Hd
 have gy:(s.heap.push (kF led)).objs.size=s.heap.objs.size+1:=bA.size_push ..
 refine wpAny_pyIter_str (s:={s with heap:=s.heap.push (kF led)}) fun o St W C8=>?_
 refine bF (wpAny_runValue ?_)
 have Hy:A.in1.in1.in1.handled=aw:=by simp[ft]
 have vA:s.heap.objs.size∉[(s.heap.push (kF led)).objs.size]:=fun z=>by
  rw[gy]at z
  exact absurd (d5.mp z) (g0 (Nat.lt_succ_self _))
 refine K7 ((W _ Hy).toS) s.heap.objs.size vA (signsOf x) (fun i v br=>?_) ag x.cps.size 0 _ (by omega) (UF _) C8 ?_ ?_
 ·obtain⟨c,u,hc,rfl⟩:=br
  refine⟨u,?_⟩
  unfold signsOf
  rw[Array.getD_eq_getD_getElem?,hc];rfl
 .exact PyProof.Rows.SetOf_congr ((PyProof.Rows.setObjOf_fresh (knd:=PySem.strKind prog w) led).setOf (fV _ dk) (by unfold scanBound;omega)) (fun _=>I) I
 ·intro bl hm ny
  obtain⟨h',g',d',Jd,yR⟩:=bl
  have iI:g'=s.gens:=hm.gens
  have kT:d'=s.drawn:=hm.drawn
  have GH:yR=s.os:=hm.os
  subst iI;subst kT;subst GH
  refine dP ?_
  refine dP (a:=Fin.done (Flow.ret au.none)) ⟨I,h',Jd,I,ny,fun b o' rN e=>?_⟩
  refine hm.heap b o' (fun z=>?_) (fV _ (fV _ e))
  rcases c9.mp z with y|y
  .exact absurd y (g0 rN)
  ·have y:=d5.mp y
   rw[gy]at y;exact absurd y (g0 (Nat.lt_succ_of_lt rN))
theorem XP{S:af}(bZ:oe prog w s.heap S val i)(h:Q (.int ((gz val i).length:Nat) (s.toks+1)) {s with toks:=s.toks+1+1}):bN (model prog w) A (call (.builtin "len") [.ref S]) Q E s:=by
 obtain⟨o,es,gu,t,aH,hex,hd,_,_,ag,az,aW⟩:=bZ
 refine call_len_set aH hex hd az (by unfold scanBound at ag;omega) ?_
 rw[aW];exact h
end
section
variable {X:bS} {aZ p cf CU:Pos} {e:cO} {cI:TE}
def Em(K:bM)(H:aq)(x:V)(val:Nat->ae)(n:Nat):Prop:=(∃a,x=.ref a/\cK K H a ((List.range n).map fun i=>V.str (val i)))\/(∃z,x=.str z/\n=z.cps.size/\val=signsOf z)
def ahD(K:bM)(cI:TE):TE:=fun U H Q=>cI U H fun x H1=>∃val n,Em K H1 x val n/\n+1<scanBound/\Q (.int ((gz val n).length:Nat)) H1
theorem Lc(eX:X.calm=ah)(ace:jr X "len")(acu:X.mg "len"=aw)(acg:jr X "set")(acv:X.mg "set"=aw)(he:cz X e cI)
  (er:ek [.Call (.Name "set" cf) [e] [] CU] X.env=[(aF,eval (.Call (.Name "set" cf) [e] [] CU) X.env)]:=by rfl) (c1:ek [e] X.env=[(aF,eval e X.env)]:=by rfl) :
  cz X (.Call (.Name "len" p) [.Call (.Name "set" cf) [e] [] CU] [] aZ) (ahD X.K cI):=by
 intro ar s U H Q aa h
 refine uu (ot aa ace acu dq ?_ (by decide) (by decide))
 refine PyProof.Rows.callWith_builtin1 ?_ (er.trans I) I
 rw[er]
 show bN _ _ (spliced ((aF,eval (.Call (.Name "set" cf) [e] [] CU) X.env)::[])) _ _ s
 refine Calls.spliced_cons (uu (ot aa acg acv (by decide+kernel:kp "set"=J (.type "set")) ?_ (by decide) (by decide)))
 refine PyProof.Rows.callWith_type1 ?_ (c1.trans I) I
 rw[c1]
 show bN _ _ (spliced ((aF,eval e X.env)::[])) _ _ s
 refine Calls.spliced_cons (dm (he ar s U H _ aa h) fun u s1 b4=>?_)
 obtain⟨x,H1,bC,cv,val,n,ao,ag,q⟩:=b4
 refine Calls.spliced_nil ?_
 have ck:∀(h':bA)(dK:Nat),oe X.prog X.w h' s1.heap.objs.size val n->(∀b o,b<s1.heap.objs.size->s1.heap.get? b=J o->h'.get? b=J o)->bN (model X.prog X.w) X.A (spliced []) (fun vs eg=>bN (model X.prog X.w) X.A (call (.builtin "len") (.ref s1.heap.objs.size::vs)) (iA X ar U Q) X.xe eg) X.xe {s1 with heap:=h',toks:=dK}:=fun h' dK bZ hk=>by
  refine Calls.spliced_nil (XP (s:={s1 with heap:=h',toks:=dK}) bZ ?_)
  exact⟨.int _,H1,bC.kept (h':=h') (t':=dK+1+1) fun b o eA=>hk b o (eS eA) eA,⟨_,I⟩,q⟩
 rcases ao with⟨a,rfl,bj⟩|⟨z,rfl,rfl,rfl⟩
 ·obtain rfl:u=au.ref a:=cv
  obtain⟨bt,d0,pl,bz⟩:=bC.list bj
  have cM:=d0.length
  rw[cw,kQ]at cM
  have gy:bt.toArray.size=n:=by rw[eo];omega
  refine KS (fun led=>?_) ck
  have ay:=YG (prog:=X.prog) (w:=X.w) (E:=X.xe) (val:=val) (bC.ok.hd eX) pl.isList (fun i v br=>?_) (by rw[gy];exact ag) led
  .rw[gy]at ay;exact ay
  ·have qQ:bt[i]?=J v:=by simpa using br
   have N5:i<n:=by rw[cM];exact(g5.mp qQ).1
   obtain⟨u,cC,e4⟩:=d0.get (i:=i) (x :=.str (val i)) (by rw[eL,List.getElem?_range N5];rfl)
   rw[qQ]at cC;cases cC
   exact e4
 ·obtain⟨t,rfl⟩:=cv
  exact KS (fun led=>YF (bC.ok.hd eX) ag led) ck
end
end c0
end
variable {v:c0.V} {y:ae} {T jS:af} {X:List af} {jW:List c0.V} {use:Option (au->Sem Unit)} {Qf:au->aO->Prop}
section
namespace c0
open PySem PySem.W PySem.Spec PyProof.Rows
theorem YX{Q:bJ}{D:af}(keep:Nat->Bool)(f:Nat->V)(S:St->Prop)(bz:x.cps.size<=cj)(bg:S eV)(dB:H D=aw)
  (aM:∀c,c∈x.cps.toList->∀bL H1,S bL->ef H H1->∀(R:St->V->aq->Prop)(R':St->aq->Prop),(∀bu,S bu->if keep c=ah then R bu (f c) H1 else R' bu H1)->g (.str ⟨#[c]⟩) bL H1 fun bu av=>gb bu av fun b bQ=>if b=ah then cI bu bQ fun y fZ=>R bu y fZ else R' bu bQ)
  (bj:Q (.ref D) (upd H D (.lst ((x.cps.toList.filter keep).map f)))) :
  lO (uD x) g gb cI Q eV H D:=by
 have aW:x.cps.toList.length=x.cps.size:=iB
 refine⟨fun i m bL av=>i<=x.cps.size/\m=x.cps.size-i/\S bL/\av=upd H D (.lst (((x.cps.toList.take i).filter keep).map f)),⟨x.cps.size,UF _,I,bg,I⟩,?_⟩
 rintro i m bL av ⟨ai,rfl,aj,rfl⟩
 rcases g4 i x.cps.size with z|z
 ·refine .inr ⟨z,?_⟩
  rintro y bQ ⟨rfl,c,hc,rfl⟩
  have l5:x.cps.toList[i]?=J c:=by rw[Array.getElem?_toList];exact hc
  refine aM c (fE l5) bL _ aj (dg dB) (fun bu y d9=>∃aA bY,d9 D=J (.lst aA)/\aA.length<cj/\bY<x.cps.size-i/\(i+1<=x.cps.size/\bY=x.cps.size-(i+1)/\S bu/\upd d9 D (.lst (aA++[y]))=upd H D (.lst (((x.cps.toList.take (i+1)).filter keep).map f))))
   (fun bu fm=>∃bY,bY<x.cps.size-i/\(i+1<=x.cps.size/\bY=x.cps.size-(i+1)/\S bu/\fm=upd H D (.lst (((x.cps.toList.take (i+1)).filter keep).map f)))) fun bu fS=>?_
  have iY:x.cps.toList.take (i+1)=x.cps.toList.take i++[c]:=by rw[jy,l5];rfl
  by_cases hk:keep c=ah
  ·rw[if_pos hk]
   refine⟨_,x.cps.size-(i+1),aG,?_,by omega,by omega,rfl,fS,?_⟩
   ·rw[cw]
    have:=List.length_filter_le keep (x.cps.toList.take i)
    rw[ht]at this;omega
   .rw[fN,iY,List.filter_append,fo,List.filter_cons_of_pos hk];rfl
  ·rw[if_neg hk]
   refine⟨x.cps.size-(i+1),by omega,by omega,rfl,fS,?_⟩
   rw[iY,List.filter_append,fo,List.filter_cons_of_neg hk];simp
 ·have e:i=x.cps.size:=by omega
  subst e
  rw[UV (by omega)]
  exact .inl ⟨b8 _,bj⟩
theorem A8{Q:bJ}{D:af}(f:Nat->V)(S:St->Prop)(bz:x.cps.size<=cj)(bg:S eV)(dB:H D=aw)
  (aM:∀c,c∈x.cps.toList->∀bL H1,S bL->ef H H1->∀R:St->V->aq->Prop,(∀bu,S bu->R bu (f c) H1)->g (.str ⟨#[c]⟩) bL H1 fun bu av=>cI bu av fun y fZ=>R bu y fZ)
  (bj:Q (.ref D) (upd H D (.lst (x.cps.toList.map f)))) :
  lO (uD x) g pY cI Q eV H D:=by
 refine YX (fun _=>ah) f S bz bg dB (fun c hc bL H1 dk hs R R' b1=>?_) (by rw[List.filter_eq_self.mpr fun _ _=>rfl];exact bj)
 exact aM c hc bL H1 dk hs R fun bu aj=>by have:=b1 bu aj;rwa [if_pos rfl]at this
structure Ext(H H':aq):Prop where
 s:ef H H'
 c:kJ H->kJ H'
theorem Ext.refl(H:aq):Ext H H:=⟨ef.refl _,id⟩
variable {A B:aq}
theorem Ext.trans{C:aq}(a:Ext A B)(b:Ext B C):Ext A C:=⟨a.s.trans b.s,fun z=>b.c (a.c z)⟩
theorem Ext.new(h:H p=aw)(aH:mj (upd H p o) p o):Ext H (upd H p o):=⟨dg h,fun c=>uV c h aH⟩
theorem Ext.lst(h:H p=aw):Ext H (upd H p (.lst xs)) :=.new h trivial
theorem Ext.tup(h:H p=aw):Ext H (upd H p (.tup xs)) :=.new h trivial
theorem Ext.made{x ak:af}{fs:List (ae×V)}(ai:H x=aw)(aj:H ak=aw)(bE:ak≠x):Ext H (upd (upd H ak (.own x)) x (.ins C ak fs)):=by
 have ao:upd H ak (.own x) x=aw:=by rw[bK (eF bE)];exact ai
 refine⟨(dg aj).trans (dg ao),fun c=>uV (uV c aj trivial) ao ?_⟩
 show upd (upd H ak (.own x)) x (.ins C ak fs) ak=J (.own x)
 rw[bK bE];exact aG
theorem Ext.sub(e:Ext H H'):Sub H H' H' :=.all (fun b o h=>⟨o,e.s b o h⟩) e.c
theorem vf(x y:ae):(x++y).cps.toList=x.cps.toList++y.cps.toList:=Array.toList_append
theorem pH(x y:ae):(x++y).length=x.length+y.length:=Array.size_append
structure mn(n:Nat)(S:List Nat)(x:ae):Prop where
 n:x.length<=n
 s:∀c,c∈x.cps.toList->c∈S
variable {S:List Nat}
theorem mn.app(h:mn n S x)(h':mn m S y):mn (n+m) S (x++y):=⟨by rw[pH];have:=h.n;have:=h'.n;omega,fun c hc=>by
 rw[vf]at hc
 exact(List.mem_append.mp hc).elim (h.s c) (h'.s c)⟩
theorem mn.one(h:c∈S):mn 1 S ⟨#[c]⟩:=⟨b8 _,fun d hd=>by rw[d5.mp hd];exact h⟩
theorem mn.slice(h:mn n S x)(lo ay:Option Int):mn n S (Txt.slice x lo ay):=by
 have e:=ea.u3 x lo ay
 refine⟨?_,fun c hc=>h.s c ?_⟩
 ·have aV:=congrArg List.length e
  rw[ht,je]at aV
  have gh:(Txt.slice x lo ay).cps.toList.length=(Txt.slice x lo ay).length:=iB
  have jC:x.cps.toList.length=x.length:=iB
  have:=h.n
  omega
 ·rw[e]at hc
  exact List.mem_of_mem_drop (List.mem_of_mem_take hc)
theorem Kv(x:ae)(k:Nat)(h:k<=x.length):(Txt.slice x aw (J (k:Int))).length=k:=by
 have aV:=congrArg List.length (ea.u3 x aw (J (k:Int)))
 rw[cA.o3,cA.wo,List.drop_zero,ht]at aV
 have gh:(Txt.slice x aw (J (k:Int))).cps.toList.length=(Txt.slice x aw (J (k:Int))).length:=iB
 have jC:x.cps.toList.length=x.length:=iB
 omega
theorem Kl(x:ae)(k:Nat)(h:k<=x.length):(Txt.slice x (J (k:Int)) aw).length=x.length-k:=by
 have aV:=congrArg List.length (ea.u3 x (J (k:Int)) aw)
 rw[cA.o3,cA.wo,ht,je]at aV
 have gh:(Txt.slice x (J (k:Int)) aw).cps.toList.length=(Txt.slice x (J (k:Int)) aw).length:=iB
 have jC:x.cps.toList.length=x.length:=iB
 omega
theorem Uc(h:k<x.length):∃c,c∈x.cps.toList/\ey x.cps.toList ((k:Nat):Int)=J c:=by
 have h':k<x.cps.toList.length:=by rw[iB];exact h
 exact⟨x.cps.toList[k],List.getElem_mem h',cB (cp h')⟩
noncomputable def BB(ns:List ae):Nat:=(gz (fun i=>ns.getD i ae.empty) ns.length).length
noncomputable def BC(s:ae):Nat:=(gz (signsOf s) s.cps.size).length
theorem UK(ns:List ae):BB ns<=ns.length:=xB ..
theorem UJ(s:ae):BC s<=s.length:=xB ..
theorem KL(ns:List ae):((List.range ns.length).map fun i=>V.str (ns.getD i ae.empty))=ns.map V.str:=by
 apply List.ext_getElem
 .rw[cw,kQ,cw]
 ·intro i ai aj
  rw[cw]at aj
  rw[j7,j7,List.getElem_range,dN,cp aj];rfl
theorem W2(h:cK K H a (ns.map V.str)):Em K H (.ref a) (fun i=>ns.getD i ae.empty) ns.length :=.inl ⟨a,rfl,by rw[KL];exact h⟩
theorem Xw(s:ae):Em K H (.str s) (signsOf s) s.cps.size :=.inr ⟨s,rfl,rfl,rfl⟩
noncomputable def ks:ae:="abcdefghijklmnopqrstuvwxyz"
noncomputable def qf:ae:="abcdefghijklmnopqrstuvwxyzABCDEFGHIJKLMNOPQRSTUVWXYZ0123456789"
noncomputable def i6(t s:ae):Bool:=t.cps.toList.all fun c=>decide (c∈s.cps.toList)
theorem Ue:qf.length=62:=by decide+kernel
theorem Ga:ks.length=26:=by decide+kernel
noncomputable def oz(s:ae):Bool:=decide (s.length≠0/\s.length<=60/\BC s=s.length)&&i6 s qf
noncomputable def isName(n:ae):Bool:=decide (0<n.length/\n.length<=12)&&i6 n ks
noncomputable def lC(ns:List ae):Bool:=decide (ns.length≠0/\ns.length<=20/\BB ns=ns.length)&&ns.all isName
theorem Td(s:ae):s=ae.ofString ""↔s.length=0:=by
 have e:ae.ofString ""=⟨#[]⟩:=by decide+kernel
 rw[e]
 constructor
 .rintro rfl;rfl
 ·intro h
  obtain⟨c⟩:=s
  have:c=#[]:=Array.eq_empty_of_size_eq_zero h
  rw[this]
theorem AW{b:af}{x y:df}(h:a≠b):upd (upd H a x) b y=upd (upd H b y) a x:=by
 funext c
 by_cases ai:c=b
 ·subst ai
  rw[aG,bK (eF h),aG]
 ·rw[bK ai]
  by_cases aj:c=a
  ·subst aj
   rw[aG,aG]
  .rw[bK aj,bK aj,bK ai]
variable {l:List V}
theorem xp{D:af}(h:H D=J (.lst l))(c:kJ H):kJ (upd H D (.lst jW)):=fun b u e=>by
 by_cases z:b=D
 .subst z;rw[aG]at e;cases e;trivial
 ·rw[bK z]at e
  have se:=c b u e
  clear e
  induction u with
  |ins C ak fs =>
   have fX:H ak=J (.own b):=se
   show upd H D (.lst jW) ak=J (.own b)
   rw[bK fun z=>by rw[z,h]at fX;cases fX]
   exact fX
  |ji ec u bT=>exact bT se
  |_=>trivial
theorem Ext.set{D:af}(bg:H D=aw)(e:Ext H H')(h:H' D=J (.lst l)):Ext H (upd H' D (.lst jW)) :=
 ⟨fun b u q=>by rw[bK (f5 q bg)];exact e.s b u q,fun c=>xp h (e.c c)⟩
theorem FK(val:Nat->ae):∀n k,k∈gz val n->∃i,i<n/\k=val i
 |0,k,h=>by cases h
 | n+1,k,h=>by
  unfold gz at h
  by_cases z:val n∈gz val n
  ·rw[if_pos z]at h
   obtain⟨i,ay,e⟩:=FK val n k h
   exact⟨i,by omega,e⟩
  ·rw[if_neg z]at h
   rcases List.mem_append.mp h with y|y
   ·obtain⟨i,ay,e⟩:=FK val n k y
    exact⟨i,by omega,e⟩
   .exact⟨n,Nat.lt_succ_self _,d5.mp y⟩
theorem FL(val:Nat->ae):∀n,(∀i j,i<n->j<n->val i=val j->i=j)->(gz val n).length=n
 |0,_=>rfl
 | n+1,h=>by
  unfold gz
  have z:val n∉gz val n:=fun z=>by
   obtain⟨i,ay,e⟩:=FK val n _ z
   have:=h n i (Nat.lt_succ_self _) (by omega) e
   omega
  rw[if_neg z,dX,FL val n fun i j ay b2 e=>h i j (by omega) (by omega) e]
  rfl
theorem YQ{s:ae}(h:s.cps.toList.Nodup):BC s=s.length:=by
 refine FL _ _ fun i j ay b2 e=>?_
 unfold signsOf at e
 injection e with e
 have e:=congrArg (fun a=>a[0]?) e
 simp only[List.getElem?_toArray,List.getElem?_cons_zero,Option.some.injEq]at e
 have tw:i<s.cps.toList.length:=by rw[iB];exact ay
 have N9:j<s.cps.toList.length:=by rw[iB];exact b2
 have g:∀k(hk:k<s.cps.toList.length),s.cps.getD k 0=s.cps.toList[k]:=fun k hk=>by
  rw[Array.getD_eq_getD_getElem?,<-Array.getElem?_toList,cp hk];rfl
 rw[g i tw,g j N9]at e
 exact(List.getElem_inj h).mp e
theorem YR(h:ns.Nodup):BB ns=ns.length:=by
 refine FL _ _ fun i j ay b2 e=>?_
 have g:∀k(hk:k<ns.length),ns.getD k ae.empty=ns[k]:=fun k hk=>by
  rw[dN,cp hk];rfl
 rw[g i ay,g j b2]at e
 exact(List.getElem_inj h).mp e
theorem Y2:qf.cps.toList.Nodup:=by decide+kernel
theorem Y3:ks.cps.toList.Nodup:=by decide+kernel
theorem XU{f r:ae}(h:(f.cps.toList++r.cps.toList).Perm qf.cps.toList)(bg:f.length≠0)(ai:f.length<=60):oz f=ah:=by
 have bo:(f.cps.toList++r.cps.toList).Nodup:=h.nodup_iff.mpr Y2
 have r7:f.cps.toList.Nodup:=(List.nodup_append.mp bo).1
 unfold oz
 rw[eu ⟨bg,ai,YQ r7⟩,Bool.true_and]
 unfold i6
 rw[e9]
 exact fun c hc=>eu (h.mem_iff.mp (List.mem_append_left _ hc))
theorem Yp{f r a b:List Nat}{x:Nat}(e:r=a++x::b):((f++[x])++(a++b)).Perm (f++r):=by
 subst e
 rw[gD]
 exact List.Perm.append_left f (List.perm_middle (a:=x) (l₁:=a) (l₂:=b)).symm
theorem Yc(h:k<x.length):∃c,ey x.cps.toList ((k:Nat):Int)=J c/\x.cps.toList=(Txt.slice x aw (J (k:Int))).cps.toList++c::(Txt.slice x (J ((k+1:Nat):Int)) aw).cps.toList:=by
 have jC:x.cps.toList.length=x.length:=iB
 have h':k<x.cps.toList.length:=by omega
 refine⟨x.cps.toList[k],cB (cp h'),?_⟩
 rw[ea.u3,ea.u3,cA.o3,cA.wo,cA.wo,cA.o3,List.drop_zero,Nat.sub_zero,Nat.min_eq_left (by omega),Nat.min_eq_left (by omega),UV (l:=List.drop (k+1) _) (by rw[je];omega)]
 rw[<-nc h',List.take_append_drop]
theorem TO{s:ae}{a:Int}(e:(Txt.slice s aw (J a)++⟨#[c]⟩)++Txt.slice s (J a) aw=(Txt.slice s aw (J a)++⟨#[d]⟩)++Txt.slice s (J a) aw):c=d:=by
 have e:=congrArg (fun x=>x.cps.toList) e
 simp only[vf]at e
 have e:=List.append_cancel_right e
 have e:=List.append_cancel_left e
 have:[c]=[d]:=e
 exact List.head_eq_of_cons_eq this
theorem Za{f x:Int}(ao:x∈([1,3,5,7,9,11]:List Int))(ay:i<26)(b2:j<26)(e:(f+(0+((i:Nat):Int))*x)%26=(f+(0+((j:Nat):Int))*x)%26):i=j:=by
 have h:=Int.emod_add_cancel_left.mp e
 rw[Int.zero_add,Int.zero_add]at h
 exact congrArg Fin.val ((by decide+kernel:∀x∈([1,3,5,7,9,11]:List Int),∀i j:Fin 26,((i.val:Nat):Int)*x%26=((j.val:Nat):Int)*x%26->i=j) x ao ⟨i,ay⟩ ⟨j,b2⟩ h)
theorem YD{n:ae}(h:mn 12 ks.cps.toList n)(bg:0<n.length):isName n=ah:=by
 unfold isName
 rw[eu ⟨bg,h.n⟩,Bool.true_and]
 unfold i6
 rw[e9]
 exact fun c hc=>eu (h.s c hc)
theorem WT(bg:ns.length≠0)(ai:ns.length<=20)(aW:ns.Nodup)(hs:∀n,n∈ns->isName n=ah):lC ns=ah:=by
 unfold lC
 rw[eu ⟨bg,ai,YR aW⟩,Bool.true_and,e9]
 exact hs
theorem XS{n:ae}(h:isName n=ah):n.length<=12:=by
 unfold isName at h
 simp only[gZ,iR]at h
 exact h.1.2
theorem lX(h:lC ns=ah):ns.length<=20/\∀n,n∈ns->n.length<=12:=by
 unfold lC at h
 simp only[gZ,iR,e9]at h
 exact⟨h.1.2.1,fun n aW=>XS (h.2 n aW)⟩
structure d2(p:af)(H H':aq):Prop where
 k:∀b u,b≠p->H b=J u->H' b=J u
 l:∃ns:List Int,H' p=J (.lst (ns.map V.int))/\ns.length<=90
 c:kJ H->kJ H'
def m5(p:af)(H:aq):Prop:=∃ns:List Int,H p=J (.lst (ns.map V.int))/\ns.length<=90
theorem d2.refl(h:m5 p H):d2 p H H:=⟨fun _ _ _ e=>e,h,id⟩
theorem d2.trans{C:aq}(a:d2 p A B)(b:d2 p B C):d2 p A C:=⟨fun x u n e=>b.k x u n (a.k x u n e),b.l,fun c=>b.c (a.c c)⟩
theorem d2.ext{C:aq}(a:d2 p A B)(b:Ext B C):d2 p A C:=by
 obtain⟨ns,h,aW⟩:=a.l
 exact⟨fun x u n e=>b.s x u (a.k x u n e),⟨ns,b.s _ _ h,aW⟩,fun c=>b.c (a.c c)⟩
theorem d2.pop{ns:List Int}(h:m5 p H)(aW:ns.length<=90):d2 p H (upd H p (.lst (ns.map V.int))):=by
 obtain⟨ms,e,_⟩:=h
 exact⟨fun b u nb q=>by rw[bK nb];exact q,⟨ns,aG,aW⟩,fun c=>xp e c⟩
theorem d2.sub(h:d2 p H H'):Sub H H' H' :=.all (fun b o e=>by
 by_cases z:b=p
 ·subst z
  obtain⟨ns,e,_⟩:=h.l
  exact⟨_,e⟩
 .exact⟨o,h.k b o z e⟩) h.c
theorem d2.free{b:af}(h:d2 p H H')(e:H' b=aw):H b=aw:=by
 cases z:H b with
 |none=>rfl
 | some u =>
  by_cases y:b=p
  ·subst y
   obtain⟨ns,q,_⟩:=h.l
   rw[e]at q;cases q
  .rw[h.k b u y z]at e;cases e
theorem bq.none{st:bD}{f:af}{sp:cD}(F:d1 K mg x st aK f fd)(h:∀vs H Q E,¬sp vs H Q E):bq P w K mg base k x aK sp :=
 ⟨f,fd,⟨fun vs H Q E q=>absurd q (h _ _ _ _),fun A outer s H args us vs Q E _ _ _ _ q=>absurd q (h _ _ _ _)⟩,F.2.1,F.1.iL,F.2.2⟩
theorem d2.set{l:af}(g:d2 p H H')(bg:H l=aw)(h:H' l=J (.lst xs))(aD:l≠p):d2 p H (upd H' l (.lst aA)):=by
 obtain⟨ns,e,aW⟩:=g.l
 exact⟨fun b u nb q=>by rw[bK (f5 q bg)];exact g.k b u nb q,⟨ns,by rw[bK (eF aD)];exact e,aW⟩,fun c=>xp h (g.c c)⟩
theorem d2.ne{l:af}(g:d2 p H H')(h:H' l=aw):l≠p:=fun z=>by
 obtain⟨ns,e,_⟩:=g.l
 rw[z,e]at h;cases h
section
variable {X:bS}
noncomputable def agZ:V->List V->aq->bJ->Prop:=fun x vs H Q=>∃(l:af)(ws:List ae)(w:ae)(k:Nat),x=.ref l/\vs=[.str w]/\H l=J (.lst (ws.map V.str))/\ws[k]?=J w/\(∀j,j<k->ws[j]?≠J w)/\ws.length<100000/\Q (.int ((k:Nat):Int)) H
theorem xr:sH X "list.index" agZ:=by
 intro ar s U H x vs v us Q aa bp d0 h
 obtain⟨l,ws,w,k,rfl,rfl,kV,hk,yn,bz,q⟩:=h
 cases bp
 obtain⟨hP,rfl,⟨t,rfl⟩⟩:=vals1 d0
 obtain⟨z,bt,n,jY,aD,e⟩:=aa.wa kV
 have cM:=jY.length
 rw[cw]at cM
 have vQ:k<ws.length:=(g5.mp hk).1
 have jk:∀(j:Nat)(b2:j<bt.length),∃t',bt[j] =.str (ws[j]'(by omega)) t':=fun j b2=>by
  obtain⟨u,cC,e4⟩:=jY.get (i:=j) (x :=.str (ws[j]'(by omega))) (by rw[eL,cp (by omega)];rfl)
  rw[cp b2]at cC
  obtain⟨t',acX⟩:=(show ∃t,u=au.str _ t from e4)
  exact⟨t',by rw[<-acX];exact e8 cC⟩
 let rD:au->Bool:=fun y=>match y with|.str a _=>decide (a=w)|_=>aF
 have he:∀y,y∈bt.toArray->MeetsSeq.EqGives y (.str w t) (rD y):=fun y aU=>by
  obtain⟨j,b2,rfl⟩:=List.mem_iff_getElem.mp (List.mem_toArray.mp aU)
  obtain⟨t',e'⟩:=jk j b2
  rw[e']
  exact T5 _ _ _ _
 have rU:rD (bt.toArray[k]'(by rw[eo];omega))=ah:=by
  obtain⟨t',e'⟩:=jk k (by omega)
  rw[List.getElem_toArray,e']
  have:=(g5.mp hk).2
  show decide (_=_)=ah
  rw[this];exact eu I
 have acz:∀m(hm:m<bt.toArray.size),m<k->rD bt.toArray[m]=aF:=fun m hm acs=>by
  rw[eo]at hm
  obtain⟨t',e'⟩:=jk m hm
  rw[List.getElem_toArray,e']
  show decide (_=_)=aF
  refine fC fun z=>yn m acs ?_
  rw[cp (by omega),z]
 refine call_meets F.slot_list_index ⟨_,e,I⟩ F.entry_list_index (F.args_list_index_2 _ _) (MeetsSeq.list_index l bt.toArray n (.str w t) rD he k (by rw[eo];omega) (by omega) rU acz) ⟨e,?_⟩
 exact⟨.int _,H,aa.tok _,⟨_,I⟩,q⟩
end
inductive ba where
 |bare (k:Fin 4)
 |sp (a b:Int)
 |le (s:ae)
 |one (k:Fin 3) (f:ba)
 |two (k:Fin 2) (ns:List ae) (fs:List ba)
noncomputable def lZ(s:String):List Nat:=(ae.ofString s).cps.toList
noncomputable def num(a:Int):List Nat:=(ae.ofString (toString a)).cps.toList
noncomputable def MT(k:Fin 4):ae:=[ae.ofString "nothing",ae.ofString "truth",ae.ofString "whole",ae.ofString "fraction"][k]
noncomputable def se(k:Fin 3):ae:=[ae.ofString "maybe",ae.ofString "many",ae.ofString "turned"][k]
noncomputable def Ra(k:Fin 2):ae:=[ae.ofString "record",ae.ofString "choice"][k]
mutual
noncomputable def gm:ba->List Nat
 |.bare k=>(MT k).cps.toList
 |.sp a b=>lZ "span"++(lZ "("++((num a++(lZ ", "++num b))++lZ ")"))
 |.le s=>lZ "letters"++(lZ "("++(s.cps.toList++lZ ")"))
 |.one k f=>(se k).cps.toList++(lZ "("++(gm f++lZ ")"))
 |.two k ns fs=>(Ra k).cps.toList++(lZ "("++(IP fs ns++lZ ")"))
noncomputable def IP:List ba->List ae->List Nat
 |[],_=>[]
 |f::fs,ns=>(ns.headD ae.empty).cps.toList++(lZ " "++(gm f++(match fs with|[]=>[]|_::_=>lZ ", "++IP fs ns.tail)))
end
mutual
noncomputable def aM:ba->Nat
 |.bare _=>1
 |.sp _ _=>1
 |.le _=>1
 |.one _ f=>aM f+1
 |.two _ _ fs=>f7 fs+1
noncomputable def f7:List ba->Nat
 |[]=>0
 |f::fs=>max (aM f) (f7 fs)
end
mutual
noncomputable def mR:ba->Prop
 |.bare _=>True
 |.sp a b=>a<=b/\a.natAbs<10^58/\b.natAbs<10^58
 |.le s=>oz s=ah/\s.length<=60
 |.one _ f=>mR f
 |.two _ ns fs=>lC ns=ah/\ns.length=fs.length/\sb fs
noncomputable def sb:List ba->Prop
 |[]=>True
 |f::fs=>mR f/\sb fs
end
structure eQ where
 b:Fin 4->af
 s:af
 l:af
 o:Fin 3->af
 t:Fin 2->af
mutual
noncomputable def cd(c:eQ)(X:List af)(H:aq):ba->af->Prop
 |.bare k,o=>o∉X/\∃ak,H o=J (.ins (c.b k) ak [])
 |.sp a b,o=>o∉X/\∃ak,H o=J (.ins c.s ak [("low",.int a),("high",.int b)])
 |.le s,o=>o∉X/\∃ak,H o=J (.ins c.l ak [("signs",.str s)])
 |.one k f,o=>o∉X/\∃ak i,H o=J (.ins (c.o k) ak [("inner",.ref i)])/\cd c X H f i
 |.two k ns fs,o=>o∉X/\∃ak cq cR os,H o=J (.ins (c.t k) ak [("names",.ref cq),("forms",.ref cR)])/\cq∉X/\cR∉X/\H cq=J (.lst (ns.map V.str))/\H cR=J (.lst (os.map V.ref))/\eK c X H fs os
noncomputable def eK(c:eQ)(X:List af)(H:aq):List ba->List af->Prop
 |[],os=>os=[]
 |f::fs,os=>∃o r,os=o::r/\cd c X H f o/\eK c X H fs r
end
def hq(P:dA)(w:cZ)(K:bM)(mg:ae->Option au)(base:bA)(k:Nat)(m:ae)(aK:List ae){q5:Type}(cl:q5->af)(sp:q5->cD):Prop:=∀i,hb P w K mg base k (cl i) m aK (sp i)/\fY K (cl i)
section
variable {X:bS} {k i5:Nat} {m:ae} {aK:List ae} {q5:Type} {cl:q5->af} {sp:q5->cD} {e o:cO} {es:List cO} {t:h4} {cH:TE} {aZ apos:Pos}
inductive JR{q5:Type}(cl:q5->af)(m:ae)(x:V)(H:aq)(R:q5->Prop):Prop where
 |mk (a:af) (i:q5) (ak:af) (fs:List (ae×V)) (e:x=.ref a) (h:H a=J (.ins (cl i) ak fs)) (l:fs.lookup m=aw) (q:R i):JR cl m x H R
theorem ij{pl:Sem Bool}(h:hq X.prog X.w X.K X.mg X.base k m aK cl sp)(ax:gB i5 X.A)(he:cz X o cH)(aJ:iQ X (e::es) t)(hk:k<=i5:=by decide)
  (qP:ek (e::es) X.env=(aF,eval e X.env)::ek es X.env:=by rfl) (gx:(backTo aZ (ek es X.env)).any (·.1)=aF:=by rfl)
  (aM:eval (.Call (.Attribute o m apos) (e::es) [] aZ) X.env=(do
   let k2 <-eval o X.env
   standAt apos.atName
   let (f,first) <-holding [k2] (getMethod k2 m pl)
   callWith aZ f first (backTo aZ (ek (e::es) X.env)) (backToKw aZ (wQ [] X.env))):=by rfl) :
  cz X (.Call (.Attribute o m apos) (e::es) [] aZ) (fun U H Q=>cH U H fun x H1=>JR cl m x H1 fun i=>t U H1 fun vs av=>sp i (x::vs) av Q jd):=by
 intro ar s U H Q aa bj
 refine PySem.W.methodCall_KW (pl:=pl) (dm (he ar s U H _ aa bj) fun u s1 b4=>?_) aM
 obtain⟨x,H1,bC,bp,a,i,ak,fs,ex,dz,l,q⟩:=b4
 subst ex
 obtain rfl:u=au.ref a:=bp
 obtain⟨⟨f,fd,F,ag,hm⟩,c⟩:=h i
 refine Fm bC dz c hm l ?_
 refine Jv (first:=[.ref a]) (h₀:=X.base) aa.ok.mod.vZ hm.iL (dm (aJ aZ ar s1 U H1 _ bC q) fun us s2 b4=>?_) qP gx
 obtain⟨vs,av,cJ,r,bX⟩:=b4
 refine ⟨cJ.hB,?_⟩
 exact Bk (us :=.ref a::us) (vs :=.ref a::vs) (dvs:=[]) (ds:=[]) F (ax.mono hk) ag .nil yW cJ (.cons I r) (by rw[List.append_nil];exact bX)
end
structure dM(jS:af)(H H':aq):Prop where
 k:∀b u,b≠jS->H b=J u->H' b=J u
 c:kJ H->kJ H'
theorem dM.refl(jS:af)(H:aq):dM jS H H:=⟨fun _ _ _ e=>e,id⟩
theorem dM.trans{C:aq}(a:dM jS A B)(b:dM jS B C):dM jS A C:=⟨fun x u n e=>b.k x u n (a.k x u n e),fun c=>b.c (a.c c)⟩
theorem dM.ext{C:aq}(a:dM jS A B)(b:Ext B C):dM jS A C:=⟨fun x u n e=>b.s x u (a.k x u n e),fun c=>b.c (a.c c)⟩
theorem dM.move{ak:af}{fs:List (ae×V)}(h:H jS=J (.ins C ak fs)):dM jS H (upd H jS (.ins C ak ox)) :=
 ⟨fun b u nb e=>by rw[bK nb];exact e,(Sub.ins (H':=upd H jS (.ins C ak ox)) h (fun b u nb e=>by rw[bK nb];exact e) aG).cl⟩
theorem dM.sub(h:dM jS H H')(e:H' jS=J o):Sub H H' H' :=.all (fun b u q=>by
 by_cases z:b=jS
 .subst z;exact⟨_,e⟩
 .exact⟨u,h.k b u z q⟩) h.c
mutual
theorem cd.keep{c:eQ}{X:List af}{H H':aq}(k:∀b u,b∉X->H b=J u->H' b=J u):∀(f:ba){o:af},cd c X H f o->cd c X H' f o
 |.bare i,o,h=>by
  obtain⟨n,ak,e⟩:=h
  exact⟨n,ak,k _ _ n e⟩
 |.sp a b,o,h=>by
  obtain⟨n,ak,e⟩:=h
  exact⟨n,ak,k _ _ n e⟩
 |.le s,o,h=>by
  obtain⟨n,ak,e⟩:=h
  exact⟨n,ak,k _ _ n e⟩
 |.one i f,o,h=>by
  obtain⟨n,ak,j,e,q⟩:=h
  exact⟨n,ak,j,k _ _ n e,cd.keep k f q⟩
 |.two i ns fs,o,h=>by
  obtain⟨n,ak,cq,cR,os,e,eC,dc,aS,aV,q⟩:=h
  exact⟨n,ak,cq,cR,os,k _ _ n e,eC,dc,k _ _ eC aS,k _ _ dc aV,eK.keep k fs q⟩
theorem eK.keep{c:eQ}{X:List af}{H H':aq}(k:∀b u,b∉X->H b=J u->H' b=J u):∀(fs:List ba){os:List af},eK c X H fs os->eK c X H' fs os
 |[],os,h=>h
 |f::fs,os,h=>by
  obtain⟨o,r,e,q,bX⟩:=h
  exact⟨o,r,e,cd.keep k f q,eK.keep k fs bX⟩
end
mutual
theorem cd.weak{c:eQ}{X Y:List af}{H:aq}(hs:∀x,x∈X->x∈Y):∀(f:ba){o:af},cd c Y H f o->cd c X H f o
 |.bare i,o,h=>⟨fun z=>h.1 (hs _ z),h.2⟩
 |.sp a b,o,h=>⟨fun z=>h.1 (hs _ z),h.2⟩
 |.le s,o,h=>⟨fun z=>h.1 (hs _ z),h.2⟩
 |.one i f,o,h=>by
  obtain⟨n,ak,j,e,q⟩:=h
  exact⟨fun z=>n (hs _ z),ak,j,e,cd.weak hs f q⟩
 |.two i ns fs,o,h=>by
  obtain⟨n,ak,cq,cR,os,e,eC,dc,aS,aV,q⟩:=h
  exact⟨fun z=>n (hs _ z),ak,cq,cR,os,e,fun z=>eC (hs _ z),fun z=>dc (hs _ z),aS,aV,eK.weak hs fs q⟩
theorem eK.weak{c:eQ}{X Y:List af}{H:aq}(hs:∀x,x∈X->x∈Y):∀(fs:List ba){os:List af},eK c Y H fs os->eK c X H fs os
 |[],os,h=>h
 |f::fs,os,h=>by
  obtain⟨o,r,e,q,bX⟩:=h
  exact⟨o,r,e,cd.weak hs f q,eK.weak hs fs bX⟩
end
theorem eK.len{c:eQ}{X:List af}{H:aq}:∀(fs:List ba){os:List af},eK c X H fs os->os.length=fs.length
 |[],os,h=>by
  obtain rfl:os=[]:=h
  rfl
 |g::fs,os,h=>by
  obtain⟨o',r,rfl,q,bX⟩:=h
  rw[d6,eK.len fs bX];rfl
noncomputable def wK:ba->ae
 |.bare k=>MT k
 |.sp _ _=>ae.ofString "span"
 |.le _=>ae.ofString "letters"
 |.one k _=>se k
 |.two k _ _=>Ra k
noncomputable def bd:ba->List Nat
 |.bare _=>[]
 |.sp a b=>num a++(lZ ", "++num b)
 |.le s=>s.cps.toList
 |.one _ f=>gm f
 |.two _ ns fs=>IP fs ns
theorem vh:∀f:ba,1<=aM f
 |.bare _=>by rw[aM];exact b8 _
 |.sp _ _=>by rw[aM];exact b8 _
 |.le _=>by rw[aM];exact b8 _
 |.one _ f=>by rw[aM];omega
 |.two _ _ fs=>by rw[aM];omega
mutual
theorem cd.add{c:eQ}{X:List af}{H:aq}{l:af}(aD:H l=aw):∀(f:ba){o:af},cd c X H f o->cd c (l::X) H f o
 |.bare i,o,h=>by
  obtain⟨n,ak,e⟩:=h
  exact⟨fun z=>(c9.mp z).elim (fun y=>by rw[y,aD]at e;cases e) n,ak,e⟩
 |.sp a b,o,h=>by
  obtain⟨n,ak,e⟩:=h
  exact⟨fun z=>(c9.mp z).elim (fun y=>by rw[y,aD]at e;cases e) n,ak,e⟩
 |.le s,o,h=>by
  obtain⟨n,ak,e⟩:=h
  exact⟨fun z=>(c9.mp z).elim (fun y=>by rw[y,aD]at e;cases e) n,ak,e⟩
 |.one i f,o,h=>by
  obtain⟨n,ak,j,e,q⟩:=h
  exact⟨fun z=>(c9.mp z).elim (fun y=>by rw[y,aD]at e;cases e) n,ak,j,e,cd.add aD f q⟩
 |.two i ns fs,o,h=>by
  obtain⟨n,ak,cq,cR,os,e,eC,dc,aS,aV,q⟩:=h
  exact⟨fun z=>(c9.mp z).elim (fun y=>by rw[y,aD]at e;cases e) n,ak,cq,cR,os,e,fun z=>(c9.mp z).elim (fun y=>by rw[y,aD]at aS;cases aS) eC,fun z=>(c9.mp z).elim (fun y=>by rw[y,aD]at aV;cases aV) dc,aS,aV,eK.add aD fs q⟩
theorem eK.add{c:eQ}{X:List af}{H:aq}{l:af}(aD:H l=aw):∀(fs:List ba){os:List af},eK c X H fs os->eK c (l::X) H fs os
 |[],os,h=>h
 |f::fs,os,h=>by
  obtain⟨o,r,e,q,bX⟩:=h
  exact⟨o,r,e,cd.add aD f q,eK.add aD fs bX⟩
end
inductive e7 where
 |b (k:Fin 4)|s|l|o (k:Fin 3)|t (k:Fin 2)
noncomputable def fW(c:eQ):e7->af
 |.b k=>c.b k
 |.s=>c.s
 |.l=>c.l
 |.o k=>c.o k
 |.t k=>c.t k
noncomputable def slot:ba->e7
 |.bare k =>.b k
 |.sp _ _ =>.s
 |.le _ =>.l
 |.one k _ =>.o k
 |.two k _ _ =>.t k
theorem cd.ins{c:eQ}{m:ae}(ai:(m == ("low":ae))=aF)(aj:(m == ("high":ae))=aF)(bE:(m == ("signs":ae))=aF)(cQ:(m == ("inner":ae))=aF)(eN:(m == ("names":ae))=aF)(jj:(m == ("forms":ae))=aF):
  ∀(f:ba){o:af},cd c X H f o->∃ak fs,H o=J (.ins (fW c (slot f)) ak fs)/\fs.lookup m=aw
 |.bare i,o,h=>by
  obtain⟨n,ak,e⟩:=h
  exact⟨ak,_,e,I⟩
 |.sp a b,o,h=>by
  obtain⟨n,ak,e⟩:=h
  exact⟨ak,_,e,by simp[List.lookup,ai,aj]⟩
 |.le s,o,h=>by
  obtain⟨n,ak,e⟩:=h
  exact⟨ak,_,e,by simp[List.lookup,bE]⟩
 |.one i f,o,h=>by
  obtain⟨n,ak,j,e,q⟩:=h
  exact⟨ak,_,e,by simp[List.lookup,cQ]⟩
 |.two i ns fs,o,h=>by
  obtain⟨n,ak,cq,cR,os,e,_⟩:=h
  exact⟨ak,_,e,by simp[List.lookup,eN,jj]⟩
theorem Xp{Q:bJ}{D:af}(f:Nat->V)(S:St->Prop)(aW:n<=100000)(bg:S eV)(dB:H D=aw)
  (aM:∀i:Nat,i<n->∀bL H1,S bL->ef H H1->∀R:St->V->aq->Prop,(∀bu,S bu->R bu (f i) H1)->g (.int (lo+(i:Int))) bL H1 fun bu av=>cI bu av fun y fZ=>R bu y fZ)
  (bj:Q (.ref D) (upd H D (.lst ((List.range n).map f)))):lO (rf lo n) g pY cI Q eV H D:=by
 refine E9 (fun _=>ah) f S aW bg dB (fun i ay bL H1 dk hs R R' b1=>?_) (by rw[List.filter_eq_self.mpr fun _ _=>rfl];exact bj)
 exact aM i ay bL H1 dk hs R fun bu aj=>by have:=b1 bu aj;rwa [if_pos rfl]at this
def ahy(t u:e1):e1:=fun D U H=>∃el:St->aq->Prop,t {D with nx:=el} U H/\∀cg H',el cg H'->u D cg H'
variable {X:bS}
theorem Bd{st:bD}{rest:List bD}{t u:e1}(ai:lr X st t)(aj:jx X rest u):jx X (st::rest) (ahy t u):=by
 intro ar s U H D aa h
 obtain⟨el,h,abA⟩:=h
 refine wpAny_execs_cons (dm (ai ar s U H {D with nx:=el} aa h) fun f s1 q=>?_)
 cases f with
 |next =>
  obtain⟨cg,H',h3,q⟩:=q
  exact aj ar s1 cg H' D h3 (abA _ _ q)
 |ret v=>exact q
 |brk=>exact q
 |cont=>exact q
inductive D where
 |aT
 |aQ (b:Bool)
 |int (i:Int)
 |str (s:ae)
 |tup (ds:List D)
 |lst (ds:List D)
mutual
noncomputable def c3(H:aq):D->V->Prop
 |.aT,v=>v=.aT
 |.aQ b,v=>v=.aQ b
 |.int i,v=>v=.int i
 |.str s,v=>v=.str s/\s.length<=100000
 |.tup ds,v=>∃a vs,v=.ref a/\H a=J (.tup vs)/\bh H ds vs/\vs.length<=1000
 |.lst ds,v=>∃a vs,v=.ref a/\H a=J (.lst vs)/\bh H ds vs/\vs.length<=1000
noncomputable def bh(H:aq):List D->List V->Prop
 |[],vs=>vs=[]
 |d::ds,vs=>∃v r,vs=v::r/\c3 H d v/\bh H ds r
end
mutual
theorem c3.same{H H':aq}(s:ef H H'):∀(d:D){v:V},c3 H d v->c3 H' d v
 |.aT,v,h=>h
 |.aQ b,v,h=>h
 |.int i,v,h=>h
 |.str t,v,h=>h
 |.tup ds,v,h=>by
  obtain⟨a,vs,e,ez,q,z⟩:=h
  exact⟨a,vs,e,s _ _ ez,bh.same s ds q,z⟩
 |.lst ds,v,h=>by
  obtain⟨a,vs,e,ez,q,z⟩:=h
  exact⟨a,vs,e,s _ _ ez,bh.same s ds q,z⟩
theorem bh.same{H H':aq}(s:ef H H'):∀(ds:List D){vs:List V},bh H ds vs->bh H' ds vs
 |[],vs,h=>h
 |d::ds,vs,h=>by
  obtain⟨v,r,e,q,bX⟩:=h
  exact⟨v,r,e,c3.same s d q,bh.same s ds bX⟩
end
theorem bh.len{H:aq}:∀(ds:List D){vs:List V},bh H ds vs->vs.length=ds.length
 |[],vs,h=>by
  obtain rfl:vs=[]:=h
  rfl
 |g::fs,vs,h=>by
  obtain⟨o',r,rfl,q,bX⟩:=h
  rw[d6,bh.len fs bX];rfl
theorem bh.get{H:aq}:∀(ds:List D){vs:List V}{i:Nat}{v:V},bh H ds vs->vs[i]?=J v->∃d,ds[i]?=J d/\c3 H d v
 |[],vs,i,v,h,e=>by
  obtain rfl:vs=[]:=h
  cases e
 |d::ds,vs,0,v,h,e=>by
  obtain⟨o',r,rfl,q,bX⟩:=h
  cases e
  exact⟨d,I,q⟩
 |d::ds,vs,i+1,v,h,e=>by
  obtain⟨o',r,rfl,q,bX⟩:=h
  exact bh.get ds bX e
noncomputable def zh:D->String
 |.aT=>"NoneType"
 |.aQ _=>"bool"
 |.int _=>"int"
 |.str _=>"str"
 |.tup _=>"tuple"
 |.lst _=>"list"
theorem c3.ty{d:D}(h:c3 H d v):lu K H v (.type (zh d)):=by
 cases d with
 |aT=>obtain rfl:v=.aT:=h;exact .aT
 |aQ b=>obtain rfl:v=.aQ b:=h;exact .aQ b
 |int i=>obtain rfl:v=.int i:=h;exact .int i
 |str s=>obtain⟨rfl,_⟩:=h;exact .str s
 |tup ds=>obtain⟨a,vs,rfl,e,_⟩:=h;exact .tup e
 |lst ds=>obtain⟨a,vs,rfl,e,_⟩:=h;exact .lst e
noncomputable def adw(d:D)(T:String):Bool:=zh d == T||(zh d == "bool"&&T == "int")
theorem Bg(K:bM):∀a∈["NoneType","bool","int","str","tuple","list"],∀T∈["int","bool","str","tuple","list"],uq K (.type a) (.type T)=J (a == T||(a == "bool"&&T == "int")):=by
 intro a aJ T bZ
 have B3:a="NoneType"\/a="bool"\/a="int"\/a="str"\/a="tuple"\/a="list":=by simpa using aJ
 have vD:T="int"\/T="bool"\/T="str"\/T="tuple"\/T="list":=by simpa using bZ
 rcases B3 with rfl|rfl|rfl|rfl|rfl|rfl<;>rcases vD with rfl|rfl|rfl|rfl|rfl<;>
  first
  |exact Zv ..
  |(unfold uq;rw[if_neg (by decide)];unfold PySem.W.kitCls;kernel_rfl)
theorem hN(K:bM)(d:D){T:String}(bZ:T∈["int","bool","str","tuple","list"]):uq K (.type (zh d)) (.type T)=J (adw d T):=by
 refine Bg K _ ?_ T bZ
 cases d<;>simp[zh]
section
variable {X:bS}
noncomputable def aeV:V->Bool
 |.aT=>ah
 |.aQ _=>ah
 |.int _=>ah
 |.str _=>ah
 |.ref _=>ah
 |_=>aF
theorem MK:dQ X (gW .Is) (fun x y H Q=>∃b,y=.aQ b/\aeV x=ah/\Q (.aQ (decide (x=.aQ b))) H):=by
 intro ar s U H x y v u Q aa bp cn h
 obtain⟨b,rfl,ao,q⟩:=h
 cases cn
 cases x with
 |aT=>cases bp;exact dP (fc aa q (by cases b<;>rfl))
 |aQ c=>cases bp;cases b<;>cases c<;>exact dP (fc aa q I)
 |int i=>obtain⟨t,rfl⟩:=bp;exact dP (fc aa q (by cases b<;>rfl))
 |str i=>obtain⟨t,rfl⟩:=bp;exact dP (fc aa q (by cases b<;>rfl))
 |ref a=>cases bp;exact dP (fc aa q (by cases b<;>rfl))
 |_=>cases ao
end
variable {t:af}
section
variable {prog:dA} {w:cZ} {A:dF} {E:au->aO->Prop} {s:aO}
theorem Wu{items:Array au}{x:au}(rU:s.heap.IsTupleIter it t i)(aM:s.heap.IsTuple t items)(ao:items[i]?=J x)(gq:∀h',h'.IsTupleIter it t (i+1)->bA.SameBut it s.heap h'->Q x {s with heap:=h'}):
  bN (model prog w) A (cS.SmallTypes.nextOf (.ref it)) Q E s:=by
 have ty:=rU.typeIs
 have N7:=rU
 obtain⟨o,aH,hc,hd⟩:=rU
 obtain⟨aeP,HN,_,tP,Ht⟩:=aM
 unfold cS.SmallTypes.nextOf
 refine bF (wpAny_callSpecial?_slot (name:=ae.ofString "__next__") ty F.slot_tuple_iterator_next (wpAny_call_entry F.slot_tuple_iterator_next ty F.entry_tuple_iterator_next ?_ (F.args_tuple_iterator_next_1 _)))
 show bN _ _ (field (.ref it) 0 >>= _) _ _ s
 refine bF (jb aH hd (x :=.ref t) I ?_)
 have nn:¬((au.ref t == au.none)=ah):=hS
 show bN _ _ (if(au.ref t == au.none)=ah then _ else _) _ _ s
 rw[if_neg nn]
 show bN _ _ (field (.ref it) 1 >>= _) _ _ s
 refine bF (jb aH hd (x :=.int i 0) I ?_)
 show bN _ _ (seqItems? (.ref t) >>= _) _ _ s
 refine bF (sm HN Ht ?_)
 simp only[Int.toNat_natCast,ao]
 refine bF (uw aH hd (by simp) (dP ⟨x,I,dP (gq _ ⟨_,bA.get?_update_self _ aH (bU.isFreed_of_fields (bU.data_mapFields hd _)),(bU.cls_mapFields ..).trans hc,?_⟩ (bA.SameBut.update ..))⟩))
 rw[bU.data_mapFields hd];simp[rawInt]
theorem W0{items:Array au}(ft:A.handled=aw)(rU:s.heap.IsTupleIter it t i)(aM:s.heap.IsTuple t items)(ao:items[i]?=aw)(l2:∀h' e,bA.ExtBut it s.heap h'->(∃o,h'.get? e=J o/\o.cls=.type "StopIteration")->E (.ref e) {s with heap:=h'}):
  bN (model prog w) A (cS.SmallTypes.nextOf (.ref it)) Q E s:=by
 have ty:=rU.typeIs
 obtain⟨o,aH,hc,hd⟩:=rU
 obtain⟨aeP,HN,_,tP,Ht⟩:=aM
 unfold cS.SmallTypes.nextOf
 refine bF (wpAny_callSpecial?_slot (name:=ae.ofString "__next__") ty F.slot_tuple_iterator_next (wpAny_call_entry F.slot_tuple_iterator_next ty F.entry_tuple_iterator_next ?_ (F.args_tuple_iterator_next_1 _)))
 show bN _ _ (field (.ref it) 0 >>= _) _ _ s
 refine bF (jb aH hd (x :=.ref t) I ?_)
 have nn:¬((au.ref t == au.none)=ah):=hS
 show bN _ _ (if(au.ref t == au.none)=ah then _ else _) _ _ s
 rw[if_neg nn]
 show bN _ _ (field (.ref it) 1 >>= _) _ _ s
 refine bF (jb aH hd (x :=.int i 0) I ?_)
 show bN _ _ (seqItems? (.ref t) >>= _) _ _ s
 refine bF (sm HN Ht ?_)
 simp only[Int.toNat_natCast,ao]
 refine bF (wpAny_rule (bF (uw aH hd (by simp) ?_)))
 show bN _ _ (newExc (.type "StopIteration") [] >>= _) _ _ _
 refine bF ?_
 simp only[newExc,newTuple]
 refine bF (wpAny_newObj_type ?_ (by size_fits))
 refine bF (m:=firstArgMember _ _) (wpAny_of_eq (a:=au.none) (by first|rfl|(simp only[firstArgMember];rfl)) ?_)
 refine wpAny_newObj_type ?_ (by size_fits)
 simp only[raiseNew]
 refine bF (wpAny_handled ?_)
 first|rw[show A.in1.handled=aw from ft]|rw[ft]
 exact bF (dP (wpAny_throw (l2 _ _ (((bA.SameBut.update ..).extBut.push _).push _) ⟨_,hH _ I,I⟩)))
end
theorem aif{items:Array au}(x:h.IsTuple a items)(k:∀o,h.get? a=J o->h'.get? a=J o):h'.IsTuple a items :=
 let ⟨o,aH,r⟩:=x;⟨o,k o aH,r⟩
theorem Q9(x:h.IsTupleIter a t i)(k:∀o,h.get? a=J o->h'.get? a=J o):h'.IsTupleIter a t i :=
 let ⟨o,aH,r⟩:=x;⟨o,k o aH,r⟩
theorem Draws.tup{A:dF}(ft:A.handled=aw)(it t:af)(jU:t≠it)(items:Array au):
  Draws prog w A it [it,t] items.size (fun i v=>items[i]?=J v) (fun i h=>h.IsTupleIter it t i/\h.IsTuple t items) where
 live:=fun _ _ st=>let ⟨o,aH,_⟩:=st.1;⟨o,aH⟩
 frame:=fun _ _ _ st hk=>⟨Q9 st.1 fun o e=>hk it (by simp) o e,aif st.2 fun o e=>hk t (by simp) o e⟩
 item:=fun i s Q E ay st gq=>Wu st.1 st.2 (x:=items[i]) (by simp[ay]) fun h' N7 mM=>gq _ h' s.toks (by simp[ay]) ⟨N7,st.2.extBut mM.extBut jU⟩ mM
 done:=fun s Q E st l2=>W0 ft st.1 st.2 (by simp) l2
structure u2(z dU dw dR da:af)(nj nk:List af):Prop where
 TIz:dU≠z
 TOz:dw≠z
 i1z:dR≠z
 i2z:da≠z
 TITO:dU≠dw
 TIi1:dU≠dR
 TIi2:dU≠da
 TOi1:dw≠dR
 TOi2:dw≠da
 cP:z∉nj
 yQ:dw∉nj
 Ij:da∉nj
 cL:z∉nk
 wi:dw∉nk
 Cu:dR∉nk
section
variable {prog:dA} {w:cZ} {A:dF} {E:au->aO->Prop} {s:aO}
variable {z dU dw dR da:af} {nj nk:List af} {eC dc i:Nat} {uR uS:Nat->au->Prop} {fA d3:Nat->bA->Prop}
theorem Draws.but{A:dF}{b:af}{i:Nat}{P:Nat->au->Prop}{St:Nat->bA->Prop}(D:Draws prog w A it b7 n P St)(x:bA.ExtBut b h h')(ag:b∉b7)(st:St i h):St i h' :=
 D.frame i h h' st fun c hc o e=>x c o (fun z=>ag (z ▸ hc)) e
theorem S7{a b:au}(cW:Draws prog w A dR nj eC uR fA)(hr:Draws prog w A da nk dc uS d3)(Z:u2 z dU dw dR da nj nk)(bz:IsZip s.heap z dU dw .none)(tm:IsPair s.heap dU (.ref dR) (.ref da))(tn:IsPair s.heap dw a b)(cq:i<eC)(cR:i<dc)(t1:fA i s.heap)(gs:d3 i s.heap)
  (gq:∀x y h' dK,uR i x->uS i y->IsZip h' z dU dw (rawInt s.heap.objs.size)->IsPair h' dw x y->fA (i+1) h'->d3 (i+1) h'->IsPair h' s.heap.objs.size x y->(∀c o,c≠z->c≠dw->c≠dR->c≠da->s.heap.get? c=J o->h'.get? c=J o)->Q (.ref s.heap.objs.size) {s with heap:=h',toks:=dK}) :
  bN (model prog w) A (cS.«zip.__next__» ⟨[.ref z],[]⟩) (fun ck bl=>∃v,ck=.done (.ret v)/\Q v bl) E s:=by
 show bN _ _ (field (.ref z) 2 >>= _) _ _ _
 refine bF (jb bz I (x :=.bool aF) I ?_)
 show bN _ _ (field (.ref z) 3 >>= _) _ _ _
 refine bF (jb bz I (x :=.ref dU) I (bF (sm tm I ?_)))
 show bN _ _ (cS.SmallTypes.ownedTupleIsFree (.ref z) >>= _) _ _ _
 refine bF ?_
 unfold cS.SmallTypes.ownedTupleIsFree
 refine bF (jb bz I (x :=.none) I (dP ?_))
 simp only[if_true]
 refine bF (wpAny_rule (bF (jb bz I (x :=.ref dw) I (bF (wR bz (by simp) fun aJ sl n0=>?_)))))
 replace sl:IsZip aJ z dU dw .ellipsis:=sl
 refine bF ?_
 simp only[List.zipIdx_cons,List.zipIdx_nil,List.forIn_cons,List.forIn_nil]
 refine bF (bF (wpAny_onRaise ?_))
 show bN _ _ (cS.SmallTypes.nextOf (.ref dR) >>= _) _ _ _
 refine bF (cW.item i _ _ _ cq (Draws.but cW n0.extBut Z.cP t1) fun x ag Q6 cU dO mT=>dP ?_)
 have ec:IsPair ag dw a b:=mT.extBut _ _ Z.TOi1 (n0.extBut _ _ Z.TOz tn)
 refine bF (sm ec I (bF (wpAny_updateSeq_pair ec fun hc i7 n1=>?_)))
 replace i7:IsPair hc dw x b:=i7
 refine bF (wpAny_letGo (dP ?_))
 refine bF (bF (wpAny_onRaise ?_))
 show bN _ _ (cS.SmallTypes.nextOf (.ref da) >>= _) _ _ _
 refine bF (hr.item i _ _ _ cR (Draws.but hr n1.extBut Z.wi (Draws.but hr mT.extBut Z.Cu (Draws.but hr n0.extBut Z.cL gs))) fun y hd ah1 cf ahY hE=>dP ?_)
 have gM:IsPair hd dw x b:=hE.extBut _ _ Z.TOi2 i7
 refine bF (sm gM I (bF (wpAny_updateSeq_pair gM fun he g7 xe=>?_)))
 replace g7:IsPair he dw x y:=g7
 refine bF (wpAny_letGo (dP (dP ?_)))
 refine bF (sm g7 I (bF (wpAny_newTuple ?_)))
 have dD:he.objs.size=s.heap.objs.size:=by rw[xe.1,hE.1,n1.1,mT.1,n0.1]
 have Rn:IsZip he z dU dw .ellipsis:=xe.extBut _ _ Z.TOz.symm (hE.extBut _ _ Z.i2z.symm (n1.extBut _ _ Z.TOz.symm (mT.extBut _ _ Z.i1z.symm sl)))
 have OQ:z<he.objs.size:=eS Rn
 show bN _ _ (cS.SmallTypes.ownedTupleHandOut (.ref z) (.ref he.objs.size) >>= _) _ _ _
 refine bF ?_
 unfold cS.SmallTypes.ownedTupleHandOut
 refine bF (wR (show IsZip (he.push {cls :=.type "tuple",data :=.seq #[x,y]}) z dU dw .ellipsis from fV _ Rn) (by simp) fun az Jt zm=>?_)
 replace Jt:IsZip az z dU dw (rawInt he.objs.size):=Jt
 refine wR Jt (by simp) fun aX uk Ri=>dP ⟨_,I,?_⟩
 replace uk:IsZip aX z dU dw (rawInt he.objs.size):=uk
 have up:bA.ExtBut z he aX:=fun c o fu e=>Ri.extBut _ _ fu (zm.extBut _ _ fu (fV _ e))
 have nR:IsPair aX he.objs.size x y:=Ri.extBut _ _ (Nat.ne_of_gt OQ) (zm.extBut _ _ (Nat.ne_of_gt OQ) (hH _ rfl))
 have ahZ:fA (i+1) aX:=Draws.but cW up Z.cP (Draws.but cW xe.extBut Z.yQ (Draws.but cW hE.extBut Z.Ij (Draws.but cW n1.extBut Z.yQ dO)))
 have ah0:d3 (i+1) aX:=Draws.but hr up Z.cL (Draws.but hr xe.extBut Z.wi ahY)
 show Q (.ref he.objs.size) _
 rw[dD]at uk nR ⊢
 exact gq x y aX ah1 cU cf uk (up _ _ Z.TOz g7) ahZ ah0 nR fun c o fu f6 hx xM e=>up c o fu (xe.extBut _ _ f6 (hE.extBut _ _ xM (n1.extBut _ _ f6 (mT.extBut _ _ hx (n0.extBut _ _ fu e)))))
theorem Ug{a b:au}{Q:Fin->aO->Prop}(cW:Draws prog w A dR nj eC uR fA)(hr:Draws prog w A da nk dc uS d3)(Z:u2 z dU dw dR da nj nk)(bz:IsZip s.heap z dU dw .none)(tm:IsPair s.heap dU (.ref dR) (.ref da))(tn:IsPair s.heap dw a b)(l:i=eC\/(i<eC/\i=dc))(t1:fA i s.heap)(gs:d3 i s.heap)
  (l2:∀h' e dK,(∀c o,c≠z->c≠dw->c≠dR->c≠da->s.heap.get? c=J o->h'.get? c=J o)->(∃o,h'.get? e=J o/\o.cls=.type "StopIteration")->E (.ref e) {s with heap:=h',toks:=dK}) :
  bN (model prog w) A (cS.«zip.__next__» ⟨[.ref z],[]⟩) Q E s:=by
 show bN _ _ (field (.ref z) 2 >>= _) _ _ _
 refine bF (jb bz I (x :=.bool aF) I ?_)
 show bN _ _ (field (.ref z) 3 >>= _) _ _ _
 refine bF (jb bz I (x :=.ref dU) I (bF (sm tm I ?_)))
 show bN _ _ (cS.SmallTypes.ownedTupleIsFree (.ref z) >>= _) _ _ _
 refine bF ?_
 unfold cS.SmallTypes.ownedTupleIsFree
 refine bF (jb bz I (x :=.none) I (dP ?_))
 simp only[if_true]
 refine bF (wpAny_rule (bF (jb bz I (x :=.ref dw) I (bF (wR bz (by simp) fun aJ sl n0=>?_)))))
 replace sl:IsZip aJ z dU dw .ellipsis:=sl
 refine bF ?_
 simp only[List.zipIdx_cons,List.zipIdx_nil,List.forIn_cons,List.forIn_nil]
 refine bF (bF (wpAny_onRaise ?_))
 show bN _ _ (cS.SmallTypes.nextOf (.ref dR) >>= _) _ _ _
 rcases l with rfl|⟨cq,rfl⟩
 ·refine bF (cW.done _ _ _ (Draws.but cW n0.extBut Z.cP t1) fun ag e mT he=>?_)
  obtain⟨g7,ge,ce⟩:=he
  have Rl:IsZip ag z dU dw .ellipsis:=mT _ _ Z.i1z.symm sl
  have vq:e≠z:=fun x=>by subst x;rw[Rl]at ge;cases ge;simp at ce
  exact wR Rl (by simp) fun hc _ n1=>l2 hc e s.toks (fun c o fu _ hx _ g=>n1.extBut _ _ fu (mT _ _ hx (n0.extBut _ _ fu g))) ⟨g7,n1.extBut _ _ vq ge,ce⟩
 ·refine bF (cW.item i _ _ _ cq (Draws.but cW n0.extBut Z.cP t1) fun x ag Q6 cU dO mT=>dP ?_)
  have ec:IsPair ag dw a b:=mT.extBut _ _ Z.TOi1 (n0.extBut _ _ Z.TOz tn)
  refine bF (sm ec I (bF (wpAny_updateSeq_pair ec fun hc i7 n1=>?_)))
  refine bF (wpAny_letGo (dP ?_))
  refine bF (bF (wpAny_onRaise ?_))
  show bN _ _ (cS.SmallTypes.nextOf (.ref da) >>= _) _ _ _
  refine bF (hr.done _ _ _ (Draws.but hr n1.extBut Z.wi (Draws.but hr mT.extBut Z.Cu (Draws.but hr n0.extBut Z.cL gs))) fun hd e hE he=>?_)
  obtain⟨g7,ge,ce⟩:=he
  have Rm:IsZip hd z dU dw .ellipsis:=hE _ _ Z.i2z.symm (n1.extBut _ _ Z.TOz.symm (mT.extBut _ _ Z.i1z.symm sl))
  have vq:e≠z:=fun x=>by subst x;rw[Rm]at ge;cases ge;simp at ce
  exact wR Rm (by simp) fun az _ zm=>l2 az e Q6 (fun c o fu f6 hx xM g=>zm.extBut _ _ fu (hE _ _ xM (n1.extBut _ _ f6 (mT.extBut _ _ hx (n0.extBut _ _ fu g))))) ⟨g7,zm.extBut _ _ vq ge,ce⟩
theorem Wt{a b:au}{Q:Option au->aO->Prop}(cW:Draws prog w A.in1 dR nj eC uR fA)(hr:Draws prog w A.in1 da nk dc uS d3)(Z:u2 z dU dw dR da nj nk)(bz:IsZip s.heap z dU dw .none)(tm:IsPair s.heap dU (.ref dR) (.ref da))(tn:IsPair s.heap dw a b)(cq:i<eC)(cR:i<dc)(t1:fA i s.heap)(gs:d3 i s.heap)
  (gq:∀x y h' dK,uR i x->uS i y->IsZip h' z dU dw (rawInt s.heap.objs.size)->IsPair h' dw x y->fA (i+1) h'->d3 (i+1) h'->IsPair h' s.heap.objs.size x y->(∀c o,c≠z->c≠dw->c≠dR->c≠da->s.heap.get? c=J o->h'.get? c=J o)->Q (J (.ref s.heap.objs.size)) {s with heap:=h',toks:=dK}) :
  bN (model prog w) A (pyNext (.ref z)) Q E s:=by
 have bZ:s.TypeIs (.ref z) "zip":=⟨_,bz,rfl⟩
 unfold pyNext
 exact bF (wpAny_attempt (wpAny_callSpecial?_slot (name:=ae.ofString "__next__") bZ F.slot_zip_next (wpAny_call_entry F.slot_zip_next bZ F.entry_zip_next (S7 cW hr Z bz tm tn cq cR t1 gs fun x y h' dK a1 a2 a3 a4 a5 a6 a7 a8=>dP (gq x y h' dK a1 a2 a3 a4 a5 a6 a7 a8)) (F.args_zip_next_1 _))))
theorem WY{a b:au}{Q:Option au->aO->Prop}(cW:Draws prog w A.in1 dR nj eC uR fA)(hr:Draws prog w A.in1 da nk dc uS d3)(Z:u2 z dU dw dR da nj nk)(bz:IsZip s.heap z dU dw .none)(tm:IsPair s.heap dU (.ref dR) (.ref da))(tn:IsPair s.heap dw a b)(l:i=eC\/(i<eC/\i=dc))(t1:fA i s.heap)(gs:d3 i s.heap)
  (gq:∀h' dK,(∀c o,c≠z->c≠dw->c≠dR->c≠da->s.heap.get? c=J o->h'.get? c=J o)->Q aw {s with heap:=h',toks:=dK}) :
  bN (model prog w) A (pyNext (.ref z)) Q E s:=by
 have bZ:s.TypeIs (.ref z) "zip":=⟨_,bz,rfl⟩
 unfold pyNext
 refine bF (wpAny_attempt (wpAny_callSpecial?_slot (name:=ae.ofString "__next__") bZ F.slot_zip_next (wpAny_call_entry F.slot_zip_next bZ F.entry_zip_next (Ug cW hr Z bz tm tn l t1 gs fun h' e dK hk he=>?_) (F.args_zip_next_1 _))))
 obtain⟨o,aH,hc⟩:=he
 exact bF (wpAny_isInstance (T:="StopIteration") (b:=ah) ⟨o,aH,hc⟩ isSubtype_stop (dP (gq _ _ hk)))
end
theorem aiI{a b:Nat}(ai:a<n)(aj:b<n):u2 (n+4) (n+2) (n+3) n (n+1) [n,a] [n+1,b]:=by
 have nm:∀{x y z:Nat},x≠y->x≠z->x∉[y,z]:=fun aS aV h=>by
  rcases c9.mp h with h|h
  .exact aS h
  .exact aV (d5.mp h)
 refine⟨?_,?_,?_,?_,?_,?_,?_,?_,?_,nm ?_ ?_,nm ?_ ?_,nm ?_ ?_,nm ?_ ?_,nm ?_ ?_,nm ?_ ?_⟩<;>(show(_:Nat)≠_;omega)
section
variable {prog:dA} {w:cZ} {A:dF} {E:au->aO->Prop} {s:aO}
noncomputable abbrev Dn(h:bA)(a:af):bA:=h.push {cls :=.type "list_iterator",data :=.fields #[.ref a,.int 0 0]}
noncomputable abbrev Dp(h:bA)(a b:af):bA:=(Dn h a).push {cls :=.type "tuple_iterator",data :=.fields #[.ref b,.int 0 0]}
noncomputable abbrev Dq(h:bA)(a b:af):bA:=(Dp h a b).push {cls :=.type "tuple",data :=.seq #[.ref h.objs.size,.ref (Dn h a).objs.size]}
noncomputable abbrev Dr(h:bA)(a b:af):bA:=(Dq h a b).push {cls :=.type "tuple",data :=.seq #[.none,.none]}
noncomputable abbrev wM(h:bA)(a b:af):bA:=(Dr h a b).push {cls :=.type "zip",data :=.fields #[.none,.bool aF,.bool aF,.ref (Dp h a b).objs.size,.ref (Dq h a b).objs.size]}
theorem S8(a b:af)(xs aA:Array au):
  Meets (cS.«zip.__new__» ⟨[.type "zip",.ref a,.ref b],[]⟩) (fun _ R s=>s.heap.IsList a xs/\s.heap.IsTuple b aA/\R (.ok (.ret (.ref (Dr s.heap a b).objs.size))) {s with heap:=wM s.heap a b}) :=
 .of_wp fun prog w A R s h=>by
  obtain⟨aY,g,d,dK,os⟩:=s
  obtain⟨aS,aV,h⟩:=h
  have acV:=sub_zip
  have fj:bA.IsList (aO.heap ⟨aY,g,d,dK,os⟩) a xs:=aS
  have kD:bA.IsTuple (aO.heap ⟨aY.push {cls :=.type "list_iterator",data :=.fields #[.ref a,.int 0 0]},g,d,dK,os⟩) b aA:=bA.IsTuple.push aV _
  wp_walk using wpAny_pyIter_list fj,wpAny_pyIter_tuple kD
  exact⟨_,I,h⟩
theorem SZ{b:af}{xs aA:Array au}(aS:s.heap.IsList a xs)(aV:s.heap.IsTuple b aA)
  (h:∀h',IsZip h' (s.heap.objs.size+4) (s.heap.objs.size+2) (s.heap.objs.size+3) .none->IsPair h' (s.heap.objs.size+2) (.ref s.heap.objs.size) (.ref (s.heap.objs.size+1))->IsPair h' (s.heap.objs.size+3) .none .none->h'.IsListIter s.heap.objs.size a 0->h'.IsTupleIter (s.heap.objs.size+1) b 0->(∀c o,s.heap.get? c=J o->h'.get? c=J o)->Q (.ref (s.heap.objs.size+4)) {s with heap:=h'}) :
  bN (model prog w) A (call (.type "zip") [.ref a,.ref b]) Q E s:=by
 refine callType_new F.called_zip (by decide) (F.typeCall_zip_2 _ _) (F.newCall_zip_2 _ _) (fun obj=>F.args_object_init_3 obj _ _) F.entry_zip_new (S8 a b xs aA) ⟨aS,aV,?_⟩
 have up:∀{h:bA}{c o o'},h.get? c=J o->(h.push o').get? c=J o:=fun e=>fV _ e
 have s1:(Dn s.heap a).objs.size=s.heap.objs.size+1:=bA.size_push ..
 have s2:(Dp s.heap a b).objs.size=s.heap.objs.size+2:=by rw[bA.size_push,s1]
 have iM:(Dq s.heap a b).objs.size=s.heap.objs.size+3:=by rw[bA.size_push,s2]
 have t5:(Dr s.heap a b).objs.size=s.heap.objs.size+4:=by rw[bA.size_push,iM]
 have GQ:(wM s.heap a b).get? (Dr s.heap a b).objs.size=J _:=hH _ rfl
 have vt:(wM s.heap a b).get? (Dq s.heap a b).objs.size=J _:=up (hH _ rfl)
 have g3:(wM s.heap a b).get? (Dp s.heap a b).objs.size=J _:=up (up (hH _ rfl))
 have g2:(wM s.heap a b).get? (Dn s.heap a).objs.size=J _:=up (up (up (hH _ rfl)))
 have g1:(wM s.heap a b).get? s.heap.objs.size=J _:=up (up (up (up (hH _ rfl))))
 show _/\_
 rw[s2,iM,t5]at GQ
 rw[iM]at vt
 rw[s1,s2]at g3
 rw[s1]at g2
 rw[t5]
 exact⟨⟨_,GQ,I⟩,h _ GQ g3 vt ⟨_,g1,I,I⟩ ⟨_,g2,I,I⟩ fun c o e=>up (up (up (up (up e))))⟩
end
noncomputable def zA(K:bM)(a b:af)(xs aA:List V):kr :=
 ⟨fun i H=>cK K H a xs/\gd K H b aA/\i<min xs.length aA.length,fun i H x H'=>∃(T:af)(u v:V),H T=aw/\xs[i]?=J u/\aA[i]?=J v/\x=.ref T/\H'=upd H T (.tup [u,v]),fun i H=>cK K H a xs/\gd K H b aA/\min xs.length aA.length<=i⟩
theorem fF{xs:Array au}(x:IsTup h a xs):h.IsTuple a xs:=x
theorem X4(a b z dU dw dR da:af)(xs aA:List V)(eC:a≠dR)(dc:b≠da)(D:u2 z dU dw dR da [dR,a] [da,b]):
  Turn P w K (.Tuple elts k aZ) (zA K a b xs aA) [z,dU,dw,dR,da] z (fun i h=>i<=min xs.length aA.length/\IsZip h z dU dw .none/\IsPair h dU (.ref dR) (.ref da)/\(∃a b,IsPair h dw a b)/\h.IsListIter dR a i/\h.IsTupleIter da b i) where
 mem:=by simp
 obj:=fun i h st c hc=>by
  obtain⟨_,ix,i9,⟨p,q,kn⟩,nT,jJ⟩:=st
  rcases c9.mp hc with e|hc
  .subst e;exact⟨_,ix,fun v z=>by cases z⟩
  rcases c9.mp hc with e|hc
  .subst e;exact⟨_,i9,fun v z=>by cases z⟩
  rcases c9.mp hc with e|hc
  .subst e;exact⟨_,kn,fun v z=>by cases z⟩
  rcases c9.mp hc with e|hc
  ·subst e
   obtain⟨o,e,c,d⟩:=nT
   exact⟨o,e,fun v z=>by rw[d]at z;cases z⟩
  ·obtain rfl:=d5.mp hc
   obtain⟨o,e,c,d⟩:=jJ
   exact⟨o,e,fun v z=>by rw[d]at z;cases z⟩
 keep:=fun i h h' st k=>by
  obtain⟨ay,ix,i9,⟨p,q,kn⟩,nT,jJ⟩:=st
  exact⟨ay,k z (by simp) _ ix,k dU (by simp) _ i9,⟨p,q,k dw (by simp) _ kn⟩,nT.at fun o e=>k dR (by simp) o e,Q9 jJ fun o e=>k da (by simp) o e⟩
 item:=by
  intro X cG hw gw hc i ar s U H E aa az st aX
  subst cG hw gw
  obtain⟨oO,mL,ay⟩:=aX
  obtain⟨iv,oZ,cU,yx⟩:=aa.list oO
  obtain⟨eT,o1,cf,yy⟩:=aa.tuple mL
  have HD:=oZ.length
  have HE:=o1.length
  obtain⟨_,ix,i9,⟨yV,aeS,kn⟩,nT,jJ⟩:=st
  have ft:=aa.ok.hd hc
  refine Wt (i:=i) (Draws.list (A:=X.A.in1) ft dR a eC iv.toArray) (Draws.tup (A:=X.A.in1) ft da b dc eT.toArray) D ix i9 kn (by rw[eo];omega) (by rw[eo];omega) ⟨nT,cU.isList⟩ ⟨jJ,fF cf⟩ fun hP dS h' dK kX mN fu f6 hx xM Bx dY=>?_
  refine⟨_,I,wpAny_letOwnedTupleGo_zip fu fun G0 ZL aio=>?_⟩
  have H4:iv[i]?=J hP:=by simpa using kX
  have H5:eT[i]?=J dS:=by simpa using mN
  have lI:xs[i]?=J (xs[i]'(by omega)):=cp _
  have yw:aA[i]?=J (aA[i]'(by omega)):=cp _
  obtain⟨v1,hM,qU⟩:=oZ.get lI
  obtain⟨v2,lH,eU⟩:=o1.get yw
  rw[H4]at hM;cases hM
  rw[H5]at lH;cases lH
  have bZ:s.heap.objs.size<=s.heap.objs.size:=b8 _
  have x9:=aa.aL.fresh bZ
  have lt:∀{c o},s.heap.get? c=J o->c≠s.heap.objs.size:=fun e=>g0 (eS e)
  have CE:∀c∈[z,dU,dw,dR,da],c≠s.heap.objs.size:=fun c eX=>by
   rcases c9.mp eX with e|eX
   .rw[e];exact lt ix
   rcases c9.mp eX with e|eX
   .rw[e];exact lt i9
   rcases c9.mp eX with e|eX
   .rw[e];exact lt kn
   rcases c9.mp eX with e|eX
   .rw[e];obtain⟨o,e,_⟩:=nT;exact lt e
   .rw[d5.mp eX];obtain⟨o,e,_⟩:=jJ;exact lt e
  have v5:bA.ExtBut z h' G0:=aio.extBut
  refine⟨.ref s.heap.objs.size,upd H s.heap.objs.size (.tup [xs[i]'(by omega),aA[i]'(by omega)]),?_,I,⟨_,_,_,x9,lI,yw,I,I⟩,⟨by omega,ZL,v5 _ _ D.TIz (dY _ _ D.TIz D.TITO D.TIi1 D.TIi2 i9),⟨_,_,v5 _ _ D.TOz f6⟩,hx.1.extBut v5 D.i1z,xM.1.extBut v5 D.i2z⟩,fun c eX=>?_⟩
  ·refine aa.Dg (ch:=[z,dw,dR,da]) (t':=dK) (fun c o rO qy=>?_) (fun c eX=>az c ?_) bZ ?_
   ·have nn:∀{d:af},d∈[z,dw,dR,da]->c≠d:=fun hd e=>rO (e ▸ hd)
    exact v5 c o (nn (by simp)) (dY c o (nn (by simp)) (nn (by simp)) (nn (by simp)) (nn (by simp)) qy)
   ·rcases c9.mp eX with e|eX
    .rw[e];simp
    .exact en _ (en _ eX)
   ·refine⟨by show 2<=cj;decide,[hP,dS],.cons qU (.cons eU .nil),?_⟩
    exact⟨_,v5 _ _ (CE z (by simp)).symm Bx,I,_,I⟩
  ·rw[bK (CE c eX)]
   exact(az c eX).1
 done:=by
  intro X cG hw gw hc i ar s U H E aa az st aX
  subst cG hw gw
  obtain⟨oO,mL,ay⟩:=aX
  obtain⟨iv,oZ,cU,yx⟩:=aa.list oO
  obtain⟨eT,o1,cf,yy⟩:=aa.tuple mL
  have HD:=oZ.length
  have HE:=o1.length
  obtain⟨hle,ix,i9,⟨yV,aeS,kn⟩,nT,jJ⟩:=st
  have ft:=aa.ok.hd hc
  refine WY (i:=i) (Draws.list (A:=X.A.in1) ft dR a eC iv.toArray) (Draws.tup (A:=X.A.in1) ft da b dc eT.toArray) D ix i9 kn (by rw[eo,eo];omega) ⟨nT,cU.isList⟩ ⟨jJ,fF cf⟩ fun h' dK dY=>⟨I,aa.Jg (ch:=[z,dw,dR,da]) (t':=dK) (fun c o rO qy=>?_) fun c eX=>az c ?_⟩
  ·have nn:∀{d:af},d∈[z,dw,dR,da]->c≠d:=fun hd e=>rO (e ▸ hd)
   exact dY c o (nn (by simp)) (nn (by simp)) (nn (by simp)) (nn (by simp)) qy
  ·rcases c9.mp eX with e|eX
   .rw[e];simp
   .exact en _ (en _ eX)
 self:=fun A i s Q E st h=>wpAny_pyIter_zip st.2.1 h
section
variable {X:bS}
def adr(K:bM)(cH:h4):dU:=fun U H R=>cH U H fun vs H1=>∃a b xs aA,vs=[.ref a,.ref b]/\cK K H1 a xs/\gd K H1 b aA/\R (zA K a b xs aA) H1
theorem Mf{l m:cO}{p:Pos}(aX:jr X "zip")(hm:X.mg "zip"=aw)(aJ:iQ X [l,m] cH)(hs:ek [l,m] X.env=[(aF,eval l X.env),(aF,eval m X.env)]:=by rfl)(c1:ek [m] X.env=[(aF,eval m X.env)]:=by rfl):
  jw X (.Tuple elts k wG) (.Call (.Name "zip" p) [l,m] [] aZ) (adr X.K cH):=by
 intro ar s U H R aa h
 refine Call_ (ot aa aX hm boot_zip (PyProof.Rows.callWith_type1 (dm (aJ aZ ar s U H (fun vs H1=>∃a b xs aA,vs=[.ref a,.ref b]/\cK X.K H1 a xs/\gd X.K H1 b aA/\R (zA X.K a b xs aA) H1) aa h) fun us s1 ⟨vs,H1,bC,cv,cu⟩=>?_) (by rw[hs,c1]) (by rw[c1];rfl)))
 obtain⟨a,b,xs,aA,rfl,oO,mL,q⟩:=cu
 obtain⟨hP,dS,rfl,qU,eU⟩:=vals2 cv
 obtain rfl:hP=au.ref a:=qU
 obtain rfl:dS=au.ref b:=eU
 obtain⟨iv,oZ,cU,yx⟩:=bC.list oO
 obtain⟨eT,o1,cf,yy⟩:=bC.tuple mL
 have cq:a<s1.heap.objs.size:=by obtain⟨o,aH,_⟩:=cU.isList;exact eS aH
 have cR:b<s1.heap.objs.size:=by obtain⟨o,aH,_⟩:=fF cf;exact eS aH
 refine SZ cU.isList (fF cf) fun h' cP cL fL mU pe dY=>?_
 have cJ:Inv X ar U H1 {s1 with heap:=h'}:=bC.kept (t':=s1.toks) dY
 refine wpAny_pyIter_zip cP ?_
 refine⟨_,_,_,_,H1,I,cJ,X4 a b _ _ _ _ _ xs aA (g0 cq) (g0 (Nat.lt_succ_of_lt cR)) (aiI cq cR),⟨UF _,cP,cL,⟨_,_,fL⟩,mU,pe⟩,fun c hc=>?_,q⟩
 have mE:s1.heap.objs.size<=c:=by
  rcases c9.mp hc with e|hc
  .rw[e];exact Nat.le_add_right ..
  rcases c9.mp hc with e|hc
  .rw[e];exact Nat.le_add_right ..
  rcases c9.mp hc with e|hc
  .rw[e];exact Nat.le_add_right ..
  rcases c9.mp hc with e|hc
  .rw[e];exact b8 _
  .rw[d5.mp hc];exact Nat.le_succ _
 exact bC.pO mE (bC.aL.fresh mE)
end
theorem LA{b:af}{Q:bJ}{D:af}(hz:Nat->V)(S:St->Prop)(bz:min xs.length aA.length<=100000)(bg:S eV)(dB:H D=aw)(kC:cK K H a xs)(fQ:gd K H b aA)
  (aM:∀i x y,xs[i]?=J x->aA[i]?=J y->∀bL H1 T,S bL->ef H H1->H1 T=aw->∀R:St->V->aq->Prop,(∀bu bQ,S bu->ef (upd H1 T (.tup [x,y])) bQ->R bu (hz i) bQ)->g (.ref T) bL (upd H1 T (.tup [x,y])) fun bu av=>cI bu av fun z bQ=>R bu z bQ)
  (bj:∀H':aq,ef H H'->H' D=J (.lst ((List.range (min xs.length aA.length)).map hz))->Q (.ref D) H') :
  lO (zA K a b xs aA) g pY cI Q eV H D:=by
 refine⟨fun i m bL av=>i<=min xs.length aA.length/\m=min xs.length aA.length-i/\S bL/\ef H av/\av D=J (.lst ((List.range i).map hz)),⟨min xs.length aA.length,UF _,I,bg,dg dB,aG⟩,?_⟩
 rintro i m bL av ⟨ai,rfl,aj,hs,iZ⟩
 have cu:=hs.seq kC
 have bX:gd K av b aA:=fQ.elim (fun e =>.inl (e.elim (fun e =>.inl (hs _ _ e)) fun⟨o,e⟩ =>.inr ⟨o,hs _ _ e⟩)) .inr
 rcases g4 i (min xs.length aA.length)with z|z
 ·refine .inr ⟨⟨cu,bX,z⟩,?_⟩
  rintro x bQ ⟨T,u,v,bZ,cC,br,rfl,rfl⟩
  refine aM i u v cC br bL av T aj hs bZ (fun bu y d9=>∃zs bY,d9 D=J (.lst zs)/\zs.length<cj/\bY<min xs.length aA.length-i/\(i+1<=min xs.length aA.length/\bY=min xs.length aA.length-(i+1)/\S bu/\ef H (upd d9 D (.lst (zs++[y])))/\upd d9 D (.lst (zs++[y])) D=J (.lst ((List.range (i+1)).map hz)))) fun bu d9 fS yr=>?_
  have Ip:D≠T:=fun e=>by rw[e,bZ]at iZ;cases iZ
  refine⟨(List.range i).map hz,min xs.length aA.length-(i+1),yr _ _ (by rw[bK Ip];exact iZ),?_,by omega,by omega,rfl,fS,?_,?_⟩
  ·rw[cw,kQ]
   exact fB (show i<100000 by omega) (by decide)
  ·intro c o e
   rw[bK (f5 e dB)]
   refine yr c o ?_
   rw[bK (fun e'=>by rw[e',hs.free bZ]at e;cases e)]
   exact hs c o e
  .rw[aG,List.range_succ,fo];rfl
 ·have e:i=min xs.length aA.length:=by omega
  subst e
  exact .inl ⟨⟨cu,bX,b8 _⟩,bj av hs iZ⟩
noncomputable def inD(ns:List ae):D->Bool
 |.str s=>ns.any fun n=>n == s
 |_=>aF
noncomputable def BJ(d:D)(u:au):Bool:=match u with
 |.str n _=>(match d with|.str s=>n == s|_=>aF)
 |_=>aF
theorem MB(d:D):∀{ns:List ae}{us:List au},Vals (ns.map V.str) us->us.any (BJ d)=inD ns d
 |[],us,h=>by cases h;cases d<;>rfl
 |n::ns,us,h=>by
  obtain⟨u,r,rfl,⟨t,rfl⟩,ax⟩:∃u r,us=u::r/\RelV (.str n) u/\Vals (ns.map V.str) r:=by cases h with|cons a b=>exact⟨_,_,I,a,b⟩
  rw[List.any_cons,MB d ax]
  cases d<;>rfl
theorem LV{u:au}:∀{ns:List ae}{us:List au},Vals (ns.map V.str) us->u∈us->∃n t,u=.str n t
 |[],us,h,cC=>by cases h;cases cC
 |n::ns,us,h,cC=>by
  obtain⟨v,r,rfl,⟨t,rfl⟩,ax⟩:∃u r,us=u::r/\RelV (.str n) u/\Vals (ns.map V.str) r:=by cases h with|cons a b=>exact⟨_,_,I,a,b⟩
  rcases c9.mp cC with rfl|cC
  .exact⟨n,t,I⟩
  .exact LV ax cC
section
variable {X:bS}
theorem Yq(cC:X.A.units+64<cLine):dQ X (gW .NotIn) (fun x y H Q=>∃p ns d,y=.ref p/\cK X.K H p (ns.map V.str)/\c3 H d x/\Q (.aQ (!inD ns d)) H):=by
 intro ar s U H x y v u Q aa bp cn h
 obtain⟨p,ns,d,rfl,bj,hd,q⟩:=h
 cases cn
 obtain⟨bt,r,pl,bz⟩:=aa.list bj
 have kX:X.A.in1.units<cLine:=by show X.A.units+1<cLine;omega
 refine SeqAt.notIn_listAt (BJ d) pl.isList (fun w hw=>?_) ⟨.aQ _,H,aa,I,?_⟩
 ·obtain⟨n,t,rfl⟩:=LV r (by simpa using hw)
  cases d with
  |aT=>obtain rfl:x=.aT:=hd;cases bp;exact SeqAt.EqAt.str_none n t
  |aQ b=>obtain rfl:x=.aQ b:=hd;cases bp;exact SeqAt.EqAt.str_bool n t b
  |int i=>obtain rfl:x=.int i:=hd;obtain⟨t',rfl⟩:=bp;exact SeqAt.EqAt.str_int n t i t'
  |str z=>obtain⟨rfl,_⟩:=hd;obtain⟨t',rfl⟩:=bp;exact SeqAt.EqAt.str_str n t z t'
  |tup ds =>
   obtain⟨a,vs,rfl,e,_⟩:=hd
   cases bp
   obtain⟨its',eD,tQ,_⟩:=aa.tuple (gd.of e)
   exact SeqAt.EqAt.str_tuple n t (fF tQ) kX
  |lst ds =>
   obtain⟨a,vs,rfl,e,_⟩:=hd
   cases bp
   obtain⟨its',eD,tQ,_⟩:=aa.list (cK.of e)
   exact SeqAt.EqAt.str_list n t tQ.isList kX
 ·rw[show bt.toArray.any (BJ d)=bt.any (BJ d) by simp,MB d r]
  exact q
end
variable {f:ba}
theorem ng{k:Fin 4}(h:slot f=.b k):f=.bare k:=by
 cases f with
 |bare j=>injection h with h;rw[h]
 |sp a b=>cases h
 |le s=>cases h
 |one j f=>cases h
 |two j ns fs=>cases h
theorem FX(h:slot f=.s):∃a b,f=.sp a b:=by
 cases f with
 |sp a b=>exact⟨a,b,I⟩
 |bare j=>cases h
 |le s=>cases h
 |one j f=>cases h
 |two j ns fs=>cases h
theorem FY(h:slot f=.l):∃s,f=.le s:=by
 cases f with
 |le s=>exact⟨s,I⟩
 |sp a b=>cases h
 |bare j=>cases h
 |one j f=>cases h
 |two j ns fs=>cases h
theorem qd{k:Fin 3}(h:slot f=.o k):∃g,f=.one k g:=by
 cases f with
 |one j g=>injection h with h;rw[h];exact⟨g,I⟩
 |sp a b=>cases h
 |bare j=>cases h
 |le s=>cases h
 |two j ns fs=>cases h
theorem u4{k:Fin 2}(h:slot f=.t k):∃ns fs,f=.two k ns fs:=by
 cases f with
 |two j ns fs=>injection h with h;rw[h];exact⟨ns,fs,I⟩
 |sp a b=>cases h
 |bare j=>cases h
 |le s=>cases h
 |one j f=>cases h
theorem eK.get{c:eQ}{X:List af}{H:aq}:∀(fs:List ba){os:List af}{i:Nat}{o:af},eK c X H fs os->os[i]?=J o->∃f,fs[i]?=J f/\cd c X H f o
 |[],os,i,o,h,e=>by
  obtain rfl:os=[]:=h
  cases e
 |f::fs,os,0,o,h,e=>by
  obtain⟨o',r,rfl,q,bX⟩:=h
  cases e
  exact⟨f,I,q⟩
 |f::fs,os,i+1,o,h,e=>by
  obtain⟨o',r,rfl,q,bX⟩:=h
  exact eK.get fs bX e
theorem FJ:∀{fs:List ba}{i:Nat}{f:ba},sb fs->fs[i]?=J f->mR f/\aM f<=f7 fs
 |[],i,f,h,e=>by cases e
 |g::fs,0,f,h,e=>by
  cases e
  rw[sb]at h
  rw[f7]
  exact⟨h.1,Nat.le_max_left ..⟩
 |g::fs,i+1,f,h,e=>by
  rw[sb]at h
  have:=FJ h.2 e
  rw[f7]
  exact⟨this.1,dE this.2 (Nat.le_max_right ..)⟩
theorem vr:∀k:Fin 4,k=0\/k=1\/k=2\/k=3:=by decide
theorem rH:∀k:Fin 3,k=0\/k=1\/k=2:=by decide
theorem td:∀k:Fin 2,k=0\/k=1:=by decide
section
variable {P:dA} {w:cZ} {K:bM} {mg:ae->Option au} {base:bA}
structure MethAt(K:bM)(C:af)(m eW:ae)(st:bD)(aK:List ae):Prop where
 ex:∃f fd,dG K m eW st f fd/\Binds K fd aK []/\uQ K C m f
 cl:fY K C
theorem Fw{m:ae}{st:bD}{sp:cD}(M:MethAt K C m eW st aK)(h:∀vs H Q E,¬sp vs H Q E):hb P w K mg base k C m aK sp:=by
 obtain⟨f,fd,F,ag,hm⟩:=M.ex
 exact⟨f,fd,⟨fun vs H Q E q=>absurd q (h _ _ _ _),fun A outer s H args us vs Q E _ _ _ _ q=>absurd q (h _ _ _ _)⟩,ag,hm⟩
end
mutual
noncomputable def oT(has:e7->Bool):ba->Prop
 |.bare k=>has (.b k)=ah
 |.sp _ _=>has .s=ah
 |.le _=>has .l=ah
 |.one k f=>has (.o k)=ah/\oT has f
 |.two k _ fs=>has (.t k)=ah/\r2 has fs
noncomputable def r2(has:e7->Bool):List ba->Prop
 |[]=>True
 |f::fs=>oT has f/\r2 has fs
end
def lJ(has:e7->Bool)(f:ba):Prop:=mR f/\oT has f
def CR(has:e7->Bool)(fs:List ba):Prop:=sb fs/\r2 has fs
variable {has:e7->Bool}
theorem lJ.one{k:Fin 3}(h:lJ has (.one k f)):lJ has f:=by
 obtain⟨a,b⟩:=h
 rw[mR]at a
 rw[oT]at b
 exact⟨a,b.2⟩
theorem lJ.two{k:Fin 2}{fs:List ba}(h:lJ has (.two k ns fs)):lC ns=ah/\ns.length=fs.length/\CR has fs:=by
 obtain⟨a,b⟩:=h
 rw[mR]at a
 rw[oT]at b
 exact⟨a.1,a.2.1,a.2.2,b.2⟩
theorem L0{has:e7->Bool}:∀{fs:List ba}{i:Nat}{f:ba},r2 has fs->fs[i]?=J f->oT has f
 |[],i,f,h,e=>by cases e
 |g::fs,0,f,h,e=>by
  cases e
  rw[r2]at h
  exact h.1
 |g::fs,i+1,f,h,e=>by
  rw[r2]at h
  exact L0 h.2 e
theorem CR.get{fs:List ba}(h:CR has fs)(e:fs[i]?=J f):lJ has f/\aM f<=f7 fs :=
 ⟨⟨(FJ h.1 e).1,L0 h.2 e⟩,(FJ h.1 e).2⟩
theorem SM{l:List Nat}(h:l[i]?=J c)(hk:∀k,k<i->l[k]?≠J c):l.idxOf c=i:=by
 induction l generalizing i with
 |nil=>cases h
 | cons a r bT =>
  cases i with
  |zero=>cases h;rw[List.idxOf_cons_self]
  |succ i =>
   have aJ:a≠c:=fun e=>hk 0 (by omega) (by rw[e];rfl)
   have ag:(a == c)=aF:=by simpa using aJ
   rw[List.idxOf_cons,ag]
   show r.idxOf c+1=i+1
   rw[bT h fun k vO e=>hk (k+1) (by omega) e]
section
variable {X:bS}
theorem Fj:sH X "str.index" (fun x xs H Q=>∃(y:ae)(c:Nat),x=.str y/\xs=[.str ⟨#[c]⟩]/\c∈y.cps.toList/\Q (.int ((y.cps.toList.idxOf c:Nat):Int)) H):=by
 intro ar s U H x xs v us Q aa bp d0 h
 obtain⟨y,c,rfl,rfl,hc,q⟩:=h
 obtain⟨t,rfl⟩:=bp
 obtain⟨u,rfl,t',rfl⟩:=d0.one
 rcases StrLaws.occ_head y ⟨#[c]⟩ 1 (b8 _)with⟨_,no⟩|⟨i,r,aH,jk,yn⟩
 ·obtain⟨i,ay⟩:=List.getElem?_of_mem hc
  exact absurd ((StrLaws.subAt_one y c i).mpr ay) (no i)
 ·have e:=SM ((StrLaws.subAt_one y c i).mp jk) fun k hk z=>yn k hk ((StrLaws.subAt_one y c k).mpr z)
  rw[e]at q
  exact call_gives F.slot_str_index (typeIs_str s y t) F.entry_str_index (F.args_str_index_2 _ _) (gives_str_index y ⟨#[c]⟩ t t' i r aH) ⟨.int _,H,aa.tok _,⟨_,I⟩,q⟩
end
theorem Yw{e:au}{M7:Env}(h:env.frame=M7.frame):noteFrame e env=noteFrame e M7:=by
 unfold noteFrame PySem.frameOf
 rw[h]
theorem Mk{h h' base:bA}:∀{l:List Env},h.FunFrames base l->(∀b o,b∈l.filterMap (·.frame)->h.get? b=J o->(∀vs,o.data≠.fields vs)->h'.get? b=J o)->h'.FunFrames base l
 |[],_,_=>trivial
 |env::rest,aD,k=>by
  obtain⟨hk,⟨L,o,az,aW,aH,hd⟩,ax⟩:=aD
  have hm:L∈(env::rest).filterMap (·.frame):=by rw[List.filterMap_cons,az];exact gF
  refine⟨hk,⟨L,o,az,aW,k L o hm aH hd,hd⟩,Mk ax fun b o ag=>k b o ?_⟩
  rw[List.filterMap_cons,az]
  exact en _ ag
section
variable {M:Model} {A:dF} {E:au->aO->Prop} {s:aO} {base:bA} {env:Env} {outer:List Env} {L e T:af} {Q:Unit->aO->Prop} {cls:au} {d:Option af} {fi:au}
theorem aeC(tu:A.frames=J (env::outer))(aD:s.heap.FunFrames base (env::outer))(az:env.frame=J L)(aM:ps s.heap e cls d T fi)
  (h:∀h' eR,ps h' e cls d eR (rawInt L)->(eR=T\/s.heap.get? eR=aw)->h'.FunFrames base (env::outer)->Ej ((env::outer).filterMap (·.frame)) e (J T) s.heap h'->Q () {s with heap:=h'}):bN M A (noteFrame (.ref e) env) Q E s:=by
 by_cases z:fi=rawInt L
 ·subst z
  obtain⟨g7,vs,k1,jK,he,hc,mG,hd,ai,l3,bZ,il,bE,rP⟩:=id aM
  exact wpAny_noteFrame_inFlight az he hd ai bZ il bE (h s.heap T aM (.inl I) aD ⟨fun b o _ _ _ e=>e,fun b o _ _ e=>⟨o.slots,e⟩⟩)
 obtain⟨g7,vs,k1,jK,he,hc,mG,hd,ai,l3,bZ,il,bE,rP⟩:=aM
 unfold noteFrame
 simp only[az]
 refine bF (jb he hd ai ?_)
 rw[if_pos (show(au.ref T != au.none)=ah from by simp)]
 refine bF (jb bZ il bE ?_)
 rw[if_neg (show ¬((fi == rawInt L)=ah)from fun y=>z (beq_iff_eq.mp y))]
 refine bF (uw bZ il (Array.getElem?_eq_some_iff.mp bE).1 ?_)
 have other:∀b,b≠T->(s.heap.update T (bU.mapFields (·.setIfInBounds 3 au.none))).get? b=s.heap.get? b:=fun b ag=>bA.get?_update_other _ _ (eF ag)
 have tM:∀b o,s.heap.get? b=J o->(∀vs,o.data≠.fields vs)->b≠T:=fun b o ag jV q=>by
  rw[q,bZ]at ag;injection ag with ag;subst ag;exact jV jK il
 have back:∀b,(s.heap.update T (bU.mapFields (·.setIfInBounds 3 au.none))).get? b=aw->s.heap.get? b=aw:=fun b ag=>by
  by_cases wN:b=T
  ·subst wN
   rw[bA.get?_update_self _ bZ (bU.isFreed_of_fields (bU.data_mapFields il _))]at ag;cases ag
  .rw[other b wN]at ag;exact ag
 subst hc
 refine M6 (s:={s with heap:=s.heap.update T (bU.mapFields (·.setIfInBounds 3 au.none))}) tu (aD.of_keeps fun b o ag jV=>⟨o,(other b (tM b o ag jV)).trans ag,I⟩) az ((other e (eF l3)).trans he) hd (Array.getElem?_eq_some_iff.mp ai).1 mG fun h' eR k8 fz zl q2=>?_
 exact h h' eR k8 (.inr (back _ fz)) zl ⟨fun b o ai aj bE cQ=>q2.keep b o ai (by simp) bE ((other b (fun z=>aj (by rw[z]))).trans cQ),fun b o ai aj cQ=>q2.slot b o ai (by simp) ((other b (fun z=>aj (by rw[z]))).trans cQ)⟩
end
structure J1(fs Z:List af)(h h':bA):Prop where
 keep:∀b o,b∉Z->b∉fs->h.get? b=J o->h'.get? b=J o
 slot:∀b o,b∉Z->h.get? b=J o->∃dp,h'.get? b=J {o with slots:=dp}
theorem Te{s1:aO}{Z:List af}(aa:Inv X ar U H1 s1)(ao:X.ex=[])(S:J1 (kf X.stack) Z s1.heap h')
  (CO:∀z,z∈Z->X.eE.heap.get? z=aw) (BO:∀z,z∈Z->H1 z=aw):gR (kf X.outer) [] X.jt H1 X.eE.heap h'/\f3 X.prog X.w H1 h':=by
 have B:=aa.base
 rw[ao]at B
 have Ir:∀b o,X.eE.heap.get? b=J o->b∉Z:=fun b o e z=>by rw[CO b z]at e;cases e
 have CJ:∀b o,X.eE.heap.get? b=J o->b≠X.env.locals:=fun b o e=>g0 (fB (eS e) aa.ok.above)
 refine⟨⟨fun b o e n ag ao=>?_,fun b o e n ag ao=>?_,B.free,fun b o e ao=>?_,B.pa,B.nq,B.o9⟩,fun b u e=>(aa.aL b u e).sg (fun c v hc q=>?_) (fun _ q=>q) fun _ _ q=>q⟩
 ·refine S.keep b o (Ir b o e) (fun z=>?_) (B.keep b o e n ag ao)
  exact(c9.mp (aa.ze b z)).elim (CJ b o e) ag
 ·obtain⟨dp,aS⟩:=B.slot b o e n ag ao
  obtain⟨wt,aV⟩:=S.slot b _ (Ir b o e) aS
  exact⟨wt,aV⟩
 ·obtain⟨o',aS⟩:=B.there b o e ao
  obtain⟨wt,aV⟩:=S.slot b _ (Ir b o e) aS
  exact⟨_,aV⟩
 ·have rO:∃z,H1 c=J z:=by
   rcases hc with rfl|hc
   .exact⟨_,e⟩
   .exact⟨_,hc⟩
  obtain⟨z,bz⟩:=rO
  refine S.keep c v (fun y=>?_) (fun y=>?_) q
  .rw[BO c y]at bz;cases bz
  .rw[aa.I6 c y]at bz;cases bz
noncomputable def Il(X:bS)(E:cN):au->aO->Prop:=fun e bl=>bN (model X.prog X.w) X.A (leaving X.env e) (fun _ o2=>DA X.prog X.w X.outer X.jt X.eE E e o2) (fun e' o2=>DA X.prog X.w X.outer X.jt X.eE E e' o2) bl
theorem X2{E:cN}{xO:Env}{gV:aO}{Cl:af}{d:Option af}
  (Ib:X.xe=Il X E) (hs:X.stack=X.env::X.outer) (az:X.env.frame=J X.env.locals) (hex:X.ex=[]) (aa:Inv X ar U av gV) (x1:ps gV.heap a (.ref C) d T .none) (fa:av a=aw) (GN:av T=aw)
  (CG:X.eE.heap.get? a=aw) (kE:X.eE.heap.get? T=aw) (q:E (.ref C) d av) (qF:av Cl=aw) (CC:X.eE.heap.get? Cl=aw) (abu:Cl∉kf X.stack) (abD:∃m,gV.heap.Ns Cl m) (Hk:xO.frame=X.env.frame) :
  notedBy (model X.prog X.w) X.A xO (fun e bl=>compPost (model X.prog X.w) X.A X.xe use Qf acc Cl (.error e) bl) (.ref a) gV:=by
 unfold notedBy
 rw[Yw Hk]
 have fr:X.A.frames=J (X.env::X.outer):=aa.ok.frames.trans (congrArg J hs)
 have fst:gV.heap.FunFrames X.base (X.env::X.outer):=hs ▸ aa.stack
 have M4:kf X.stack=(X.env::X.outer).filterMap (·.frame):=by rw[hs];rfl
 have Nx:Cl∉(X.env::X.outer).filterMap (·.frame):=by rw[<-M4];exact abu
 refine aeD fr fst az x1 fun oA eR k8 fz zl q2=>?_
 suffices yf:∃m,oA.Ns Cl m/\∀h',bA.SameBut Cl oA h'->∀xO:Env,xO.locals=Cl->bN (model X.prog X.w) X.A (PySem.passOn "comprehension.variables-let-go" (.ref a) xO:Sem au) (fun _ _=>False) X.xe {gV with heap:=h'} by
  cases use<;>exact yf
 obtain⟨m,CP,es,gu,HJ,NV,agS⟩:=abD
 have It:∀{h:bA}{b:af}{o:bU}{vs:Array au},h.get? b=J o->o.data=.fields vs->h.get? Cl=J CP->b≠Cl:=fun aS aV gh z=>by
  subst z
  rw[aS]at gh;cases gh
  rw[NV]at aV;cases aV
 have BS:Cl≠a:=by
  obtain⟨g7,vs,k1,jK,he,hc,mG,hd,_⟩:=x1
  exact(It he hd HJ).symm
 have abr:Cl≠T:=by
  obtain⟨g7,vs,k1,jK,he,hc,mG,hd,ai,l3,bZ,il,_⟩:=x1
  exact(It bZ il HJ).symm
 have tO:oA.get? Cl=J CP:=q2.keep Cl CP BS (fun z=>abr (e8 z)) Nx HJ
 refine⟨m,⟨CP,es,gu,tO,NV,agS⟩,fun h' nS MV _=>?_⟩
 obtain⟨g7,vs,k1,jK,he,hc,mG,hd,ai,l3,bZ,il,bE,rP⟩:=id k8
 have abt:eR≠Cl:=It bZ il tO
 have ts:h'.get? a=J g7:=nS.extBut a g7 (eF BS) he
 have vD:h'.get? eR=J k1:=nS.extBut _ _ abt bZ
 have ys:3<jK.size:=(Array.getElem?_eq_some_iff.mp bE).1
 have step:bN (model X.prog X.w) X.A (setFlight (.ref a) MV.frame) (fun _ nU=>X.xe (.ref a) nU) X.xe {gV with heap:=h'}:=by
  unfold setFlight
  refine bF (jb ts hd ai ?_)
  rw[if_pos (show(au.ref eR != au.none)=ah from by simp)]
  refine uw vD il ys ?_
  generalize jE:(MV.frame.elim au.none fun f=>rawInt f)=fi
  have other:∀b,b≠eR->(h'.update eR (bU.mapFields (·.setIfInBounds 3 fi))).get? b=h'.get? b:=fun b ag=>bA.get?_update_other _ _ (eF ag)
  have Nq:ps (h'.update eR (bU.mapFields (·.setIfInBounds 3 fi))) a (.ref C) d eR fi:=⟨g7,vs,_,_,(other a (eF l3)).trans ts,hc,mG,hd,ai,l3,bA.get?_update_self _ vD (bU.isFreed_of_fields (bU.data_mapFields il _)),bU.data_mapFields il _,by simp[ys],rP⟩
  have Cv:∀b o,b≠Cl->b≠eR->oA.get? b=J o->(h'.update eR (bU.mapFields (·.setIfInBounds 3 fi))).get? b=J o:=fun b o gG eZ e=>(other b eZ).trans (nS.extBut b o gG e)
  have Nn:(h'.update eR (bU.mapFields (·.setIfInBounds 3 fi))).FunFrames X.base (X.env::X.outer):=Mk zl fun b o ag e jV=>Cv b o (fun z=>Nx (z ▸ ag)) (fun z=>by
   rw[z,bZ]at e;cases e;exact jV jK il) e
  generalize (h'.update eR (bU.mapFields (·.setIfInBounds 3 fi)))=x4 at Nq Nn Cv ⊢
  rw[Ib]
  unfold Il leaving
  refine bF (aeC (s:={gV with heap:=x4}) fr Nn az Nq fun mB mm q4 ko Jr Rj=>?_)
  refine adD (s:={gV with heap:=mB}) Jr q4 fun Nv cP cL fL=>?_
  have yN:∀b o,gV.heap.get? b=J o->b≠eR:=fun b o e z=>by rw[z,fz]at e;cases e
  have Q8:∀b o,b∉[a,T,Cl]->gV.heap.get? b=J o->∃dp,x4.get? b=J {o with slots:=dp}:=fun b o ag e=>by
   simp only[c9,List.not_mem_nil,or_false,not_or]at ag
   obtain⟨dp,xQ⟩:=q2.slot b o ag.1 (fun z=>ag.2.1 (e8 z)) e
   exact⟨dp,Cv b _ ag.2.2 (yN b o e) xQ⟩
  have Iq:∀b o,b∉[a,T,Cl]->gV.heap.get? b=J o->b≠mm:=fun b o ag e z=>by
   rcases ko with y|y
   .exact yN b o e (z.trans y)
   ·obtain⟨dp,BE⟩:=Q8 b o ag e
    have q3:x4.get? mm=aw:=y
    rw[z,q3]at BE;cases BE
  have S:J1 (kf X.stack) [a,T,Cl] gV.heap Nv:=by
   refine⟨fun b o ag tq e=>?_,fun b o ag e=>?_⟩
   ·have lE:=ag
    simp only[c9,List.not_mem_nil,or_false,not_or]at lE
    rw[M4]at tq
    refine fL b o (Iq b o ag e) (Rj.keep b o lE.1 (fun z=>yN b o e (e8 z)) tq ?_)
    exact Cv b o lE.2.2 (yN b o e) (q2.keep b o lE.1 (fun z=>lE.2.1 (e8 z)) tq e)
   ·have lE:=ag
    simp only[c9,List.not_mem_nil,or_false,not_or]at lE
    obtain⟨dp,BE⟩:=Q8 b o ag e
    obtain⟨wt,Z2⟩:=Rj.slot b _ lE.1 (fun z=>yN b o e (e8 z)) BE
    exact⟨wt,fL b _ (Iq b o ag e) Z2⟩
  have CO:∀z,z∈[a,T,Cl]->X.eE.heap.get? z=aw:=fun z bz=>by
   simp only[c9,List.not_mem_nil,or_false]at bz
   rcases bz with rfl|rfl|rfl
   .exact CG
   .exact kE
   .exact CC
  have BO:∀z,z∈[a,T,Cl]->av z=aw:=fun z bz=>by
   simp only[c9,List.not_mem_nil,or_false]at bz
   rcases bz with rfl|rfl|rfl
   .exact fa
   .exact GN
   .exact qF
  obtain⟨u,hk⟩:=Te aa hex S CO BO
  have OX:mm∉[a,T,Cl]->gV.heap.get? mm=aw:=fun bz=>by
   cases e:gV.heap.get? mm with
   |none=>rfl
   |some o=>exact absurd I (Iq mm o bz e)
  have f2:av mm=aw:=by
   by_cases bz:mm∈[a,T,Cl]
   .exact BO _ bz
   .exact aa.aL.none (OX bz)
  have dc:X.eE.heap.get? mm=aw:=by
   by_cases bz:mm∈[a,T,Cl]
   .exact CO _ bz
   ·cases e:X.eE.heap.get? mm with
    |none=>rfl
    |some o =>
     obtain⟨o',e'⟩:=aa.base.there mm o e (by rw[hex];simp)
     rw[OX bz]at e';cases e'
  exact⟨a,C,d,av,mm,I,aa.os,aa.bare,u,hk,cP,fa,f2,CG,dc,q⟩
 unfold PySem.passOn
 refine bF (jb ts hd ai ?_)
 rw[if_neg (show ¬((au.ref eR == au.none)=ah)from by simp)]
 exact bF (dm step fun _ nU h=>wpAny_throw h)
noncomputable def ZQ(Y:bS)(E:cN):au->aO->Prop:=fun e bl=>∃(ar:List (af×bU))(bL:St)(H1:aq)(s1:aO),Inv Y ar bL H1 s1/\DA Y.prog Y.w Y.stack H1 s1 E e bl
noncomputable def pK(X:bS)(E:cN)(dC:Scope)(cl:List (ae×af))(C:af)(N:List ae)(s2:aO)(av:aq)(b7:List af):bS:=(Gr X dC cl C N s2 av b7).pb (ZQ (Gr X dC cl C N s2 av b7) E)
section
variable {X:bS} {elt jc iter:cO} {ifs:List cO} {dC:Scope} {aZ p:Pos} {gg:List (Nat×ae)} {g9:List ae} {iO:dU} {g:gC} {gb:gQ} {cI:TE}
set_option maxHeartbeats 1000000
theorem K0{E:cN}{s:aO}{Q:bJ}
  (ac8:(X.xe=Il X E/\X.stack=X.env::X.outer/\X.env.frame=J X.env.locals/\X.ex=[])\/∀c d H,¬E c d H) (hc:X.calm=ah) (vS:Bz dC (gg.map (·.2))=ah) (yc:so X gg) (ay:jw X jc iter iO)
  (aX:∀cl C s2 av b7,qi (pK X E dC cl C (g9++gg.map (·.2)) s2 av b7) jc g)
  (aM:∀cl C s2 av b7,uT (pK X E dC cl C (g9++gg.map (·.2)) s2 av b7) ifs gb)
  (he:∀cl C s2 av b7,cz (pK X E dC cl C (g9++gg.map (·.2)) s2 av b7) elt cI)
  (aa:Inv X ar U H s) (h:I8 iO g gb cI (pJ g9 gg) U H Q)
  (ck:∀D C H' bl,Inv X ar U H' bl->Q (.ref D) H'->H' C=aw->C≠X.env.locals->X.eE.heap.objs.size<=C->(∀x c,X.env.cells.lookup x=J c->c≠C)->(∀p∈X.nR++ar,p.1≠C)->(∃m,bl.heap.Ns C m)->
   compPost (model X.prog X.w) X.A X.xe use Qf (.ref D) C (.ok .next) bl)
  (hs:∀x,foldedSetIterable iter X.env x=pure x:=by intro _;rfl) :
  bN (model X.prog X.w) X.A (comprehension (.ListComp elt [⟨jc,iter,ifs,0⟩] dC aZ) dC X.env p (newList []) aF (eval iter X.env) use) Qf X.xe s:=by
 simp only[Bz,gZ,e9,beq_iff_eq,bne_iff_ne,Bool.or_eq_true,List.contains_iff_mem]at vS
 obtain⟨⟨⟨⟨mb,mc⟩,vY⟩,adz⟩,adA⟩:=vS
 have acw:∀y∈dC.names,y.2=.local->dC.names.lookup y.1=J .local:=fun y aU aD=>(vY y aU).resolve_left fun z=>z aD
 have MU:=yc.at
 have tu:∀y∈dC.names,y.2=.free->∃c,X.env.cells.lookup y.1=J c:=fun y aU az=>by
  have hm:=(adz y aU).resolve_left fun z=>z az
  obtain⟨q,bj,e⟩:=List.mem_map.mp hm
  have:=(MU q bj).2
  rw[e]at this
  exact aa.ok.has _ this
 obtain⟨cl,mE,gi,fI,_⟩:=Fn dC.names tu [] (fun x c e=>by cases e)
 have abN:closureFor dC X.env=pure cl:=by
  refine(show closureFor dC X.env=(_ >>= pure)from rfl).trans ((congrArg (· >>= pure) mE).trans ?_)
  rfl
 refine wpAny_comprehension_free (use:=use) I hs abN mb acw (dm (ay ar s U H _ aa h) fun v s1 ai=>dm ai fun Ii s2 aj=>?_)
 obtain⟨it,b7,iN,el,av,e,cJ,T,i9,f2,abF⟩:=aj
 subst e
 have Nm:av s2.heap.objs.size=aw:=cJ.fresh
 obtain⟨W,⟨m0,hD⟩,turn⟩:=abF _ Nm
 refine wpAny_newObj_type (wpAny_newFunctionEnv mc (by intro y aU;simp at aU) (fun iu HI Co=>?_) mb)
 dsimp only at HI Co ⊢
 generalize G9:s2.heap.push {cls :=.type "list",dict:=aw,data :=.seq ([]:List au).toArray}=bQ at HI Co ⊢
 have qF:bQ.objs.size=s2.heap.objs.size+1:=by rw[<-G9,bA.size_push]
 have Nz:s2.heap.objs.size≠bQ.objs.size:=by rw[qF];exact g0 (Nat.lt_succ_self _)
 have BU:s2.heap.objs.size<=bQ.objs.size:=by rw[qF];exact Nat.le_succ _
 have below:∀b,b<s2.heap.objs.size->b≠bQ.objs.size:=fun b ag=>by rw[qF];exact g0 (Nat.lt_succ_of_lt ag)
 have old:∀b o,s2.heap.get? b=J o->iu.get? b=J o:=fun b o e=>Co.extBut b o (below b (eS e)) (fV _ (G9 ▸ fV _ e))
 have abG:iu.get? s2.heap.objs.size=J {cls :=.type "list",dict:=aw,data :=.seq ([]:List au).toArray}:=Co.extBut _ _ Nz (fV _ (G9 ▸ hH _ rfl))
 have aaQ:av bQ.objs.size=aw:=cJ.aL.fresh BU
 have GO:∀b∈b7,b<s2.heap.objs.size:=fun b ag=>by
  obtain⟨o,aH,_⟩:=T.obj _ _ i9 b ag
  exact eS aH
 let mv:=pK X E dC cl bQ.objs.size (g9++gg.map (·.2)) s2 av b7
 have aeN:mv.Ok:=by
  refine⟨cJ.ok.mod,mb,cJ.ok.glob,cJ.ok.blt,BU,fun x y c ao aU=>cJ.ok.inj x y c (gi _ _ ao) (gi _ _ aU),fun x ao=>?_,(fun x c az=>nomatch az),cJ.ok.hd,cJ.ok.frames,.inl I,fun b ag=>⟨below b (GO b ag),fun x c ao=>(f2 b ag).2.2.2.2.1 x c (gi _ _ ao)⟩,cJ.bs,
   dE cJ.ok.qw cJ.dD,fun b o e ag=>?_,fun b ag z=>?_,cJ.stack,cJ.I6⟩
  .exact fI (x,.free) (Eu (Kz ao mc)) I
  ·rcases(f2 b ag).2.2.2.1 with z|z
   .exact cJ.ok.yP b o e z
   .exact absurd (fB (eS e) cJ.ok.qw) (Nat.not_lt.mpr z)
  ·rcases c9.mp (cJ.ze b z)with q|q
   .exact(f2 b ag).2.1 q
   .exact(f2 b ag).2.2.1 q
 have aii:gR (kf X.stack) b7 av (upd av s2.heap.objs.size (.lst [])) s2.heap iu:=gR.laid old (b8 _) Nm
 have acF:f3 X.prog X.w (upd av s2.heap.objs.size (.lst [])) iu:=cJ.aL.laid old (b8 _) ⟨UF _,[],0,.nil,abG⟩
 have w2:∀dK,Inv mv [] (pJ g9 gg U) (upd av s2.heap.objs.size (.lst [])) {s2 with heap:=iu,toks:=dK}:=fun dK=>by
  refine⟨aeN,I,cJ.bare,aii,⟨_,HI,fun i x v aS aV gh=>?_⟩,fun x c ao=>?_,?_,fun x c ao=>?_,fun q bj=>?_,acF,?_⟩
  ·
   obtain⟨kD,_,fQ⟩:=cJ.loc
   have h9:g9.length<=i:=by
    rcases g4 i g9.length with z|z
    ·have:(pJ g9 gg U)[i]?=J aw:=by
      unfold pJ
      rw[List.getElem?_append_left (by simpa using z),List.getElem?_replicate,if_pos z]
     rw[this]at aV
     cases aV
    .exact z
   have xP:(g9++gg.map (·.2))[i]?=J x:=aS
   rw[List.getElem?_append_right h9,eL]at xP
   have Gu:(gg.map fun p=>(U[p.1]?).join)[i-g9.length]?=J (J v):=by
    have:(pJ g9 gg U)[i]?=(gg.map fun p=>(U[p.1]?).join)[i-g9.length]?:=by
     unfold pJ
     rw[List.getElem?_append_right (by simpa using h9),List.length_replicate]
    rw[<-this]
    exact aV
   rw[eL]at Gu
   cases bj:gg[i-g9.length]? with
   |none=>rw[bj]at xP;cases xP
   | some q =>
    rw[bj]at xP Gu
    obtain rfl:q.2=x:=e8 xP
    have BF:(U[q.1]?).join=J v:=e8 Gu
    have fR:U[q.1]?=J (J v):=by
     cases z:U[q.1]? with
     |none=>rw[z]at BF;cases BF
     |some y=>rw[z]at BF;exact congrArg J BF
    have Oo:q∈gg:=fE bj
    obtain⟨eC,dc⟩:=MU q Oo
    have ac3:z9 X.env.scope q.2:=by
     rcases dc with z|z
     .exact .inr (.inl z)
     .exact .inr (.inr z)
    obtain⟨u,e4,v9⟩:=fQ q.1 q.2 v eC fR ac3
    have ye:dC.names.lookup q.2=J .free:=adA q.2 (List.mem_map_of_mem Oo)
    refine⟨u,e4,.inr ⟨Ky ye,?_⟩⟩
    rcases v9 with⟨z,_⟩|⟨_,c,B5,i7,Ch,HL⟩
    .rcases dc with y|y<;>(rw[y]at z;cases z)
    ·obtain⟨h7,l5⟩:=fI (q.2,.free) (Eu ye) rfl
     have:=gi _ _ l5
     rw[B5]at this
     cases this
     exact⟨c,l5,i7,old _ _ Ch,HL⟩
  ·obtain⟨v,o,aH,hd⟩:=cJ.cell x c (gi _ _ ao)
   exact⟨v,o,old _ _ aH,hd⟩
  ·show upd av s2.heap.objs.size (.lst []) bQ.objs.size=aw
   rw[bK (eF Nz)]
   exact aaQ
  ·have Hk:=cJ.pP x c (gi _ _ ao)
   obtain⟨v,o,aH,hd⟩:=cJ.cell x c (gi _ _ ao)
   rw[bK (g0 (eS aH))]
   exact Hk
  ·have:q∈([]:List (af×bU)):=bj
   cases this
  ·show(pJ g9 gg U).length=(g9++gg.map (·.2)).length
   simp[pJ]
 have ub:∀{yX:List (af×bU)}{H':aq},(∀b∈b7,H' b=aw)->(∀q∈yX,q.1∉b7)->∀b∈b7,qa mv yX H' b:=fun aW aY b ag =>
  ⟨aW b ag,below b (GO b ag),fun z=>by
   rcases c9.mp (cJ.ze b z)with q|q
   .exact(f2 b ag).2.1 q
   .exact(f2 b ag).2.2.1 q,.inl ag,fun x c ao=>(f2 b ag).2.2.2.2.1 x c (gi _ _ ao),fun q bj z=>aY q bj (z ▸ ag)⟩
 have Iu:∀q∈([]:List (af×bU)),q.1∉b7:=fun _ z=>nomatch z
 have Q7:iN 0 iu:=T.keep _ _ _ i9 fun b ag o e=>old b o e
 have aaU:∀b∈b7,(upd av s2.heap.objs.size (.lst [])) b=aw:=fun b ag=>by
  rw[bK (g0 (GO b ag))]
  exact(f2 b ag).1
 have err:∀e gV,mv.xe e gV->notedBy (model X.prog X.w) X.A (compEnvC dC cl bQ.objs.size X.env) (fun e bl=>compPost (model X.prog X.w) X.A X.xe use Qf (.ref s2.heap.objs.size) bQ.objs.size (.error e) bl) e gV:=by
  rintro e gV ⟨aeU,bL,H1,s1,bC,a,C,d,JJ,eR,rfl,os,bare,un,aL,x1,fa,GN,CG,kE,q⟩
  obtain⟨Ib,qP,ab8,hex⟩:=ac8.resolve_right fun z=>z _ _ _ q
  have rd:Inv (Gr X dC cl bQ.objs.size (g9++gg.map (·.2)) s2 av b7) aeU bL JJ gV:=bC.Gp (ch:=[]) os un aL bare (fun b z=>absurd z (by simp))
  have Sl:Inv X ar U JJ gV:=cJ.Gp rd.os rd.base rd.aL rd.bare fun b ag=>⟨(f2 b ag).2.2.2.1,(f2 b ag).2.1,(f2 b ag).2.2.2.2.1,(f2 b ag).2.2.2.2.2⟩
  have Pa:∀b,s1.heap.get? b=aw->X.eE.heap.get? b=aw:=fun b ag=>by
   cases z:X.eE.heap.get? b with
   |none=>rfl
   | some o =>
    obtain⟨o',e'⟩:=cJ.base.there b o z (by rw[hex];simp)
    have aex:b∉b7:=fun hm=>by
     rcases(f2 b hm).2.2.2.1 with y|y
     .rw[hex]at y;cases y
     .exact absurd (eS z) (Nat.not_lt.mpr y)
    obtain⟨ajX,MZ⟩:=bC.base.there b o' e' aex
    rw[ag]at MZ;cases MZ
  refine X2 Ib qP ab8 hex Sl x1 fa GN (Pa a CG) (Pa eR kE) q rd.free ?_ ?_ ?_ I
  .exact bA.get?_none_of_le (dE cJ.dD BU)
  ·intro hm
   obtain⟨_,o,aH,_⟩:=cJ.stack.mem hm
   exact below _ (eS aH) I
  ·obtain⟨m,hm,_⟩:=rd.loc
   exact⟨m,hm⟩
 have loop:∀uc:aO,uc={s2 with heap:=iu,toks:=s2.toks+([]:List (ae×au)).length}->
   n2 (model X.prog X.w) X.A (.compLoop (.ListComp elt [⟨jc,iter,ifs,0⟩] dC aZ) 0 (.ref it) (.ref s2.heap.objs.size) (compEnvC dC cl bQ.objs.size X.env))
    (compPost (model X.prog X.w) X.A X.xe use Qf (.ref s2.heap.objs.size) bQ.objs.size) uc:=by
  rintro uc rfl
  refine WV (fun n bl=>∃i cg H',Inv mv [] cg H' bl/\iN i bl.heap/\(∀b∈b7,H' b=aw)/\W i n cg H') ?_ m0 ⟨0,_,_,w2 _,Q7,aaU,hD⟩
  rintro n iM ⟨i,k9,zy,jM,kn,x2,ue⟩
  rcases turn i n k9 zy ue with⟨stop,ID⟩|⟨go,step⟩
  ·refine dm (T.done mv I I I hc i [] iM k9 zy _ jM (ub x2 Iu) kn stop) fun r t5 b4=>?_
   obtain⟨ax,uC⟩:=b4
   subst ax
   have un:=uC.base
   refine ck _ _ zy t5 (cJ.Gp uC.os un uC.aL uC.bare fun b ag=>?_) ID uC.free ?_ (dE cJ.dD BU) ?_ ?_ ?_
   .exact⟨(f2 b ag).2.2.2.1,(f2 b ag).2.1,(f2 b ag).2.2.2.2.1,(f2 b ag).2.2.2.2.2⟩
   .exact eF (below _ cJ.lt)
   ·intro x c ao
    obtain⟨v,o,aH,hd⟩:=cJ.cell x c ao
    exact below c (eS aH)
   ·intro q bj
    obtain⟨e,_⟩:=cJ.pin q bj
    exact below _ (eS e)
   ·obtain⟨m,hm,_⟩:=uC.loc
    exact⟨m,hm⟩
  ·refine dm (T.item mv I I I hc i [] iM k9 zy _ jM (ub x2 Iu) kn go) fun r t5 b4=>?_
   obtain⟨u,ax,cQ⟩:=b4
   subst ax
   refine dm cQ fun _ y2 b4=>?_
   obtain⟨x,fm,DZ,IF,Js,jJ,GP⟩:=b4
   have D0:=DZ.pinned (ub GP Iu) (T.obj _ _ jJ)
   refine mY (aX _ _ _ _ _ _ y2 k9 fm x u _ D0 IF (step x fm Js)) (fun _ IK b4=>?_) fun e gV z=>err e gV z
   obtain⟨wO,d9,D1,IC⟩:=b4
   have again:∀{la:St}{hF:aq}{pW:aO}{bY:Nat},Inv mv ([]++yY b7 y2.heap) la hF pW->bY<n->W (i+1) bY la hF->∃m,m<n/\∃i cg H',Inv mv [] cg H' pW/\iN i pW.heap/\(∀b∈b7,H' b=aw)/\W i m cg H':=fun{la hF pW bY}j3 hm zk=>by
    refine⟨bY,hm,i+1,la,hF,j3.Di,T.keep _ _ _ jJ fun b ag o e=>(j3.pin (b,o) (mq _ (mq _ (AH ag e)))).1,fun b ag=>?_,zk⟩
    obtain⟨o,e,d⟩:=T.obj _ _ jJ b ag
    exact(j3.pin (b,o) (mq _ (mq _ (AH ag e)))).2.1
   refine mY (aM _ _ _ _ _ _ IK wO d9 _ D1 IC) (fun ok pW b4=>?_) fun e gV z=>err e gV z
   obtain⟨hF,j3,oY⟩:=b4
   cases ok with
   |false =>
    obtain⟨bY,hm,zk⟩:=oY
    exact again j3 hm zk
   |true =>
    refine mY (he _ _ _ _ _ _ pW wO hF _ j3 oY) (fun Dm gV b4=>?_) fun e gV z=>err e gV z
    obtain⟨y,DY,rd,agQ,ae0⟩:=b4
    obtain⟨xs,bY,dB,bz,hm,aim⟩:=ae0
    refine mY (qo (X:=mv) _ gV wO DY (.ref s2.heap.objs.size) [y] (.ref s2.heap.objs.size) [Dm] (fun _ qb=>W (i+1) bY wO qb) rd I (.cons agQ .nil) ⟨_,xs,y,I,I,dB,bz,aim⟩) (fun _ aj2 b4=>?_) fun e gV z=>err e gV z
    obtain⟨_,qb,Sk,_,ae1⟩:=b4
    exact again Sk hm ae1
 exact codeAny_compStart_list (loop _ I) (T.self _ 0 _ _ _ Q7 (loop _ I))
end
end c0
end
section
namespace c0
open PySem PySem.W PySem.Spec PyProof.Rows PySem.SeqAt
noncomputable def adx:D->Bool
 |.aT=>ah
 |_=>aF
noncomputable def M9(a:Bool):D->Bool
 |.aQ b=>a == b
 |.int b=>(if a then 1 else 0) == b
 |_=>aF
noncomputable def BK(a:Int):D->Bool
 |.aQ b=>a == (if b then 1 else 0)
 |.int b=>a == b
 |_=>aF
noncomputable def BL(a:ae):D->Bool
 |.str b=>a == b
 |_=>aF
noncomputable def aaA(g:List D->Bool):D->Bool
 |.tup ds=>g ds
 |_=>aF
noncomputable def aaz(g:List D->Bool):D->Bool
 |.lst ds=>g ds
 |_=>aF
mutual
noncomputable def fg:D->D->Bool
 |.aT,d=>adx d
 |.aQ a,d=>M9 a d
 |.int a,d=>BK a d
 |.str a,d=>BL a d
 |.tup as,d=>aaA (gv as) d
 |.lst as,d=>aaz (gv as) d
noncomputable def gv:List D->List D->Bool
 |[],ds=>ds.isEmpty
 |a::as,ds=>match ds with|[]=>aF|d::ds=>fg a d&&gv as ds
end
mutual
noncomputable def eH:D->Nat
 |.aT=>1
 |.aQ _=>1
 |.int _=>1
 |.str _=>1
 |.tup ds=>ei ds+1
 |.lst ds=>ei ds+1
noncomputable def ei:List D->Nat
 |[]=>0
 |d::ds=>max (eH d) (ei ds)
end
theorem Mp(d:D):1<=eH d:=by cases d<;>rw[eH]<;>omega
theorem rB{d:D}{n:Nat}:∀{ds:List D},d∈ds->ei ds<=n->eH d<=n
 |[],h,_=>by cases h
 |e::ds,h,aW=>by
  rw[ei]at aW
  rcases c9.mp h with rfl|h
  .omega
  .exact rB h (by omega)
mutual
theorem Ls:∀d:D,fg d d=ah
 |.aT=>by rw[fg];rfl
 |.aQ b=>by rw[fg];show(b == b)=ah;exact beq_self_eq_true b
 |.int b=>by rw[fg];show(b == b)=ah;exact beq_self_eq_true b
 |.str b=>by rw[fg];show(b == b)=ah;exact beq_self_eq_true b
 |.tup ds=>by rw[fg];exact xu ds
 |.lst ds=>by rw[fg];exact xu ds
theorem xu:∀ds:List D,gv ds ds=ah
 |[]=>by rw[gv];rfl
 |d::ds=>by
  rw[gv]
  show(fg d d&&gv ds ds)=ah
  rw[Ls d,xu ds];rfl
end
theorem A7:∀(ds es:List D),gv ds es=((List.range (min ds.length es.length)).all (fun j=>fg (ds.getD j .aT) (es.getD j .aT))&&ds.length == es.length)
 |[],es=>by
  rw[gv]
  cases es<;>simp
 |d::ds,[]=>by rw[gv];simp
 |d::ds,e::es=>by
  rw[gv]
  show(fg d e&&gv ds es)=_
  rw[A7 ds es,d6,d6,Nat.succ_min_succ,List.range_succ_eq_map,List.all_cons,List.all_map]
  have aS:(ds.length+1 == es.length+1)=(ds.length == es.length):=by rw[Bool.eq_iff_iff];simp
  rw[aS,Bool.and_assoc]
  rfl
mutual
theorem c3.inj{H:aq}:∀(d d':D){v:V},c3 H d v->c3 H d' v->d=d'
 |.aT,d',v,h,h'=>by
  obtain rfl:v=.aT:=h
  cases d' with
  |aT=>rfl
  |aQ b=>cases(show V.aT=V.aQ b from h')
  |int b=>cases(show V.aT=V.int b from h')
  |str b=>cases h'.1
  |tup ds=>obtain⟨a,vs,z,_⟩:=h';cases z
  |lst ds=>obtain⟨a,vs,z,_⟩:=h';cases z
 |.aQ b,d',v,h,h'=>by
  obtain rfl:v=.aQ b:=h
  cases d' with
  |aT=>cases(show V.aQ b=V.aT from h')
  |aQ c=>have z:V.aQ b=V.aQ c:=h';injection z with z;rw[z]
  |int c=>cases(show V.aQ b=V.int c from h')
  |str c=>cases h'.1
  |tup ds=>obtain⟨a,vs,z,_⟩:=h';cases z
  |lst ds=>obtain⟨a,vs,z,_⟩:=h';cases z
 |.int b,d',v,h,h'=>by
  obtain rfl:v=.int b:=h
  cases d' with
  |aT=>cases(show V.int b=V.aT from h')
  |int c=>have z:V.int b=V.int c:=h';injection z with z;rw[z]
  |aQ c=>cases(show V.int b=V.aQ c from h')
  |str c=>cases h'.1
  |tup ds=>obtain⟨a,vs,z,_⟩:=h';cases z
  |lst ds=>obtain⟨a,vs,z,_⟩:=h';cases z
 |.str b,d',v,h,h'=>by
  obtain⟨rfl,_⟩:=h
  cases d' with
  |aT=>cases(show V.str b=V.aT from h')
  |int c=>cases(show V.str b=V.int c from h')
  |aQ c=>cases(show V.str b=V.aQ c from h')
  |str c=>have z:=h'.1;injection z with z;rw[z]
  |tup ds=>obtain⟨a,vs,z,_⟩:=h';cases z
  |lst ds=>obtain⟨a,vs,z,_⟩:=h';cases z
 |.tup ds,d',v,h,h'=>by
  obtain⟨a,vs,rfl,dz,hs,_⟩:=h
  cases d' with
  |aT=>cases(show V.ref a=V.aT from h')
  |int c=>cases(show V.ref a=V.int c from h')
  |aQ c=>cases(show V.ref a=V.aQ c from h')
  |str c=>cases h'.1
  |tup es=>obtain⟨b,ws,z,eA,mM,_⟩:=h';cases z;rw[dz]at eA;cases eA;rw[bh.inj ds es hs mM]
  |lst es=>obtain⟨b,ws,z,eA,mM,_⟩:=h';cases z;rw[dz]at eA;cases eA
 |.lst ds,d',v,h,h'=>by
  obtain⟨a,vs,rfl,dz,hs,_⟩:=h
  cases d' with
  |aT=>cases(show V.ref a=V.aT from h')
  |int c=>cases(show V.ref a=V.int c from h')
  |aQ c=>cases(show V.ref a=V.aQ c from h')
  |str c=>cases h'.1
  |tup es=>obtain⟨b,ws,z,eA,mM,_⟩:=h';cases z;rw[dz]at eA;cases eA
  |lst es=>obtain⟨b,ws,z,eA,mM,_⟩:=h';cases z;rw[dz]at eA;cases eA;rw[bh.inj ds es hs mM]
theorem bh.inj{H:aq}:∀(ds es:List D){vs:List V},bh H ds vs->bh H es vs->ds=es
 |[],es,vs,h,h'=>by
  obtain rfl:vs=[]:=h
  cases es with
  |nil=>rfl
  |cons e es=>obtain⟨v,r,z,_⟩:=h';cases z
 | d::ds,es,vs,h,h'=>by
  obtain⟨v,r,rfl,q,bX⟩:=h
  cases es with
  |nil=>cases(show v::r=[]from h')
  |cons e es =>
   obtain⟨hp,eD,z,jH,aeY⟩:=h'
   cases z
   rw[c3.inj d e q jH,bh.inj ds es bX aeY]
end
section
variable {X:bS} {ar:List (af×bU)} {U:St} {H:aq} {s:aO} {A:dF} {a1 a2:af} {ee gH:List D} {jo gO:List V}
theorem LP{iv eT:List au}(cv:Vals jo iv)(dZ:Vals gO eT)(ai:bh H ee jo)(aj:bh H gH gO)
  (he:∀(e aV:D)(w k7:V)(x fz:au),e∈ee->c3 H e w->c3 H aV k7->RelV w x->RelV k7 fz->EqAt A s x fz (fg e aV)) :
  ∀j(ai:j<iv.toArray.size)(aj:j<eT.toArray.size),EqAt A s iv.toArray[j] eT.toArray[j] (fg (ee.getD j .aT) (gH.getD j .aT)):=by
 intro j cq cR
 rw[eo]at cq cR
 have aS:=cv.length
 have aV:=dZ.length
 have g1:jo[j]?=J (jo[j]'(by omega)):=cp (by omega)
 have g2:gO[j]?=J (gO[j]'(by omega)):=cp (by omega)
 obtain⟨hP,kX,qU⟩:=cv.get g1
 obtain⟨dS,mN,eU⟩:=dZ.get g2
 obtain⟨hj,i0,hM⟩:=bh.get ee ai g1
 obtain⟨iF,dh,lH⟩:=bh.get gH aj g2
 have dR:iv.toArray[j]'(by rw[eo];exact cq)=hP:=by
  rw[List.getElem_toArray]
  rw[cp cq]at kX
  exact e8 kX
 have da:eT.toArray[j]'(by rw[eo];exact cR)=dS:=by
  rw[List.getElem_toArray]
  rw[cp cR]at mN
  exact e8 mN
 rw[dR,da,dN,dN,i0,dh]
 exact he hj iF _ _ hP dS (fE i0) hM lH qU eU
theorem ag5(aa:Inv X ar U H s)(cC:A.units<cLine)(aS:H a1=J (.tup jo))(aV:H a2=J (.tup gO))(ai:bh H ee jo)(aj:bh H gH gO)
  (he:∀(e aV:D)(w k7:V)(x fz:au),e∈ee->c3 H e w->c3 H aV k7->RelV w x->RelV k7 fz->EqAt A.in1 s x fz (fg e aV)) :
  RcAt A s (.ref a1) (.ref a2) (gv ee gH)/\RcNeAt A s (.ref a1) (.ref a2) (!gv ee gH):=by
 obtain⟨iv,cv,cU,_⟩:=aa.tuple (gd.of aS)
 obtain⟨eT,dZ,cf,_⟩:=aa.tuple (gd.of aV)
 have cq:iv.toArray.size=ee.length:=by rw[eo,<-cv.length];exact bh.len ee ai
 have cR:eT.toArray.size=gH.length:=by rw[eo,<-dZ.length];exact bh.len gH aj
 have E:=LP cv dZ ai aj he
 have wU:=RcAt.tuples (fF cU) (fF cf) cC E
 have wV:=RcNeAt.tuples (fF cU) (fF cf) cC E
 rw[cq,cR,<-A7]at wU wV
 exact⟨wU,wV⟩
theorem ag4(aa:Inv X ar U H s)(cC:A.units<cLine)(aS:H a1=J (.lst jo))(aV:H a2=J (.lst gO))(ai:bh H ee jo)(aj:bh H gH gO)
  (he:∀(e aV:D)(w k7:V)(x fz:au),e∈ee->c3 H e w->c3 H aV k7->RelV w x->RelV k7 fz->EqAt A.in1 s x fz (fg e aV)) :
  RcAt A s (.ref a1) (.ref a2) (gv ee gH)/\RcNeAt A s (.ref a1) (.ref a2) (!gv ee gH):=by
 obtain⟨iv,cv,cU,_⟩:=aa.list (cK.of aS)
 obtain⟨eT,dZ,cf,_⟩:=aa.list (cK.of aV)
 have cq:iv.toArray.size=ee.length:=by rw[eo,<-cv.length];exact bh.len ee ai
 have cR:eT.toArray.size=gH.length:=by rw[eo,<-dZ.length];exact bh.len gH aj
 have E:=LP cv dZ ai aj he
 by_cases z:ee.length=gH.length
 ·have wU:=RcAt.lists cU.isList cf.isList (by rw[cq,cR,z]) cC E
  have wV:=RcNeAt.lists cU.isList cf.isList (by rw[cq,cR,z]) cC E
  have G:=A7 ee gH
  rw[z,Nat.min_self,beq_self_eq_true,Bool.and_true]at G
  rw[cq,z,<-G]at wU wV
  exact⟨wU,wV⟩
 ·have G:=A7 ee gH
  rw[beq_false_of_ne z,Bool.and_false]at G
  rw[G]
  have jU:(iv.toArray.size != eT.toArray.size)=ah:=by rw[cq,cR];simpa using z
  exact⟨RcAt.lists_lengths cU.isList cf.isList jU cC,RcNeAt.lists_lengths cU.isList cf.isList jU cC⟩
set_option maxHeartbeats 1000000 in
theorem T6(aa:Inv X ar U H s):∀(n:Nat){hj iF:D}{v1 v2:V}{hP dS:au}{A:dF},eH hj<=n->c3 H hj v1->c3 H iF v2->RelV v1 hP->RelV v2 dS->A.units+n<cLine->EqAt A s hP dS (fg hj iF)/\RcAt A s hP dS (fg hj iF)/\RcNeAt A s hP dS (!fg hj iF):=by
 intro n
 induction n with
 |zero =>
  intro hj iF v1 v2 hP dS A aW
  have:=Mp hj
  omega
 | succ n bT =>
  intro hj iF v1 v2 hP dS A aW hd dh e4 eU cC
  have ai:A.units<cLine:=by omega
  have aj:A.in1.units+n<cLine:=by show A.units+1+n<cLine;omega
  cases hj with
  | aT =>
   obtain rfl:v1=.aT:=hd;obtain rfl:hP=.none:=e4
   rw[fg]
   cases iF with
   |aT =>
    obtain rfl:v2=.aT:=dh;obtain rfl:dS=.none:=eU
    exact⟨.same _,.none_none,.none_none⟩
   |aQ eZ =>
    obtain rfl:v2=.aQ eZ:=dh;obtain rfl:dS=.bool eZ:=eU
    exact⟨.none_bool _,.none_bool _,.none_bool _⟩
   |int da =>
    obtain rfl:v2=.int da:=dh;obtain⟨gs,rfl⟩:∃t,dS=.int da t:=eU
    exact⟨.none_int _ _,.none_int _ _,.none_int _ _⟩
   |str fz =>
    obtain⟨rfl,_⟩:v2=.str fz/\_:=dh;obtain⟨gs,rfl⟩:∃t,dS=.str fz t:=eU
    exact⟨.none_str _ _,.none_str _ _,.none_str _ _⟩
   |tup gH =>
    obtain⟨a2,gO,rfl,hJ,c1,_⟩:=dh;obtain rfl:dS=.ref a2:=eU;obtain⟨eT,bX,cf,_⟩:=aa.tuple (gd.of hJ)
    exact⟨.none_tuple (fF cf) ai,.none_tuple (fF cf) ai,.none_tuple (fF cf) ai⟩
   |lst gH =>
    obtain⟨a2,gO,rfl,hJ,c1,_⟩:=dh;obtain rfl:dS=.ref a2:=eU;obtain⟨eT,bX,cf,_⟩:=aa.list (cK.of hJ)
    exact⟨.none_list cf.isList ai,.none_list cf.isList ai,.none_list cf.isList ai⟩
  | aQ gG =>
   obtain rfl:v1=.aQ gG:=hd;obtain rfl:hP=.bool gG:=e4
   rw[fg]
   cases iF with
   |aT =>
    obtain rfl:v2=.aT:=dh;obtain rfl:dS=.none:=eU
    exact⟨.bool_none _,.bool_none _,.bool_none _⟩
   |aQ eZ =>
    obtain rfl:v2=.aQ eZ:=dh;obtain rfl:dS=.bool eZ:=eU
    exact⟨.bool_bool _ _,.bool_bool _ _,.bool_bool _ _⟩
   |int da =>
    obtain rfl:v2=.int da:=dh;obtain⟨gs,rfl⟩:∃t,dS=.int da t:=eU
    exact⟨.bool_int _ _ _,.bool_int _ _ _,.bool_int _ _ _⟩
   |str fz =>
    obtain⟨rfl,_⟩:v2=.str fz/\_:=dh;obtain⟨gs,rfl⟩:∃t,dS=.str fz t:=eU
    exact⟨.bool_str _ _ _,.bool_str _ _ _,.bool_str _ _ _⟩
   |tup gH =>
    obtain⟨a2,gO,rfl,hJ,c1,_⟩:=dh;obtain rfl:dS=.ref a2:=eU;obtain⟨eT,bX,cf,_⟩:=aa.tuple (gd.of hJ)
    exact⟨.bool_tuple _ (fF cf) ai,.bool_tuple _ (fF cf) ai,.bool_tuple _ (fF cf) ai⟩
   |lst gH =>
    obtain⟨a2,gO,rfl,hJ,c1,_⟩:=dh;obtain rfl:dS=.ref a2:=eU;obtain⟨eT,bX,cf,_⟩:=aa.list (cK.of hJ)
    exact⟨.bool_list _ cf.isList ai,.bool_list _ cf.isList ai,.bool_list _ cf.isList ai⟩
  | int dR =>
   obtain rfl:v1=.int dR:=hd;obtain⟨t1,rfl⟩:∃t,hP=.int dR t:=e4
   rw[fg]
   cases iF with
   |aT =>
    obtain rfl:v2=.aT:=dh;obtain rfl:dS=.none:=eU
    exact⟨.int_none _ _,.int_none _ _,.int_none _ _⟩
   |aQ eZ =>
    obtain rfl:v2=.aQ eZ:=dh;obtain rfl:dS=.bool eZ:=eU
    exact⟨.int_bool _ _ _,.int_bool _ _ _,.int_bool _ _ _⟩
   |int da =>
    obtain rfl:v2=.int da:=dh;obtain⟨gs,rfl⟩:∃t,dS=.int da t:=eU
    exact⟨.int_int _ _ _ _,.int_int _ _ _ _,.int_int _ _ _ _⟩
   |str fz =>
    obtain⟨rfl,_⟩:v2=.str fz/\_:=dh;obtain⟨gs,rfl⟩:∃t,dS=.str fz t:=eU
    exact⟨.int_str _ _ _ _,.int_str _ _ _ _,.int_str _ _ _ _⟩
   |tup gH =>
    obtain⟨a2,gO,rfl,hJ,c1,_⟩:=dh;obtain rfl:dS=.ref a2:=eU;obtain⟨eT,bX,cf,_⟩:=aa.tuple (gd.of hJ)
    exact⟨.int_tuple _ _ (fF cf) ai,.int_tuple _ _ (fF cf) ai,.int_tuple _ _ (fF cf) ai⟩
   |lst gH =>
    obtain⟨a2,gO,rfl,hJ,c1,_⟩:=dh;obtain rfl:dS=.ref a2:=eU;obtain⟨eT,bX,cf,_⟩:=aa.list (cK.of hJ)
    exact⟨.int_list _ _ cf.isList ai,.int_list _ _ cf.isList ai,.int_list _ _ cf.isList ai⟩
  | str k8 =>
   obtain⟨rfl,_⟩:v1=.str k8/\_:=hd;obtain⟨t1,rfl⟩:∃t,hP=.str k8 t:=e4
   rw[fg]
   cases iF with
   |aT =>
    obtain rfl:v2=.aT:=dh;obtain rfl:dS=.none:=eU
    exact⟨.str_none _ _,.str_none _ _,.str_none _ _⟩
   |aQ eZ =>
    obtain rfl:v2=.aQ eZ:=dh;obtain rfl:dS=.bool eZ:=eU
    exact⟨.str_bool _ _ _,.str_bool _ _ _,.str_bool _ _ _⟩
   |int da =>
    obtain rfl:v2=.int da:=dh;obtain⟨gs,rfl⟩:∃t,dS=.int da t:=eU
    exact⟨.str_int _ _ _ _,.str_int _ _ _ _,.str_int _ _ _ _⟩
   |str fz =>
    obtain⟨rfl,_⟩:v2=.str fz/\_:=dh;obtain⟨gs,rfl⟩:∃t,dS=.str fz t:=eU
    exact⟨.str_str _ _ _ _,.str_str _ _ _ _,.str_str _ _ _ _⟩
   |tup gH =>
    obtain⟨a2,gO,rfl,hJ,c1,_⟩:=dh;obtain rfl:dS=.ref a2:=eU;obtain⟨eT,bX,cf,_⟩:=aa.tuple (gd.of hJ)
    exact⟨.str_tuple _ _ (fF cf) ai,.str_tuple _ _ (fF cf) ai,.str_tuple _ _ (fF cf) ai⟩
   |lst gH =>
    obtain⟨a2,gO,rfl,hJ,c1,_⟩:=dh;obtain rfl:dS=.ref a2:=eU;obtain⟨eT,bX,cf,_⟩:=aa.list (cK.of hJ)
    exact⟨.str_list _ _ cf.isList ai,.str_list _ _ cf.isList ai,.str_list _ _ cf.isList ai⟩
  | tup ee =>
   obtain⟨a1,jo,rfl,tb,er,_⟩:=hd;obtain rfl:hP=.ref a1:=e4;obtain⟨iv,cu,cU,_⟩:=aa.tuple (gd.of tb)
   rw[fg]
   cases iF with
   |aT =>
    obtain rfl:v2=.aT:=dh;obtain rfl:dS=.none:=eU
    exact⟨.tuple_none (fF cU) ai,.tuple_none (fF cU) ai,.tuple_none (fF cU) ai⟩
   |aQ eZ =>
    obtain rfl:v2=.aQ eZ:=dh;obtain rfl:dS=.bool eZ:=eU
    exact⟨.tuple_bool _ (fF cU) ai,.tuple_bool _ (fF cU) ai,.tuple_bool _ (fF cU) ai⟩
   |int da =>
    obtain rfl:v2=.int da:=dh;obtain⟨gs,rfl⟩:∃t,dS=.int da t:=eU
    exact⟨.tuple_int _ _ (fF cU) ai,.tuple_int _ _ (fF cU) ai,.tuple_int _ _ (fF cU) ai⟩
   |str fz =>
    obtain⟨rfl,_⟩:v2=.str fz/\_:=dh;obtain⟨gs,rfl⟩:∃t,dS=.str fz t:=eU
    exact⟨.tuple_str _ _ (fF cU) ai,.tuple_str _ _ (fF cU) ai,.tuple_str _ _ (fF cU) ai⟩
   | tup gH =>
    obtain⟨a2,gO,rfl,hJ,c1,_⟩:=dh;obtain rfl:dS=.ref a2:=eU;obtain⟨eT,bX,cf,_⟩:=aa.tuple (gd.of hJ)
    have R:=ag5 aa ai tb hJ er c1 fun e aV w k7 x fz hm g g2 r dZ=>(bT (rB hm (by rw[eH]at aW;omega)) g g2 r dZ aj).1
    refine⟨?_,R⟩
    by_cases z:a1=a2
    ·subst z
     obtain rfl:ee=gH:=by have ft:=c3.inj (.tup ee) (.tup gH) (v :=.ref a1) ⟨a1,jo,rfl,tb,er,‹_›⟩ ⟨a1,gO,rfl,hJ,c1,‹_›⟩;injection ft
     show EqAt A s _ _ (gv ee ee)
     rw[xu];exact .same _
    .exact .of_refs z R.1
   |lst gH =>
    obtain⟨a2,gO,rfl,hJ,c1,_⟩:=dh;obtain rfl:dS=.ref a2:=eU;obtain⟨eT,bX,cf,_⟩:=aa.list (cK.of hJ)
    exact⟨.tuple_list (fF cU) cf.isList ai,.tuple_list (fF cU) cf.isList ai,.tuple_list (fF cU) cf.isList ai⟩
  | lst ee =>
   obtain⟨a1,jo,rfl,tb,er,_⟩:=hd;obtain rfl:hP=.ref a1:=e4;obtain⟨iv,cu,cU,_⟩:=aa.list (cK.of tb)
   rw[fg]
   cases iF with
   |aT =>
    obtain rfl:v2=.aT:=dh;obtain rfl:dS=.none:=eU
    exact⟨.list_none cU.isList ai,.list_none cU.isList ai,.list_none cU.isList ai⟩
   |aQ eZ =>
    obtain rfl:v2=.aQ eZ:=dh;obtain rfl:dS=.bool eZ:=eU
    exact⟨.list_bool _ cU.isList ai,.list_bool _ cU.isList ai,.list_bool _ cU.isList ai⟩
   |int da =>
    obtain rfl:v2=.int da:=dh;obtain⟨gs,rfl⟩:∃t,dS=.int da t:=eU
    exact⟨.list_int _ _ cU.isList ai,.list_int _ _ cU.isList ai,.list_int _ _ cU.isList ai⟩
   |str fz =>
    obtain⟨rfl,_⟩:v2=.str fz/\_:=dh;obtain⟨gs,rfl⟩:∃t,dS=.str fz t:=eU
    exact⟨.list_str _ _ cU.isList ai,.list_str _ _ cU.isList ai,.list_str _ _ cU.isList ai⟩
   |tup gH =>
    obtain⟨a2,gO,rfl,hJ,c1,_⟩:=dh;obtain rfl:dS=.ref a2:=eU;obtain⟨eT,bX,cf,_⟩:=aa.tuple (gd.of hJ)
    exact⟨.list_tuple cU.isList (fF cf) ai,.list_tuple cU.isList (fF cf) ai,.list_tuple cU.isList (fF cf) ai⟩
   | lst gH =>
    obtain⟨a2,gO,rfl,hJ,c1,_⟩:=dh;obtain rfl:dS=.ref a2:=eU;obtain⟨eT,bX,cf,_⟩:=aa.list (cK.of hJ)
    have R:=ag4 aa ai tb hJ er c1 fun e aV w k7 x fz hm g g2 r dZ=>(bT (rB hm (by rw[eH]at aW;omega)) g g2 r dZ aj).1
    refine⟨?_,R⟩
    by_cases z:a1=a2
    ·subst z
     obtain rfl:ee=gH:=by have ft:=c3.inj (.lst ee) (.lst gH) (v :=.ref a1) ⟨a1,jo,rfl,tb,er,‹_›⟩ ⟨a1,gO,rfl,hJ,c1,‹_›⟩;injection ft
     show EqAt A s _ _ (gv ee ee)
     rw[xu];exact .same _
    .exact .of_refs z R.1
theorem Us(cC:X.A.units+64<cLine):dQ X (gW .NotEq) (fun x y H Q=>∃d d',c3 H d x/\c3 H d' y/\eH d<=60/\Q (.aQ (!fg d d')) H):=by
 intro ar s U H x y v u Q aa bp cn h
 obtain⟨d,d',hd,tr,aW,q⟩:=h
 exact(T6 aa 60 aW hd tr bp cn (by omega)).2.2 _ _ _ _ ⟨.aQ _,H,aa,I,q⟩
def agU(K:bM):hR:=fun x y H Q=>∃a b xs aA,x=.ref a/\y=.ref b/\gd K H a xs/\gd K H b aA/\xs.length+aA.length<=cj/\
 (xs=[]->Q (.ref b) H)/\(xs≠[]->aA=[]->Q (.ref a) H)/\(xs≠[]->aA≠[]->∀p,H p=aw->Q (.ref p) (upd H p (.tup (xs++aA))))
theorem TH:dQ X (j2 .Add) (agU X.K):=by
 intro ar s U H x y v u Q aa bp cn h
 obtain⟨a,b,xs,aA,rfl,rfl,aJ,ag,bz,aeX,cu,bX⟩:=h
 by_cases ao:xs=[]
 ·subst ao
  cases bp
  cases cn
  obtain⟨bt,cv,cU,_⟩:=aa.tuple aJ
  obtain⟨eT,dZ,cf,_⟩:=aa.tuple ag
  obtain rfl:bt=[]:=cv.CL.mpr rfl
  obtain⟨⟨cls,hX,data,dp⟩,aH,hc,n,hd⟩:=id cU
  obtain⟨⟨Gq,kb,data2,kl⟩,mI,lF,dc,dh⟩:=id cf
  simp only at hc hd lF dh
  subst hc hd lF dh
  exact concat_meets ⟨_,aH,I⟩ ⟨_,mI,I⟩ noFill_tuple_add seq_tuple_add PySem.F.slot_tuple_add PySem.F.entry_tuple_add (PySem.F.args_tuple_add_2 _ _) (tuple_addW0 a b _ eT.toArray n dc hX kb dp kl I) ⟨aH,mI,⟨.ref b,H,aa,I,aeX I⟩⟩
 .exact TG ar s U H _ _ v u Q aa bp cn ⟨a,b,xs,aA,I,I,aJ,ag,ao,bz,cu ao,bX ao⟩
end
section
open cA
variable {prog:dA} {w:cZ} {A:dF} {E:au->aO->Prop} {s:aO}
theorem cA.abk{t:af}{items:Array au}{lo:Option Int}(aM:IsTup s.heap t items)(hs:s.heap.IsSliceOf dp iy iz .none)(pl:IsPart iy lo)(pu:IsPart iz ay)
  (ai:cV items.size 0 lo=0) (aj:cV items.size items.size ay=items.size) (h:Q (.ref t) s):bN (model prog w) A (getItem (.ref t) (.ref dp)) Q E s:=by
 obtain⟨os,tC,oI,dV⟩:=id hs
 have He:s.TypeIs (.ref dp) "slice":=⟨os,tC,oI⟩
 unfold getItem
 try with_reducible refine wpAny_holding ?_
 first|refine bF (dP ?_)|skip
 refine bF (wpAny_sequenceKey aM.typeIs (by decide) ?_)
 refine bF (wpAny_callSpecial?_slot (name:=ae.ofString "__getitem__") aM.typeIs PyProof.Rows.slot_tuple_getitem
  (wpAny_call_entry PyProof.Rows.slot_tuple_getitem aM.typeIs entry_tuple_getitem ?_ (args_tuple_getitem _ _)))
 show bN _ _ (cS.Tuple.tupleItemsOf (.ref t) >>= _) _ _ s
 refine bF (tupleItemsOf_ aM ?_)
 refine bF (wpAny_typeOf He ?_)
 rw[if_pos (by decide)]
 refine bF (Kf hs pl pu ?_)
 have ac9:(((cV items.size 0 lo:Nat):Int) == 0&&(1:Int) == 1&&(cV items.size items.size ay-cV items.size 0 lo) == items.size)=ah:=by rw[ai,aj];simp
 show bN _ _ (if(((cV items.size 0 lo:Nat):Int) == 0&&(1:Int) == 1&&(cV items.size items.size ay-cV items.size 0 lo) == items.size)=ah then _ else _) _ _ s
 rw[if_pos ac9]
 refine bF (m:=cS.Tuple.tupleIsExact _) ?_
 unfold cS.Tuple.tupleIsExact
 refine bF (wpAny_typeOf aM.typeIs (dP ?_))
 rw[if_pos (by decide)]
 first
  |exact bF (wpAny_rule (dP ⟨_,I,dP h⟩))
  |exact bF (wpAny_rule (bF (dP (dP ⟨_,I,dP h⟩))))
end
section
variable {X:bS}
theorem Tg:m8 X (fun x lo ay H Q=>∃a xs,x=.ref a/\gd X.K H a xs/\cA.cV xs.length 0 lo=0/\cA.cV xs.length xs.length ay=xs.length/\Q (.ref a) H):=by
 intro ar s U H x v iy iz lo ay dp Q aa bp hs pl pu h
 obtain⟨a,xs,rfl,ao,ai,aj,q⟩:=h
 cases bp
 obtain⟨bt,r,aM,bz⟩:=aa.tuple ao
 have cM:bt.toArray.size=xs.length:=by rw[eo];exact r.length.symm
 refine⟨"tuple",_,PyProof.Rows.slot_tuple_getitem.lookup,aM.typeIs,?_⟩
 exact cA.abk aM hs pl pu (by rw[cM];exact ai) (by rw[cM];exact aj) ⟨.ref a,H,aa,I,q⟩
noncomputable def Iw(cC:X.A.units+64<cLine):=dQ.or (qR (X:=X)) (Us cC)
noncomputable def t9:=m8.or (m8.or (Ui (X:=X)) Tg) (qW (X:=X))
end
end c0
end
variable {vs:List c0.V} {ds:List c0.D}
section
namespace c0
open PySem PySem.W PySem.Spec PyProof.Rows
structure fU where
 has:af->Prop
noncomputable instance:Membership af fU:=⟨fun X a=>X.has a⟩
noncomputable def fU.s5(l:af)(X:fU):fU:=⟨fun a=>a=l\/a∈X⟩
theorem fU.hd{l:af}{X:fU}:l∈fU.s5 l X :=.inl rfl
theorem fU.dd{l:af}{X:fU}(h:a∈X):a∈fU.s5 l X :=.inr h
noncomputable def fU.of(H:aq):fU:=⟨fun a=>∃o,H a=J o⟩
mutual
noncomputable def c8{α:Type}[Membership af α](X:α)(H:aq):D->V->Prop
 |.aT,v=>v=.aT
 |.aQ b,v=>v=.aQ b
 |.int i,v=>v=.int i
 |.str s,v=>v=.str s/\s.length<=100000
 |.tup ds,v=>∃a vs,v=.ref a/\a∉X/\H a=J (.tup vs)/\bP X H ds vs/\vs.length<=1000
 |.lst ds,v=>∃a vs,v=.ref a/\a∉X/\H a=J (.lst vs)/\bP X H ds vs/\vs.length<=1000
noncomputable def bP{α:Type}[Membership af α](X:α)(H:aq):List D->List V->Prop
 |[],vs=>vs=[]
 |d::ds,vs=>∃v r,vs=v::r/\c8 X H d v/\bP X H ds r
end
mutual
theorem c8.at{α:Type}[Membership af α]{X:α}{H:aq}:∀(d:D){v:V},c8 X H d v->c3 H d v
 |.aT,v,h=>h
 |.aQ b,v,h=>h
 |.int i,v,h=>h
 |.str t,v,h=>h
 |.tup ds,v,h=>by
  obtain⟨a,vs,e,n,ez,q,z⟩:=h
  exact⟨a,vs,e,ez,bP.at ds q,z⟩
 |.lst ds,v,h=>by
  obtain⟨a,vs,e,n,ez,q,z⟩:=h
  exact⟨a,vs,e,ez,bP.at ds q,z⟩
theorem bP.at{α:Type}[Membership af α]{X:α}{H:aq}:∀(ds:List D){vs:List V},bP X H ds vs->bh H ds vs
 |[],vs,h=>h
 |d::ds,vs,h=>by
  obtain⟨v,r,e,q,bX⟩:=h
  exact⟨v,r,e,c8.at d q,bP.at ds bX⟩
end
mutual
theorem c8.keep{α:Type}[Membership af α]{X:α}{H H':aq}(s:∀b u,b∉X->H b=J u->H' b=J u):∀(d:D){v:V},c8 X H d v->c8 X H' d v
 |.aT,v,h=>h
 |.aQ b,v,h=>h
 |.int i,v,h=>h
 |.str t,v,h=>h
 |.tup ds,v,h=>by
  obtain⟨a,vs,e,n,ez,q,z⟩:=h
  exact⟨a,vs,e,n,s _ _ n ez,bP.keep s ds q,z⟩
 |.lst ds,v,h=>by
  obtain⟨a,vs,e,n,ez,q,z⟩:=h
  exact⟨a,vs,e,n,s _ _ n ez,bP.keep s ds q,z⟩
theorem bP.keep{α:Type}[Membership af α]{X:α}{H H':aq}(s:∀b u,b∉X->H b=J u->H' b=J u):∀(ds:List D){vs:List V},bP X H ds vs->bP X H' ds vs
 |[],vs,h=>h
 |d::ds,vs,h=>by
  obtain⟨v,r,e,q,bX⟩:=h
  exact⟨v,r,e,c8.keep s d q,bP.keep s ds bX⟩
end
mutual
theorem c3.ak{H:aq}:∀(d:D){v:V},c3 H d v->c8 ([]:List af) H d v
 |.aT,v,h=>h
 |.aQ b,v,h=>h
 |.int i,v,h=>h
 |.str t,v,h=>h
 |.tup ds,v,h=>by
  obtain⟨a,vs,e,ez,q,z⟩:=h
  exact⟨a,vs,e,(fun z=>nomatch z),ez,bh.ak ds q,z⟩
 |.lst ds,v,h=>by
  obtain⟨a,vs,e,ez,q,z⟩:=h
  exact⟨a,vs,e,(fun z=>nomatch z),ez,bh.ak ds q,z⟩
theorem bh.ak{H:aq}:∀(ds:List D){vs:List V},bh H ds vs->bP ([]:List af) H ds vs
 |[],vs,h=>h
 |d::ds,vs,h=>by
  obtain⟨v,r,e,q,bX⟩:=h
  exact⟨v,r,e,c3.ak d q,bh.ak ds bX⟩
end
mutual
theorem c8.add{X:List af}{H:aq}{l:af}(aD:H l=aw):∀(d:D){v:V},c8 X H d v->c8 (l::X) H d v
 |.aT,v,h=>h
 |.aQ b,v,h=>h
 |.int i,v,h=>h
 |.str t,v,h=>h
 |.tup ds,v,h=>by
  obtain⟨a,vs,e,n,ez,q,z⟩:=h
  exact⟨a,vs,e,fun y=>(c9.mp y).elim (fun y=>by rw[y,aD]at ez;cases ez) n,ez,bP.add aD ds q,z⟩
 |.lst ds,v,h=>by
  obtain⟨a,vs,e,n,ez,q,z⟩:=h
  exact⟨a,vs,e,fun y=>(c9.mp y).elim (fun y=>by rw[y,aD]at ez;cases ez) n,ez,bP.add aD ds q,z⟩
theorem bP.add{X:List af}{H:aq}{l:af}(aD:H l=aw):∀(ds:List D){vs:List V},bP X H ds vs->bP (l::X) H ds vs
 |[],vs,h=>h
 |d::ds,vs,h=>by
  obtain⟨v,r,e,q,bX⟩:=h
  exact⟨v,r,e,c8.add aD d q,bP.add aD ds bX⟩
end
mutual
theorem c8.weak{α:Type}[Membership af α]{X Y:α}{H:aq}(hs:∀x,x∈X->x∈Y):∀(d:D){v:V},c8 Y H d v->c8 X H d v
 |.aT,v,h=>h
 |.aQ b,v,h=>h
 |.int i,v,h=>h
 |.str t,v,h=>h
 |.tup ds,v,h=>by
  obtain⟨a,vs,e,n,ez,q,z⟩:=h
  exact⟨a,vs,e,fun y=>n (hs _ y),ez,bP.weak hs ds q,z⟩
 |.lst ds,v,h=>by
  obtain⟨a,vs,e,n,ez,q,z⟩:=h
  exact⟨a,vs,e,fun y=>n (hs _ y),ez,bP.weak hs ds q,z⟩
theorem bP.weak{α:Type}[Membership af α]{X Y:α}{H:aq}(hs:∀x,x∈X->x∈Y):∀(ds:List D){vs:List V},bP Y H ds vs->bP X H ds vs
 |[],vs,h=>h
 |d::ds,vs,h=>by
  obtain⟨v,r,e,q,bX⟩:=h
  exact⟨v,r,e,c8.weak hs d q,bP.weak hs ds bX⟩
end
theorem c8.same[Membership af α]{X:α}(s:ef H H'){d:D}(h:c8 X H d v):c8 X H' d v:=c8.keep (fun b u _ e=>s b u e) d h
theorem bP.same[Membership af α]{X:α}(s:ef H H')(h:bP X H ds vs):bP X H' ds vs:=bP.keep (fun b u _ e=>s b u e) ds h
theorem bP.snoc{α:Type}[Membership af α]{X:α}{H:aq}{d:D}{v:V}(hd:c8 X H d v):∀(ds:List D){vs:List V},bP X H ds vs->bP X H (ds++[d]) (vs++[v])
 |[],vs,h=>by
  obtain rfl:vs=[]:=h
  exact⟨v,[],I,hd,I⟩
 |e::ds,vs,h=>by
  obtain⟨w,r,rfl,q,bX⟩:=h
  exact⟨w,r++[v],I,q,bP.snoc hd ds bX⟩
end c0
end
section
namespace cA
open PySem PyProof.Rows
section
open PySem.SeqAt
open PySem.AutoSeq1 (wpAny_loadPart')
open PySem.MeetsSeq PySem.MeetsSeq2 PySem.MeetsSeq3 PySem.SeqRoads2
theorem xC:∀{vs:List au}{ns:List Int},IntsAre vs ns->∀i(h:i<vs.length),∃x t,vs[i]?=J (.int x t)/\ns.drop i=x::ns.drop (i+1)
 |_,_,.nil,i,h=>absurd h (Nat.not_lt_zero _)
 |_,_,.cons x t r,0,h=>⟨x,t,rfl,rfl⟩
 |_,_,.cons x t r,i+1,h=>xC r i (Nat.lt_of_succ_lt_succ h)
theorem TP(l b:af)(items hn:Array au)(n dc:Nat)(hX kb:Option af)(dp kl:Array (Option au))(ns ms:List Int)(ay:IntsAre items.toList ns)(b2:IntsAre hn.toList ms)(k:Nat):
  ∀i:Nat,items.size-i=k->i<=items.size->i<=hn.size->Meets (cS.«list.__eq__.loop» ⟨[.ref l,.ref b,rawInt i,rawInt 0],[]⟩)
   (fun A R s=>s.heap.get? l=J {cls :=.type "list",dict:=hX,data :=.seq items n,slots:=dp}/\s.heap.get? b=J {cls :=.type "list",dict:=kb,data :=.seq hn dc,slots:=kl}/\R (.ok (.ret (.bool (lexLt (ns.drop i) (ms.drop i))))) s):=by
 have cP:items.size=ns.length:=by rw[<-ay.length];simp
 have cL:hn.size=ms.length:=by rw[<-b2.length];simp
 induction k with
 | zero =>
  intro i hk ai aj prog w A R s h
  obtain⟨aY,g,d,dK,os⟩:=s;obtain⟨aD,ag,h⟩:=h
  wp_walk using wpAny_loadPart' aD,wpAny_loadPart' ag
  have qH:items[((i:Nat):Int).toNat]?=aw:=by simp;omega
  rw[qH]
  wp_walk using wpAny_loadPart' aD,wpAny_loadPart' ag
  have aS:ns.drop i=[]:=List.drop_eq_nil_of_le (by omega)
  have e:lexLt (ns.drop i) (ms.drop i)=decide (items.size<hn.size):=by
   rw[aS]
   cases hd:ms.drop i with
   |nil =>
    have:=congrArg List.length hd
    rw[je,List.length_nil]at this
    exact(fC (by omega)).symm
   |cons y r =>
    have:=congrArg List.length hd
    rw[je,d6]at this
    exact(eu (by omega)).symm
  rw[e]at h
  exact h
 | succ k bT =>
  intro i hk ai aj prog w A R s h
  obtain⟨aY,g,d,dK,os⟩:=s;obtain⟨aD,ag,h⟩:=h
  have h9:i<items.size:=by omega
  obtain⟨x,t,ao,ex⟩:=xC ay i (by simpa using h9)
  have ao:items[i]?=J (.int x t):=by simpa using ao
  wp_walk using wpAny_loadPart' aD,wpAny_loadPart' ag
  have qH:items[((i:Nat):Int).toNat]?=J (.int x t):=by simpa using ao
  rw[qH]
  by_cases bE:i<hn.size
  ·obtain⟨y,u,aU,rG⟩:=xC b2 i (by simpa using bE)
   have aU:hn[i]?=J (.int y u):=by simpa using aU
   have oL:hn[((i:Nat):Int).toNat]?=J (.int y u):=by simpa using aU
   have hc:((i:Int)+1)=((i+1:Nat):Int):=by omega
   rw[oL]
   rw[ex,rG,v7]at h
   refine bF (EqAt.int_int x t y u prog w _ _ ?_)
   cases lE:(x == y)with
   | true =>
    have r1:x=y:=by simpa using lE
    rw[if_pos r1]at h
    wp_walk
    rw[hc]
    exact⟨plainId_quiet plain_eq_loop _,codeAny_builtin entry_eq_loop (by
     rw[dF.under_plainId plain_eq_loop _]
     exact bT (i+1) (by omega) (by omega) (by omega) prog w A R _ ⟨aD,ag,h⟩)⟩
   |false =>
    have r1:¬x=y:=by simpa using lE
    rw[if_neg r1]at h
    wp_walk using wpAny_loadPart' aD,wpAny_loadPart' ag
    rw[qH,oL]
    refine bF (Zi _ _ x t y u prog w _ _ ?_)
    wp_walk
    exact h
  ·have oL:hn[((i:Nat):Int).toNat]?=aw:=by simp;omega
   rw[oL]
   wp_walk using wpAny_loadPart' aD,wpAny_loadPart' ag
   have aV:ms.drop i=[]:=List.drop_eq_nil_of_le (by omega)
   have e:lexLt (ns.drop i) (ms.drop i)=decide (items.size<hn.size):=by
    rw[aV,ex,V0]
    exact(fC (by omega)).symm
   rw[e]at h
   exact h
theorem adM(l b:af)(items hn:Array au)(n dc:Nat)(hX kb:Option af)(dp kl:Array (Option au))(ns ms:List Int)(ay:IntsAre items.toList ns)(b2:IntsAre hn.toList ms):
  Meets (cS.«list.__lt__» ⟨[.ref l,.ref b],[]⟩)
   (fun A R s=>s.heap.get? l=J {cls :=.type "list",dict:=hX,data :=.seq items n,slots:=dp}/\s.heap.get? b=J {cls :=.type "list",dict:=kb,data :=.seq hn dc,slots:=kl}/\R (.ok (.ret (.bool (lexLt ns ms)))) s):=by
 intro prog w A R s h
 obtain⟨aY,g,d,dK,os⟩:=s;obtain⟨aD,ag,h⟩:=h
 have hL:=AutoSeq1.sub_list_list
 wp_walk using wpAny_loadPart' aD,wpAny_loadPart' ag
 exact⟨plainId_quiet plain_eq_loop _,codeAny_builtin entry_eq_loop (by
  rw[dF.under_plainId plain_eq_loop _]
  exact TP l b items hn n dc hX kb dp kl ns ms ay b2 _ 0 I (UF _) (UF _) prog w A R _ ⟨aD,ag,h⟩)⟩
end
end cA
namespace c0
open PySem PySem.W PySem.Spec PyProof.Rows
section
variable {X:bS}
def ag0(K:bM):hR:=fun x y H Q=>∃a b ns ms,x=.ref a/\y=.ref b/\cK K H a (ns.map V.int)/\cK K H b (ms.map V.int)/\Q (.aQ (cA.lexLt ns ms)) H
theorem TA(cC:X.A.units+64<cLine):dQ X (gW .Lt) (ag0 X.K):=by
 intro ar s U H x y v u Q aa bp cn h
 obtain⟨a,b,ns,ms,rfl,rfl,aJ,ag,q⟩:=h
 cases bp
 cases cn
 obtain⟨bt,cv,cU,_⟩:=aa.list aJ
 obtain⟨eT,dZ,cf,_⟩:=aa.list ag
 have dR:IntsAre bt.toArray.toList ns:=AJ cv
 have da:IntsAre eT.toArray.toList ms:=AJ dZ
 obtain⟨⟨cls,hX,data,dp⟩,aH,hc,n,hd⟩:=id cU.isList
 obtain⟨⟨Gq,kb,data2,kl⟩,mI,lF,dc,dh⟩:=id cf.isList
 simp only at hc hd lF dh
 subst hc hd lF dh
 exact richCompare_meets_room (op := .Lt) ⟨_,aH,I⟩ ⟨_,mI,I⟩ PySem.F.slot_list_lt PySem.F.entry_list_lt (PySem.F.args_list_lt_2 _ _) (cA.adM a b bt.toArray eT.toArray n dc hX kb dp kl ns ms dR da)
  ⟨aH,mI,show au.bool (cA.lexLt ns ms)≠au.notImplemented/\_ from⟨(fun x=>nomatch x),⟨.aQ (cA.lexLt ns ms),H,aa,rfl,q⟩⟩⟩ (by omega)
noncomputable def aeL(cC:X.A.units+64<cLine):=dQ.or (jm (X:=X)) (TA cC)
end
end c0
end
variable {r:List Bool} {F R':List (List Bool)}
section
namespace ea
open PySem c0
theorem LQ:∀(a x:List Nat),¬a++x<a
 |[],x=>by rw[List.nil_append];exact List.not_lt_nil x
 |c::a,x=>fun h=>by
  rw[List.cons_append]at h
  rcases List.cons_lt_cons_iff.mp h with h|⟨_,h⟩
  .exact absurd h (Nat.lt_irrefl _)
  .exact LQ a x h
theorem AA{a b:List Bool}(h:a <+: b):¬(aP b).cps.toList<(aP a).cps.toList:=by
 obtain⟨x,rfl⟩:=h
 rw[iC,iC,fo]
 exact LQ _ _
def z7(a b:List Bool):Prop:=a=b\/Sep a b\/Sep b a
theorem Ld:∀{F R:List (List Bool)},F.length<=R.length->(∀(j:Nat)(a b:List Bool),F[j]?=J a->R[j]?=J b->z7 b a)->(∃R',R=F++R')\/(¬(∃R',R=F++R')/\(Sep R.flatten F.flatten\/Sep F.flatten R.flatten))
 |[],R,_,_ =>.inl ⟨R,rfl⟩
 |a::F,[],h,_=>absurd h (by simp)
 | a::F,b::R,h,aM=>by
  have bg:=aM 0 a b rfl rfl
  have no:b≠a->¬∃R',b::R=(a::F)++R':=fun aW ⟨R',e⟩=>by
   rw[List.cons_append]at e
   injection e with aS _
   exact aW aS
  have O3:∀{x y:List Bool},Sep x y->x≠y:=fun s e=>s.np (e ▸ List.prefix_refl _)
  rw[j8,j8]
  rcases bg with rfl|s|s
  ·rcases Ld (F:=F) (R:=R) (by simpa using h) (fun j x y ao aU=>aM (j+1) x y ao aU)with⟨R',e⟩|⟨aW,s⟩
   .exact .inl ⟨R',by rw[e];rfl⟩
   ·refine .inr ⟨fun⟨R',e⟩=>aW ⟨R',?_⟩,s.imp (·.pre _) (·.pre _)⟩
    rw[List.cons_append]at e
    injection e
  .exact .inr ⟨no (O3 s),.inl (s.post _ _)⟩
  .exact .inr ⟨no (O3 s).symm,.inr (s.post _ _)⟩
theorem Zb{lo:List Bool}(h:z7 r lo):¬((aP (F++r::R').flatten).cps.toList<(aP (F.flatten++lo)).cps.toList)↔¬Sep r lo:=by
 rw[List.flatten_append,j8]
 constructor
 ·intro aW s
  exact aW (qt (by have:=(s.post R'.flatten []).pre F.flatten;rwa [List.append_nil]at this))
 ·intro aW
  rcases h with rfl|s|s
  .exact AA ⟨R'.flatten,by rw[gD]⟩
  .exact absurd s aW
  .exact sW (by have:=(s.post [] R'.flatten).pre F.flatten;rwa [List.append_nil]at this)
theorem Ya{ay:List Bool}(h:z7 r ay):((aP (F++r::R').flatten).cps.toList<(aP (F.flatten++ay)).cps.toList)↔Sep r ay:=by
 rw[List.flatten_append,j8]
 constructor
 ·intro aW
  rcases h with rfl|s|s
  .exact absurd aW (AA ⟨R'.flatten,by rw[gD]⟩)
  .exact s
  .exact absurd aW (sW (by have:=(s.post [] R'.flatten).pre F.flatten;rwa [List.append_nil]at this))
 ·intro s
  exact qt (by have:=(s.post R'.flatten []).pre F.flatten;rwa [List.append_nil]at this)
theorem W3{b x:List Bool}:(aP ((b++aF::List.replicate n ah)++x)).cps.toList<(aP (b++[ah])).cps.toList :=
 qt ⟨b,List.replicate n ah++x,[],by rw[gD];rfl,rfl⟩
variable {g:List Bool}
theorem X9{b:List Bool}(h:Sep (b++aF::List.replicate n ah) g):¬(aP g).cps.toList<(aP (b++[ah])).cps.toList:=by
 obtain⟨c,x,y,e,rfl⟩:=h
 rcases Nat.lt_trichotomy c.length b.length with aD|aD|aD
 ·have aY:c++[aF] <+: b:=by
   have ai:c++[aF] <+: b++aF::List.replicate n ah:=⟨x,by rw[e,gD];rfl⟩
   exact List.prefix_of_prefix_length_le ai (List.prefix_append ..) (by rw[dX,ku];omega)
  obtain⟨z,rfl⟩:=aY
  exact sW ⟨c,z++[ah],y,by simp,rfl⟩
 ·have aV:=List.append_inj e aD.symm
  rw[aV.1]
  exact AA ⟨y,by simp⟩
 ·exfalso
  have ai:(b++aF::List.replicate n ah)[c.length]?=J aF:=by rw[e,List.getElem?_append_right (b8 _),Nat.sub_self];rfl
  rw[List.getElem?_append_right (by omega)]at ai
  obtain⟨k,hk⟩:∃k,c.length-b.length=k+1:=⟨c.length-b.length-1,by omega⟩
  rw[hk,List.getElem?_cons_succ,List.getElem?_replicate]at ai
  split at ai<;>cases ai
theorem TN:¬Sep (List.replicate n ah) g:=by
 rintro⟨c,x,y,e,_⟩
 have ai:(List.replicate n ah)[c.length]?=J aF:=by rw[e,List.getElem?_append_right (b8 _),Nat.sub_self];rfl
 rw[List.getElem?_replicate]at ai
 split at ai<;>cases ai
noncomputable def tH(e:Int->List Bool)(v3:List Int):List Bool:=(v3.map fun x=>ah::e x).flatten++[aF]
theorem Lm{e:Int->List Bool}{P:Int->Prop}(he:∀x y,P x->P y->x<y->Sep (e x) (e y)):∀{a b:List Int},(∀x,x∈a->P x)->(∀x,x∈b->P x)->cA.lexLt a b=ah->Sep (tH e a) (tH e b)
 |[],[],_,_,h=>by cases h
 |[],y::b,_,_,_=>⟨[],[],e y++((b.map fun x=>ah::e x).flatten++[aF]),rfl,by unfold tH;simp⟩
 |x::a,[],_,_,h=>by cases h
 | x::a,y::b,aJ,ag,h=>by
  have dz:∀z l,tH e (z::l)=(ah::e z)++tH e l:=fun z l=>by unfold tH;rw[fD,j8,gD]
  rw[dz,dz]
  rw[cA.v7]at h
  by_cases ao:x=y
  ·subst ao
   rw[if_pos rfl]at h
   exact(Lm he (fun z bz=>aJ z (en _ bz)) (fun z bz=>ag z (en _ bz)) h).pre _
  ·rw[if_neg ao]at h
   exact(((he x y (aJ x (gF ..)) (ag y (gF ..)) (hg h)).pre [ah]).post _ _)
end ea
end
section
namespace cA
open PySem PyProof.Rows
section
open PySem.SeqAt
open PySem.AutoSeq1 (wpAny_loadPart')
open PySem.MeetsSeq PySem.MeetsSeq2 PySem.MeetsSeq3 PySem.SeqRoads2
theorem XR[DecidableEq α]{β:Type}(x y:α){a b:β}:(if y=x then a else b)=if x=y then a else b:=by
 by_cases h:x=y
 .rw[if_pos h,if_pos h.symm]
 .rw[if_neg h,if_neg (eF h)]
theorem Zj(A:dF)(s:aO)(a:Int)(t:Tok)(c:Int)(u:Tok)(prog:dA)(w:cZ)(E:au->aO->Prop)(Q:au->aO->Prop)(h:Q (.bool (decide (c<a))) s):
  bN (model prog w) A (richCompare .Gt (.int a t) (.int c u)) Q E s :=
 (PyProof.Rows.gt_int h:bN (model prog w) A (gW .Gt (.int a t) (.int c u)) Q E s)
theorem TZ(l b:af)(items hn:Array au)(n dc:Nat)(hX kb:Option af)(dp kl:Array (Option au))(ns ms:List Int)(ay:IntsAre items.toList ns)(b2:IntsAre hn.toList ms)(k:Nat):
  ∀i:Nat,items.size-i=k->i<=items.size->i<=hn.size->Meets (cS.«list.__eq__.loop» ⟨[.ref l,.ref b,rawInt i,rawInt 4],[]⟩)
   (fun A R s=>s.heap.get? l=J {cls :=.type "list",dict:=hX,data :=.seq items n,slots:=dp}/\s.heap.get? b=J {cls :=.type "list",dict:=kb,data :=.seq hn dc,slots:=kl}/\R (.ok (.ret (.bool (lexLt (ms.drop i) (ns.drop i))))) s):=by
 have cP:items.size=ns.length:=by rw[<-ay.length];simp
 have cL:hn.size=ms.length:=by rw[<-b2.length];simp
 induction k with
 | zero =>
  intro i hk ai aj prog w A R s h
  obtain⟨aY,g,d,dK,os⟩:=s;obtain⟨aD,ag,h⟩:=h
  wp_walk using wpAny_loadPart' aD,wpAny_loadPart' ag
  have qH:items[((i:Nat):Int).toNat]?=aw:=by simp;omega
  rw[qH]
  wp_walk using wpAny_loadPart' aD,wpAny_loadPart' ag
  have aS:ns.drop i=[]:=List.drop_eq_nil_of_le (by omega)
  have e:lexLt (ms.drop i) (ns.drop i)=decide (hn.size<items.size):=by
   rw[aS]
   cases hd:ms.drop i with
   |nil=>exact(fC (by omega)).symm
   |cons y r=>exact(fC (by omega)).symm
  rw[e]at h
  exact h
 | succ k bT =>
  intro i hk ai aj prog w A R s h
  obtain⟨aY,g,d,dK,os⟩:=s;obtain⟨aD,ag,h⟩:=h
  have h9:i<items.size:=by omega
  obtain⟨x,t,ao,ex⟩:=xC ay i (by simpa using h9)
  have ao:items[i]?=J (.int x t):=by simpa using ao
  wp_walk using wpAny_loadPart' aD,wpAny_loadPart' ag
  have qH:items[((i:Nat):Int).toNat]?=J (.int x t):=by simpa using ao
  rw[qH]
  by_cases bE:i<hn.size
  ·obtain⟨y,u,aU,rG⟩:=xC b2 i (by simpa using bE)
   have aU:hn[i]?=J (.int y u):=by simpa using aU
   have oL:hn[((i:Nat):Int).toNat]?=J (.int y u):=by simpa using aU
   have hc:((i:Int)+1)=((i+1:Nat):Int):=by omega
   rw[oL]
   rw[ex,rG,v7,XR x y]at h
   refine bF (EqAt.int_int x t y u prog w _ _ ?_)
   cases lE:(x == y)with
   | true =>
    have r1:x=y:=by simpa using lE
    rw[if_pos r1]at h
    wp_walk
    rw[hc]
    exact⟨plainId_quiet plain_eq_loop _,codeAny_builtin entry_eq_loop (by
     rw[dF.under_plainId plain_eq_loop _]
     exact bT (i+1) (by omega) (by omega) (by omega) prog w A R _ ⟨aD,ag,h⟩)⟩
   |false =>
    have r1:¬x=y:=by simpa using lE
    rw[if_neg r1]at h
    wp_walk using wpAny_loadPart' aD,wpAny_loadPart' ag
    rw[qH,oL]
    refine bF (Zj _ _ x t y u prog w _ _ ?_)
    wp_walk
    exact h
  ·have oL:hn[((i:Nat):Int).toNat]?=aw:=by simp;omega
   rw[oL]
   wp_walk using wpAny_loadPart' aD,wpAny_loadPart' ag
   have aV:ms.drop i=[]:=List.drop_eq_nil_of_le (by omega)
   have e:lexLt (ms.drop i) (ns.drop i)=decide (hn.size<items.size):=by
    rw[aV,ex,VZ]
    exact(eu (by omega)).symm
   rw[e]at h
   exact h
theorem adK(l b:af)(items hn:Array au)(n dc:Nat)(hX kb:Option af)(dp kl:Array (Option au))(ns ms:List Int)(ay:IntsAre items.toList ns)(b2:IntsAre hn.toList ms):
  Meets (cS.«list.__gt__» ⟨[.ref l,.ref b],[]⟩)
   (fun A R s=>s.heap.get? l=J {cls :=.type "list",dict:=hX,data :=.seq items n,slots:=dp}/\s.heap.get? b=J {cls :=.type "list",dict:=kb,data :=.seq hn dc,slots:=kl}/\R (.ok (.ret (.bool (lexLt ms ns)))) s):=by
 intro prog w A R s h
 obtain⟨aY,g,d,dK,os⟩:=s;obtain⟨aD,ag,h⟩:=h
 have hL:=AutoSeq1.sub_list_list
 wp_walk using wpAny_loadPart' aD,wpAny_loadPart' ag
 exact⟨plainId_quiet plain_eq_loop _,codeAny_builtin entry_eq_loop (by
  rw[dF.under_plainId plain_eq_loop _]
  exact TZ l b items hn n dc hX kb dp kl ns ms ay b2 _ 0 I (UF _) (UF _) prog w A R _ ⟨aD,ag,h⟩)⟩
end
end cA
namespace c0
open PySem PySem.W PySem.Spec PyProof.Rows
section
variable {X:bS}
def agW(K:bM):hR:=fun x y H Q=>∃a b ns ms,x=.ref a/\y=.ref b/\cK K H a (ns.map V.int)/\cK K H b (ms.map V.int)/\Q (.aQ (cA.lexLt ms ns)) H
theorem TC(cC:X.A.units+64<cLine):dQ X (gW .Gt) (agW X.K):=by
 intro ar s U H x y v u Q aa bp cn h
 obtain⟨a,b,ns,ms,rfl,rfl,aJ,ag,q⟩:=h
 cases bp
 cases cn
 obtain⟨bt,cv,cU,_⟩:=aa.list aJ
 obtain⟨eT,dZ,cf,_⟩:=aa.list ag
 have dR:IntsAre bt.toArray.toList ns:=AJ cv
 have da:IntsAre eT.toArray.toList ms:=AJ dZ
 obtain⟨⟨cls,hX,data,dp⟩,aH,hc,n,hd⟩:=id cU.isList
 obtain⟨⟨Gq,kb,data2,kl⟩,mI,lF,dc,dh⟩:=id cf.isList
 simp only at hc hd lF dh
 subst hc hd lF dh
 exact richCompare_meets_room (op := .Gt) ⟨_,aH,I⟩ ⟨_,mI,I⟩ PySem.F.slot_list_gt PySem.F.entry_list_gt (PySem.F.args_list_gt_2 _ _) (cA.adK a b bt.toArray eT.toArray n dc hX kb dp kl ns ms dR da)
  ⟨aH,mI,show au.bool (cA.lexLt ms ns)≠au.notImplemented/\_ from⟨(fun x=>nomatch x),⟨.aQ (cA.lexLt ms ns),H,aa,rfl,q⟩⟩⟩ (by omega)
noncomputable def aeI(cC:X.A.units+64<cLine):=dQ.or (jG (X:=X)) (TC cC)
def Pg(f:Int->Int->Bool):hR:=fun x y H Q=>∃a b,x=.aQ a/\y=.aQ b/\Q (.aQ (f (b2i a) (b2i b))) H
theorem TB:dQ X (gW .Lt) (Pg fun i j=>decide (i<j)):=by
 intro ar s U H x y v u Q aa bp cn h
 obtain⟨a,b,rfl,rfl,q⟩:=h
 cases bp
 cases cn
 exact lt_bool (fc aa q I)
theorem TF:dQ X (gW .Gt) (Pg fun i j=>decide (j<i)):=by
 intro ar s U H x y v u Q aa bp cn h
 obtain⟨a,b,rfl,rfl,q⟩:=h
 cases bp
 cases cn
 exact gt_bool (fc aa q I)
noncomputable def aeK(cC:X.A.units+64<cLine):=dQ.or (aeL (X:=X) cC) TB
noncomputable def aeH(cC:X.A.units+64<cLine):=dQ.or (aeI (X:=X) cC) TF
end
end c0
end
section
namespace c0
open PySem PySem.W PySem.Spec PyProof.Rows
end c0
end
section
namespace ea
open PySem c0
inductive R (α:Type) where
 |ok (a:α) (s:List Bool)
 |no (w:Bool) (k:Nat)
 |st
noncomputable def R.bd{α β:Type}:R α->(α->List Bool->R β)->R β
 |.ok a s,f=>f a s
 |.no w k,_ =>.no w k
 |.st,_ =>.st
noncomputable def R.iN{α:Type}:R α->R α
 |.ok a s =>.ok a (s.map (!·))
 |.no w k =>.no w k
 |.st =>.st
noncomputable def hj(e u:Bool):List Bool->R Bool
 |b::s =>.ok b s
 |[]=>if e=ah then .ok u []else .no aF 0
end ea
end
section
namespace c0
open PySem PySem.W PySem.Spec PyProof.Rows
variable {r:hR}
section
variable {X:bS} {a b:cO} {cH dO:TE} {aZ:Pos}
theorem bO(i:Nat)(b3:X.N.Nodup)(he:cz X e cI)(ay:X.N[i]?=J x:=by rfl)(ao:Loc X.env.scope x:=by first|exact Or.inl I|exact Or.inr I)(hs:swapsWith e (J (.Name x pos')) aZ.line X.env=pure aF:=by rfl)(az:X.fn x=ah\/X.env.scope.names.lookup x=J .local:=by first|exact .inl I|exact .inr I|assumption):
  lr X (.Assign [.Name x pos'] e aZ) (wB cI (vu i)):=Uk b3 ay ao he hs az
theorem fO(aH:dQ X (gW op) r)(aJ:cz X a cH)(ag:cz X b dO)(h:op≠.In:=by decide)(aj:op≠.NotIn:=by decide):cz X (.Compare a [op] [b] aZ) (lL r cH dO):=Mg aH aJ ag (ML _ h aj)
theorem b0(aH:dQ X (gW op) r)(aJ:cz X a cH)(ag:cz X b dO)(h:op≠.In:=by decide)(aj:op≠.NotIn:=by decide):kM X (.Compare a [op] [b] aZ) (qZ (lL r cH dO)):=Bc aH aJ ag (ML _ h aj)
theorem bG(ax:oc X r)(aJ:cz X a cH)(ag:cz X b dO)(hs:JT b:=by intro _ _;rfl):cz X (.Subscript a b aZ) (lL r cH dO):=UQ ax aJ ag hs
theorem hi(aJ:cz X a cH)(he:∀whole,isTrue a X.env whole=(do let v <-whole;standAt a.pos;holding [v] (truthy v)):=by intro _;rfl):
  kM X a (fun U H Q=>cH U H fun x H'=>∃k,z8 X.K x H' k/\Q k H'):=Zm aJ he
end
section
variable {X:bS} {elt jc iter:cO} {ifs:List cO} {dC:Scope} {aZ p:Pos} {iO:dU} {g:Dw gC} {gb:Dw gQ} {cI:Dw TE}
theorem ik(g9:List ae)(gg:List (Nat×ae))(hc:X.calm=ah)(vS:Bz dC (gg.map (·.2))=ah)(yc:so X gg)(ay:jw X jc iter iO)
  (aX:∀cl C s2 av b7,qi (pK X jd dC cl C (g9++gg.map (·.2)) s2 av b7) jc (g cl C s2 av b7))
  (aM:∀cl C s2 av b7,uT (pK X jd dC cl C (g9++gg.map (·.2)) s2 av b7) ifs (gb cl C s2 av b7))
  (he:∀cl C s2 av b7,cz (pK X jd dC cl C (g9++gg.map (·.2)) s2 av b7) elt (cI cl C s2 av b7))
  (iI:∀cl C s2 av b7,g cl C s2 av b7=g [] 0 X.eE X.jt []:=by intros;rfl) (iY:∀cl C s2 av b7,gb cl C s2 av b7=gb [] 0 X.eE X.jt []:=by intros;rfl) (rD:∀cl C s2 av b7,cI cl C s2 av b7=cI [] 0 X.eE X.jt []:=by intros;rfl)
  (hs:∀x,foldedSetIterable iter X.env x=pure x:=by intro _;rfl) :
  cz X (.ListComp elt [⟨jc,iter,ifs,0⟩] dC aZ) (I8 iO (g [] 0 X.eE X.jt []) (gb [] 0 X.eE X.jt []) (cI [] 0 X.eE X.jt []) (pJ g9 gg)):=by
 intro ar s U H Q aa h
 rw[eval_ListComp]
 refine K0 (use:=aw) (.inr fun _ _ _ z=>z) hc vS yc ay (fun cl C s2 av b7=>iI cl C s2 av b7 ▸ aX cl C s2 av b7) (fun cl C s2 av b7=>iY cl C s2 av b7 ▸ aM cl C s2 av b7) (fun cl C s2 av b7=>rD cl C s2 av b7 ▸ he cl C s2 av b7) aa h (fun D C H' bl h3 q qF ai aj bE cQ b4=>?_) hs
 obtain⟨m,hm⟩:=b4
 refine⟨m,hm,fun h' HV=>?_⟩
 exact⟨.ref D,H',h3.turned (t':=bl.toks) (fun b o ag e=>HV.extBut b o ag e) qF ai (.inr aj) bE cQ,I,q⟩
theorem sN{py QY:Pos}(g9:List ae)(gg:List (Nat×ae))(b3:X.N.Nodup)(ach:X.N[i]?=J y)(aU:X.env.scope.names.lookup y=J .local)(hc:X.calm=ah)(vS:Bz dC (gg.map (·.2))=ah)(yc:so X gg)(ay:jw X jc iter iO)
  (aX:∀cl C s2 av b7,qi (pK X jd dC cl C (g9++gg.map (·.2)) s2 av b7) jc (g cl C s2 av b7))
  (aM:∀cl C s2 av b7,uT (pK X jd dC cl C (g9++gg.map (·.2)) s2 av b7) ifs (gb cl C s2 av b7))
  (he:∀cl C s2 av b7,cz (pK X jd dC cl C (g9++gg.map (·.2)) s2 av b7) elt (cI cl C s2 av b7))
  (iI:∀cl C s2 av b7,g cl C s2 av b7=g [] 0 X.eE X.jt []:=by intros;rfl) (iY:∀cl C s2 av b7,gb cl C s2 av b7=gb [] 0 X.eE X.jt []:=by intros;rfl) (rD:∀cl C s2 av b7,cI cl C s2 av b7=cI [] 0 X.eE X.jt []:=by intros;rfl)
  (acW:swapsWith (.ListComp elt [⟨jc,iter,ifs,0⟩] dC aZ) (J (.Name y py)) QY.line X.env=pure ah:=by rfl)
  (hs:∀x,foldedSetIterable iter X.env x=pure x:=by intro _;rfl) :
  lr X (.Assign [.Name y py] (.ListComp elt [⟨jc,iter,ifs,0⟩] dC aZ) QY) (wB (I8 iO (g [] 0 X.eE X.jt []) (gb [] 0 X.eE X.jt []) (cI [] 0 X.eE X.jt []) (pJ g9 gg)) (vu i)):=by
 intro ar s U H D aa h
 rw[exec_Assign_Name_used _ _ _ _ acW]
 refine bF (wpAny_standAt (bF ?_))
 show bN _ X.A (do let _ <-comprehension (.ListComp elt [⟨jc,iter,ifs,0⟩] dC aZ) dC X.env _ (newList []) aF (eval iter X.env) (J (assign (.Name y py) X.env))) _ _ s
 refine bF (dm (K0 (use:=J (assign (.Name y py) X.env)) (Qf:=fun _ bl=>uW X ar D .next bl) (.inr fun _ _ _ z=>z) hc vS yc ay (fun cl C s2 av b7=>iI cl C s2 av b7 ▸ aX cl C s2 av b7) (fun cl C s2 av b7=>iY cl C s2 av b7 ▸ aM cl C s2 av b7) (fun cl C s2 av b7=>rD cl C s2 av b7 ▸ he cl C s2 av b7) aa h (fun ob C H' bl h3 q qF ai aj bE cQ b4=>?_) hs) fun _ bl bj=>dP (dP bj))
 obtain⟨m,hm⟩:=b4
 show bN _ X.A (assign (.Name y py) X.env (.ref ob)) _ _ _
 refine wpAny_assign_Name (K6 h3 b3 ach (.inl aU) (v :=.ref ob) I (fun o2 Sj b4=>?_) (.inr aU))
 obtain⟨a,HV,aJ⟩:=b4
 have BS:C≠a:=by
  rcases aJ with z|z
  .rw[z];exact ai
  .exact eF (bE _ _ z)
 refine⟨m,hm.sameBut HV BS,fun h' acQ=>?_⟩
 exact⟨_,H',Sj.turned (t':=o2.toks) (fun b o ag e=>acQ.extBut b o ag e) qF ai (.inr aj) bE cQ,q⟩
end
section
variable {P:dA} {w:cZ} {K:bM} {mg:ae->Option au} {base:bA} {x eW:ae} {st:bD} {f:af} {fd:iP} {N aK:List ae} {k:Nat} {sp:cD}
theorem dG.fK(F:dG K x eW st f fd)(S:cc N aK (bR st))(oG:∀(bx:au)(A:dF)(outer:List Env)(s:aO)(H:aq)(vs:List V)(Q:bJ)(E:cN),gB k (A.deeper (envOfC eW (bR st) s.heap.objs.size f bx))->sp vs H Q E->
   ∃t,jx (pL dv P w K mg base N eW (bR st) f bx A outer s H E).r8 (ky st) t/\t {nx:=fun _ H'=>kt H H' (Q .aT),rt:=fun v H'=>kt H H' (Q v)} (start N vs) H)(len:∀vs H Q E,sp vs H Q E->vs.length=aK.length:=by intro vs H Q E h;first|(cases h;subst_vars;rfl)|((repeat (obtain⟨_,h⟩:=h))<;>(subst_vars;rfl))):de P w K mg base dv (k+1) f fd aK sp:=F.O8 S len oG
theorem d1.eO(F:d1 K mg x st aK f fd)(S:cc N aK (bR st))(oG:∀(bx:au)(A:dF)(outer:List Env)(s:aO)(H:aq)(vs:List V)(Q:bJ)(E:cN),gB k (A.deeper (envOfC x (bR st) s.heap.objs.size f bx))->sp vs H Q E->
   ∃t,jx (pL dv P w K mg base N x (bR st) f bx A outer s H E).r8 (ky st) t/\t {nx:=fun _ H'=>kt H H' (Q .aT),rt:=fun v H'=>kt H H' (Q v)} (start N vs) H)(len:∀vs H Q E,sp vs H Q E->vs.length=aK.length:=by intro vs H Q E h;first|(cases h;subst_vars;rfl)|((repeat (obtain⟨_,h⟩:=h))<;>(subst_vars;rfl))):bq P w K mg base (k+1) x aK sp:=F.ok S len oG
end
end c0
end
variable {es dl d4:List c0.D} {q ie:ae} {B:List Nat} {S:c0.e1} {fj:Nat}
namespace KR
open PySem c0 ea
abbrev bb:=@cK.of
abbrev bI:=@gd.of
abbrev dx:=@ef.refl
noncomputable def top(i:Nat):bD:=PySem.Challenge.pw_keyrise_k92_whole_spans_of_a_shelf.main.body.getD i (.Pass ⟨0,0,0,0⟩)
noncomputable section
abbrev As:bD:=top 81
abbrev Ez:bD:=top 80
abbrev AE:bD:=top 77
abbrev AF:bD:=top 76
abbrev Ff:bD:=top 72
abbrev Fe:bD:=top 71
abbrev E0:bD:=top 74
abbrev EZ:bD:=top 73
abbrev EO:bD:=top 75
abbrev Fg:bD:=top 78
abbrev EP:bD:=top 79
abbrev zY:bD:=ew (top 57) 1
abbrev Ag:bD:=ew (top 57) 2
abbrev zZ:bD:=ew (top 57) 4
abbrev zF:bD:=ew (top 45) 0
abbrev Aa:bD:=ew (top 45) 1
abbrev zG:bD:=ew (top 45) 3
abbrev Al:bD:=ew (top 43) 0
abbrev zC:bD:=ew (top 43) 1
abbrev Am:bD:=ew (top 43) 3
abbrev Ar:bD:=ew (top 54) 4
abbrev Aq:bD:=ew (top 54) 1
abbrev zE:bD:=ew (top 54) 2
abbrev kR:bD:=ew (top 40) 0
abbrev Et:bD:=top 32
abbrev ES:bD:=top 22
abbrev EU:bD:=top 21
abbrev EF:bD:=top 27
abbrev E4:bD:=top 26
abbrev Fb:bD:=top 25
abbrev Ex:bD:=top 31
abbrev D3:bD:=top 30
abbrev EE:bD:=top 29
abbrev Ee:bD:=top 28
abbrev Gj:bD:=top 89
abbrev AD:bD:=top 84
abbrev zB:bD:=top 16
abbrev Kj:bD:=ew (top 9) 5
abbrev Fc:bD:=top 64
abbrev Fa:bD:=top 63
abbrev EN:bD:=top 88
abbrev Au:bD:=top 83
abbrev Ak:bD:=top 82
abbrev ER:bD:=top 85
abbrev EM:bD:=top 86
abbrev FF:bD:=top 87
abbrev ED:bD:=top 70
abbrev EW:bD:=ew (top 68) 0
abbrev Ax:bD:=ew (top 68) 1
abbrev Ap:bD:=ew (top 68) 7
abbrev Fq:bD:=top 61
abbrev EV:bD:=top 60
abbrev EI:bD:=ew (top 56) 0
abbrev EJ:bD:=ew (top 57) 0
abbrev E5:bD:=ew (top 44) 0
abbrev EA:bD:=ew (top 46) 0
abbrev EX:bD:=ew (top 54) 0
abbrev E6:bD:=ew (top 55) 0
abbrev EG:bD:=ew (top 58) 0
abbrev E1:bD:=top 38
abbrev Fs:bD:=top 39
abbrev Ft:bD:=top 52
abbrev Fd:bD:=top 53
abbrev E2:bD:=top 19
abbrev EL:bD:=top 13
abbrev Ey:bD:=top 14
abbrev zI:bD:=ew (top 41) 0
abbrev An:bD:=ew (top 42) 0
abbrev EH:bD:=ew (top 9) 0
abbrev zV:bD:=ew (top 9) 1
abbrev zU:bD:=ew (top 9) 2
abbrev ET:bD:=top 23
abbrev Fh:bD:=top 15
abbrev E3:bD:=top 17
abbrev EY:bD:=top 18
abbrev D2:bD:=top 20
abbrev Av:bD:=ew (top 44) 1
abbrev zN:bD:=ew (top 46) 1
abbrev zR:bD:=ew (top 58) 1
abbrev Ay:bD:=ew (top 55) 1
abbrev zW:bD:=ew (top 56) 1
abbrev Ac:bD:=ew (top 41) 1
abbrev zD:bD:=ew (top 42) 1
abbrev zH:bD:=ew (top 44) 2
abbrev Ad:bD:=ew (top 58) 2
abbrev zM:bD:=ew (top 55) 2
abbrev Ae:bD:=ew (top 56) 2
abbrev zL:bD:=ew (top 41) 3
abbrev Ao:bD:=ew (top 42) 3
abbrev Aw:bD:=ew (top 44) 4
abbrev zS:bD:=ew (top 58) 4
abbrev Az:bD:=ew (top 55) 4
abbrev zX:bD:=ew (top 56) 4
abbrev zO:bD:=ew (top 46) 5
abbrev Af:bD:=ew (top 46) 2
abbrev Wp:bD:=ew (top 46) 3
abbrev zT:bD:=ew (top 9) 4
end
theorem nf:cc ["_law_pool_here","_law_form_here","_law_word","_law_cell","_law_size","_law_text","_law_k","_law_name","_law_inner"] ["_law_pool_here","_law_form_here"] (bR As):=cy
theorem rl:cc ["_law_one","_law_other","_law_top","_law_bottom","_law_low","_law_by","_law_rest"] ["_law_one","_law_other"] (bR Ez):=cy
theorem KJ:cc ["_law_form_here","_law_word"] ["_law_form_here"] (bR AE):=cy
theorem qr:cc ["_law_pool_here","_law_deep","_law_cell","_law_way","_law_many","_law_names_here","_law_inner","_law_k"] ["_law_pool_here","_law_deep"] (bR AF):=cy
theorem W6:cc ["_law_pool_here"] ["_law_pool_here"] (bR Ff):=cy
theorem sM:cc ["_law_script","_law_pool_here","_law_k","_law_number"] ["_law_script"] (bR Fe):=cy
theorem oo:cc ["_law_cell","_law_many","_law_some","_law_size","_law_at","_law_step","_law_number","_law_first","_law_stem","_law_k"] ["_law_cell","_law_many"] (bR E0):=cy
theorem pE:cc ["_law_cell","_law_rest","_law_size","_law_number","_law_found","_law_k","_law_at"] ["_law_cell"] (bR EZ):=cy
theorem EB:cc ["_law_pool_here","_law_way","_law_low","_law_cell"] ["_law_pool_here","_law_way"] (bR EO):=cy
theorem KI:cc ["_law_cell","_law_number"] ["_law_cell"] (bR Fg):=cy
theorem V6:cc ["_law_cell"] ["_law_cell"] (bR EP):=cy
theorem VT:cc ["self","value"] ["self","value"] (bR zY):=cy
theorem Ke:cc ["self","value","place"] ["self","value"] (bR Ag):=cy
theorem Kn:cc ["self","source","place"] ["self","source"] (bR zZ):=cy
theorem Vm:cc ["self","value"] ["self","value"] (bR zF):=cy
theorem U2:cc ["self","value"] ["self","value"] (bR Aa):=cy
theorem Vn:cc ["self","source"] ["self","source"] (bR zG):=cy
theorem V7:cc ["self","value"] ["self","value"] (bR Al):=cy
theorem Vj:cc ["self","value"] ["self","value"] (bR zC):=cy
theorem V8:cc ["self","source"] ["self","source"] (bR Am):=cy
theorem We:cc ["self","source"] ["self","source"] (bR Ar):=cy
theorem Wd:cc ["self","value"] ["self","value"] (bR Aq):=cy
theorem Vl:cc ["self","value"] ["self","value"] (bR zE):=cy
theorem W8:cc ["self","value"] ["self","value"] (bR kR):=cy
theorem Kh:cc ["source","steps"] ["source"] (bR Et):=cy
theorem Kr:cc ["source","n"] ["source"] (bR ES):=cy
theorem zQ:cc ["source","ahead","digits"] ["source"] (bR EU):=cy
theorem sR:cc ["steps","top","bottom","step","turned_over"] ["steps"] (bR EF):=cy
theorem WA:cc ["steps"] ["steps"] (bR E4):=cy
theorem sL:cc ["fraction","steps","top","bottom","rest"] ["fraction"] (bR Fb):=cy
theorem sQ:cc ["steps","last","rows","k","step","row"] ["steps"] (bR Ex):=cy
theorem Kc:cc ["fraction","steps"] ["fraction"] (bR D3):=cy
theorem VJ:cc ["fraction"] ["fraction"] (bR EE):=cy
theorem Ab:cc ["one","other","rest"] ["one","other"] (bR Ee):=cy
theorem j9:cc ["_law_script","_law_pool_here","_law_form_here","_law_made_here","_law_some","_law_cells","_law_shelf","_law_value_here","_law_many","_law_first","_law_low","_law_high","_law_handed","_law_told","_law_due","_law_row","_law_lies"] ["_law_script"] (bR Gj):=cy
theorem W5:cc ["_law_found","_law_due"] ["_law_found","_law_due"] (bR AD):=cy
theorem Kg:cc ["n"] ["n"] (bR zB):=cy
theorem W4:cc ["form","signs"] ["form","signs"] (bR Fc):=cy
theorem KG:cc ["form","source","value"] ["form","source"] (bR Fa):=cy
theorem w6:cc ["_law_form_here","_law_some","_law_found","_law_value_here","_law_at"] ["_law_form_here","_law_some"] (bR EN):=cy
theorem pF:cc ["_law_form_here","_law_one","_law_other","_law_word","_law_names_here","_law_bottom"] ["_law_form_here","_law_one","_law_other"] (bR Au):=cy
theorem EC:cc ["_law_forms","_law_one","_law_other","_law_k","_law_way"] ["_law_forms","_law_one","_law_other"] (bR Ak):=cy
theorem w7:cc ["_law_pool_here","_law_cell","_law_names_here","_law_parts","_law_k"] ["_law_pool_here"] (bR ER):=cy
theorem rm:cc ["_law_pool_here","_law_form_here","_law_some","_law_k","_law_value_here","_law_cell","_law_old","_law_at"] ["_law_pool_here","_law_form_here"] (bR EM):=cy
theorem Fp:cc ["_law_form_here","_law_value_here","_law_first","_law_low","_law_high","_law_k","_law_inner"] ["_law_form_here","_law_value_here","_law_first","_law_low","_law_high"] (bR FF):=cy
theorem VI:cc ["_law_script","_law_k"] ["_law_script","_law_k"] (bR ED):=cy
theorem Wb:cc ["self","form","room"] ["self","form","room"] (bR EW):=cy
theorem Kw:cc ["self","value","row"] ["self","value"] (bR Ax):=cy
theorem Kt:cc ["self","start","end","rows"] ["self","start","end"] (bR Ap):=cy
theorem xn:cc ["form","first","low","high","begun","further","start","end"] ["form","first","low","high"] (bR Fq):=cy
theorem Ks:cc ["row","begun"] ["row"] (bR EV):=cy
theorem VP:cc ["self","parts"] ["self","parts"] (bR EI):=cy
theorem VS:cc ["self","cases"] ["self","cases"] (bR EJ):=cy
theorem WB:cc ["self","low","high"] ["self","low","high"] (bR E5):=cy
theorem Vz:cc ["self","signs"] ["self","signs"] (bR EA):=cy
theorem Wc:cc ["self","inner"] ["self","inner"] (bR EX):=cy
theorem WE:cc ["self","inner"] ["self","inner"] (bR E6):=cy
theorem VK:cc ["self","inner"] ["self","inner"] (bR EG):=cy
theorem Wy:cc ["value"] ["value"] (bR E1):=cy
theorem XB:cc ["text","signs"] ["text","signs"] (bR Fs):=cy
theorem XC:cc ["name"] ["name"] (bR Ft):=cy
theorem KH:cc ["parts","names"] ["parts"] (bR Fd):=cy
theorem Wz:cc ["n","most"] ["n","most"] (bR E2):=cy
theorem V5:cc ["row"] ["row"] (bR EL):=cy
theorem Vu:cc ["n","width"] ["n","width"] (bR Ey):=cy
theorem Vw:cc ["self","value"] ["self","value"] (bR zI):=cy
theorem V9:cc ["self","value"] ["self","value"] (bR An):=cy
theorem VO:cc ["self","signs","at"] ["self","signs","at"] (bR EH):=cy
theorem Ew:cc ["self","wished","sign"] ["self"] (bR zV):=cy
theorem VN:cc ["self"] ["self"] (bR zU):=cy
theorem zP:cc ["source","most","n","k"] ["source","most"] (bR ET):=cy
theorem W7:cc ["n"] ["n"] (bR Fh):=cy
theorem w9:cc ["n","m","digits","ahead","end"] ["n"] (bR E3):=cy
theorem Wx:cc ["n"] ["n"] (bR EY):=cy
theorem Aj:cc ["source","width","n","k"] ["source","width"] (bR D2):=cy
theorem WC:cc ["self","value"] ["self","value"] (bR Av):=cy
theorem VA:cc ["self","value"] ["self","value"] (bR zN):=cy
theorem VL:cc ["self","value"] ["self","value"] (bR zR):=cy
theorem WG:cc ["self","value"] ["self","value"] (bR Ay):=cy
theorem VQ:cc ["self","value"] ["self","value"] (bR zW):=cy
theorem U5:cc ["self","value"] ["self","value"] (bR Ac):=cy
theorem Vk:cc ["self","value"] ["self","value"] (bR zD):=cy
theorem Vv:cc ["self","value"] ["self","value"] (bR zH):=cy
theorem U8:cc ["self","value"] ["self","value"] (bR Ad):=cy
theorem Vy:cc ["self","value"] ["self","value"] (bR zM):=cy
theorem U9:cc ["self","value"] ["self","value"] (bR Ae):=cy
theorem Vx:cc ["self","source"] ["self","source"] (bR zL):=cy
theorem Wa:cc ["self","source"] ["self","source"] (bR Ao):=cy
theorem WD:cc ["self","source"] ["self","source"] (bR Aw):=cy
theorem Km:cc ["self","source","value"] ["self","source"] (bR zS):=cy
theorem Kx:cc ["self","source","values"] ["self","source"] (bR Az):=cy
theorem VR:cc ["self","source"] ["self","source"] (bR zX):=cy
theorem Es:cc ["self","source","text"] ["self","source"] (bR zO):=cy
theorem Va:cc ["self","text"] ["self","text"] (bR Af):=cy
theorem Kd:cc ["self","value","most"] ["self","value"] (bR Wp):=cy
theorem VM:cc ["self","sign"] ["self","sign"] (bR zT):=cy
structure dT(mg:ae->Option au):Prop where
 dn:mg "len"=aw
 k4:mg "range"=aw
 nH:mg "int"=aw
 zf:mg "str"=aw
 Bw:mg "bool"=aw
 q1:mg "tuple"=aw
 i4:mg "isinstance"=aw
 CA:mg "min"=aw
 yG:mg "list"=aw
 vl:mg "all"=aw
 ag6:mg "reversed"=aw
 aay:mg "enumerate"=aw
 Ju:mg "zip"=aw
 Pm:mg "set"=aw
 ahk:mg "sorted"=aw
 ZF:mg "abs"=aw
variable {A:Prop} {u:Int} {Q:bJ} {a:List Bool}
section
open PySem c0 ea
variable {P:dA} {w:cZ} {K:bM} {mg:ae->Option au} {base:bA}
variable {f C:af}{fd:iP}{c:eQ}{n:Nat}{bc:D->Bool}{has:e7->Bool}{fw:D->List Bool}
seal cz kM gc iQ lr jx qi xf jw uT So xg
local macro_rules | `(tactic| walk_at "g1")=>`(tactic| first
 |with_reducible exact True.intro
 |refine⟨_,I,?_⟩
 |refine⟨_,_,I,I,?_⟩
 |refine Or.inl ⟨_,_,I,I,?_⟩
 |refine Or.inr ⟨_,_,I,I,?_⟩
 |refine⟨I,?_⟩
 |refine⟨(by first|omega|decide),?_⟩)
local macro_rules | `(tactic| walk_at "g")=>`(tactic| repeat walk_at "g1")
theorem e2{p B:Prop}[Decidable p](ai:p->A)(aj:¬p->B):if decide p=ah then A else B:=by
 by_cases h:p
 .rw[if_pos (eu h)];exact ai h
 .rw[if_neg (by simpa using h)];exact aj h
theorem fx{p B:Prop}[Decidable p](h:¬p)(aj:B):if decide p=ah then A else B:=by rw[if_neg (by simpa using h)];exact aj
theorem iK{p B:Prop}[Decidable p](h:p)(aj:A):if decide p=ah then A else B:=by rw[if_pos (eu h)];exact aj
theorem jn{n:Nat}(h:n<=16000000):n<=cj:=dE h (by decide)
inductive Kb(vs:List V)(H:aq)(Q:bJ)(E:cN):Prop where
 |mk (l:List Bool) (bg:vs=[.str (aP l)]) (ai:l.length<=16000000) (aj:Q (.str (aP (l.map (!·)))) H):Kb  vs H Q E
def xm:cD:=fun vs H Q E=>Kb  vs H Q E
theorem fb{n:Nat}(h:n<=100000):n<=cj:=dE h (by decide)
theorem Zt(l:List Bool){hz:Nat->V}(g:Bool->Bool)(h:∀i,i<l.length->hz i=.str (aP [g (l.getD i aF)])):(List.range l.length).map hz=((l.map g).map fun b=>aP [b]).map V.str:=by
 apply List.ext_getElem?
 intro i
 rw[eL,eL,eL,eL]
 rcases g4 i l.length with z|z
 ·rw[List.getElem?_range z,cp z]
  have:=h i z
  rw[dN,cp z]at this
  exact congrArg J this
 .rw[u0 (by simpa using z),u0 z];rfl
theorem LX(l:List Bool):((l.map fun b=>aP [b]).map (·.length)).sum+(l.map fun b=>aP [b]).length*(ae.ofString "").length=l.length:=by
 have e:(ae.ofString "").length=0:=by decide+kernel
 rw[e,Nat.mul_zero,Nat.add_zero]
 induction l with
 |nil=>rfl
 |cons b r bT=>simp only[fD,List.sum_cons,bT,eG,d6,List.length_nil];omega
theorem FI(h:U.length=1):∃z,U=[z]:=by
 match U,h with
 |[z],_=>exact⟨z,I⟩
theorem Wf(F:d1 K mg "turned_row" EL ["row"] f fd):bq P w K mg base 1 "turned_row" ["row"] xm:=by
 refine F.eO V5 (fun bx A _ s H vs Q E ax h=>?_)
 obtain⟨l,rfl,aD,q⟩:=h
 refine⟨_,(aR (bB (hV PySem.F.plainAttrs_str PySem.F.slot_str_join PySem.F.type_str_join sY cT (al (ik ["sign"] [] I (by decide+kernel) trivial (h0 (ab 0)) (fun _ _ _ _ _=>(d7 (i:=0) (show(["sign"]:List ae).Nodup by decide+kernel))) (fun _ _ _ _ _=>hu) (fun _ _ _ _ _=>(lU (b0 c2 (ab 0) cT) cT cT))) aB)))),?_⟩
 try dsimp only[c4,c5,c6,c7]
 refine⟨I,.inr ⟨_,I,_,I,fun D dB=>?_⟩⟩
 refine FR l.length (fun i =>.str (aP [l.getD i aF])) (fun i =>.str (aP [!l.getD i aF])) (fun U=>U.length=1) (jn aD) ?_ ?_ ?_ ?_ ?_ ?_
 .rfl
 .intro i H1 ay;show i<(aP l).cps.size;simpa [aP] using ay
 .intro H1;show(aP l).cps.size<=l.length;simp[aP]
 ·rintro i H1 x av ay ⟨rfl,c,hc,rfl⟩
  exact⟨I,Zf hc⟩
 ·intro i bL H1 ay dk R b1
  obtain⟨z,rfl⟩:=FI dk
  refine⟨_,I,I,_,I,?_⟩
  revert b1
  rw[s0,s1,Zh]
  cases l.getD i aF
  .intro b1;exact e3 (b1 _ (by rfl))
  .intro b1;exact dW (b1 _ (by rfl))
 ·refine⟨_,D,(l.map (!·)).map fun b=>aP [b],I,I,bb ?_,?_,H,.refl ?_,?_⟩
  .rw[aG];exact congrArg (fun x=>J (df.lst x)) (Zt l (!·) fun i _=>I)
  .rw[LX,cw];omega
  .exact dg dB
  .rw[Ll];exact q
inductive P9(vs:List V)(H:aq)(Q:bJ)(E:cN):Prop where
 |mk (n d:Nat) (bg:vs=[.int n,.int d]) (ai:d<=16000000) (aj:Q (.str (aP (dj n d))) H):P9  vs H Q E
def IZ:cD:=fun vs H Q E=>P9  vs H Q E
theorem Xs(n d:Nat):dj n d=(List.range d).map fun i=>n.testBit (d-1-i):=by
 induction d with
 |zero=>rfl
 |succ d bT =>
  rw[dj,bT,List.range_succ_eq_map,fD,gE]
  congr 1
  apply oh
  intro i ay
  show n.testBit (d-1-i)=n.testBit (d+1-1-(i+1))
  congr 1
  omega
theorem Ua(n k:Nat):cS.bitAnd ((n:Int)/2^k) 1=((n.testBit k).toNat:Int):=by
 rw[PyProof.Rows.bitAnd_m1]
 have e:((n:Int)/2^k)%2=((n/2^k%2:Nat):Int):=by
  rw[Int.natCast_emod,Int.natCast_ediv,Int.natCast_pow];rfl
 rw[e,Nat.testBit_eq_decide_div_mod_eq]
 have:n/2^k%2<2:=Nat.mod_lt _ (by decide)
 by_cases q:n/2^k%2=1
 .simp[q]
 ·have:n/2^k%2=0:=by omega
  simp[this]
theorem VC(nb:dT mg)(F:d1 K mg "lower_digits" Ey ["n","width"] f fd):bq P w K mg base 1 "lower_digits" ["n","width"] IZ:=by
 refine F.eO Vu (fun bx A _ s H vs Q E ax h=>?_)
 obtain⟨n,d,rfl,aD,q⟩:=h
 refine⟨_,(aR (bB (hV PySem.F.plainAttrs_str PySem.F.slot_str_join PySem.F.type_str_join sY cT (al (ik ["k"] [(0,"n")] I (by decide+kernel) ⟨I,.inl I,trivial⟩ (Lb I nb.k4 (al (aN gj (ab 1) aC) (al (lB ll aC) (al (lB ll aC) aB)))) (fun _ _ _ _ _=>(d7 (i:=0) (show(["k","n"]:List ae).Nodup by decide+kernel))) (fun _ _ _ _ _=>hu) (fun _ _ _ _ _=>(lU (b0 c2 (aN Uv (aN MJ (ab 1) (ab 0)) aC) aC) cT cT))) aB)))),?_⟩
 try dsimp only[c4,c5,c6,c7]
 refine⟨I,_,I,_,_,I,I,_,I,_,I,_,_,I,⟨by omega,by omega,by decide,by decide⟩,fun D dB=>?_⟩
 have aW:(((d:Int)-1)-(-1)).toNat=d:=by omega
 refine FR (((d:Int)-1)-(-1)).toNat (fun i =>.int ((d:Int)-1+i*(-1))) (fun i =>.str (aP [n.testBit (d-1-i)])) (fun U=>∃z,U=[z,J (.int n)]) (by rw[aW];exact jn aD) ?_ ?_ ?_ ?_ ?_ ?_
 .exact⟨_,I⟩
 .intro i H1 ay;exact ay
 .intro H1;exact b8 _
 ·rintro i H1 x av ay ⟨rfl,rfl⟩
  exact⟨I,I⟩
 ·rintro i bL H1 ay ⟨z,rfl⟩ R b1
  rw[aW]at ay
  have hK:((d:Int)-1+(i:Int)*(-1)).toNat=d-1-i:=by omega
  refine⟨_,I,_,I,_,_,I,I,(by omega),_,_,I,I,I,_,I,?_⟩
  have ag:cS.bitAnd ((n:Int)/2^((d:Int)-1+(i:Int)*(-1)).toNat) 1=((n.testBit (d-1-i)).toNat:Int):=by rw[hK];exact Ua _ _
  revert b1
  rw[s0,s1]
  cases e:n.testBit (d-1-i)
  ·rw[e]at ag
   intro b1;exact fx (fun c=>absurd (ag.symm.trans (V.int.inj c)) (by decide)) (b1 _ ⟨_,I⟩)
  ·rw[e]at ag
   intro b1;exact iK (congrArg V.int ag) (b1 _ ⟨_,I⟩)
 ·refine⟨_,D,(dj n d).map fun b=>aP [b],I,I,bb ?_,?_,H,.refl ?_,?_⟩
  .rw[aG,aW,Xs,gE,gE];rfl
  .rw[LX,iV];omega
  .exact dg dB
  .rw[Ll];exact q
inductive PO(vs:List V)(H:aq)(Q:bJ)(E:cN):Prop where
 |mk (n m:Nat) (bg:vs=[.int n,.int m]) (ai:n<=m) (aj:aE m<=16000000) (bE:Q (.str (aP (dj n (aE m)))) H):PO  vs H Q E
def y6:cD:=fun vs H Q E=>PO  vs H Q E
theorem WN(F:d1 K mg "fixed_row" E2 ["n","most"] f fd)(sx:bq P w K mg base 1 "lower_digits" ["n","width"] IZ):bq P w K mg base 2 "fixed_row" ["n","most"] y6:=by
 refine F.eO Wz (fun bx A _ s H vs Q E ax h=>?_)
 obtain⟨n,m,rfl,aD,ag,q⟩:=h
 refine⟨_,(aI (cE (gc.pt (j6 (b0 jm (ab 0) aC) (lq (b0 jG (ab 0) (ab 1))))) (aR lz) cF)
  (aR (bB (b6 sx ax (al (ab 0) (al (xG PySem.F.plainAttrs_int PySem.F.slot_int_bit_length PySem.F.type_int_bit_length xt (ab 1)) aB)))))),?_⟩
 try dsimp only[c4,c5,c6,c7]
 refine⟨_,I,.inl ⟨_,_,I,I,_,I,?_⟩⟩
 refine fx (by omega) ⟨_,I,_,I,_,_,I,I,_,I,?_⟩
 refine fx (by omega) ⟨_,I,_,I,I,_,I,I,?_⟩
 rw[ve]
 exact⟨n,aE m,I,ag,H,.refl (dx _),q⟩
noncomputable def gf(z:ae)(i:Int)(t e:Bool)(u:Int):List (ae×V):=[("signs",.str z),("place",.int i),("turned",.aQ t),("endless",.aQ e),("wished",.int u)]
noncomputable abbrev xZ(z:ae)(i:Int)(t e:Bool):List (ae×V):=gf z i t e 0
structure uY(K:bM)(C:af):Prop where
 cl:fY K C
 md:jv K C "signs"
 wg:jv K C "place"
 kE:jv K C "turned"
 aea:jv K C "endless"
 CF:jv K C "wished"
theorem Nf:¬(("signs":ae)="place"):=by decide+kernel
theorem Ng:¬(("signs":ae)="turned"):=by decide+kernel
theorem aaN:¬(("signs":ae)="endless"):=by decide+kernel
theorem Nh:¬(("signs":ae)="wished"):=by decide+kernel
theorem Ni:¬(("place":ae)="turned"):=by decide+kernel
theorem aaO:¬(("place":ae)="endless"):=by decide+kernel
theorem Nj:¬(("place":ae)="wished"):=by decide+kernel
theorem aaP:¬(("turned":ae)="endless"):=by decide+kernel
theorem Nk:¬(("turned":ae)="wished"):=by decide+kernel
theorem Nl:¬(("endless":ae)="wished"):=by decide+kernel
theorem aa9:(("place":ae) == "signs")=aF:=by decide+kernel
theorem aba:(("turned":ae) == "signs")=aF:=by decide+kernel
theorem abb:(("turned":ae) == "place")=aF:=by decide+kernel
theorem abc:(("wished":ae) == "signs")=aF:=by decide+kernel
theorem abd:(("wished":ae) == "place")=aF:=by decide+kernel
theorem abe:(("wished":ae) == "turned")=aF:=by decide+kernel
theorem abf:(("wished":ae) == "endless")=aF:=by decide+kernel
theorem AQ(z:ae):eY "signs" (.str z) []=([("signs",.str z)]:List (ae×V)):=rfl
theorem AG(z:ae)(i:Int):eY "place" (.int i) ([("signs",.str z)]:List (ae×V))=([("signs",.str z),("place",.int i)]:List (ae×V)):=by
 simp only[eY,Nf,if_false]
theorem E7(z:ae)(i:Int)(t:Bool):eY "turned" (.aQ t) ([("signs",.str z),("place",.int i)]:List (ae×V))=([("signs",.str z),("place",.int i),("turned",.aQ t)]:List (ae×V)):=by
 simp only[eY,Ng,Ni,if_false]
theorem KA(z:ae)(i:Int)(t e:Bool):eY "endless" (.aQ e) ([("signs",.str z),("place",.int i),("turned",.aQ t)]:List (ae×V))=([("signs",.str z),("place",.int i),("turned",.aQ t),("endless",.aQ e)]:List (ae×V)):=by
 simp only[eY,aaN,aaO,aaP,if_false]
theorem W9(z:ae)(i:Int)(t e:Bool)(u:Int):eY "wished" (.int u) ([("signs",.str z),("place",.int i),("turned",.aQ t),("endless",.aQ e)]:List (ae×V))=gf z i t e u:=by
 simp only[eY,Nh,Nj,Nk,Nl,if_false];rfl
theorem Yk(z:ae)(i j:Int)(t e:Bool)(u:Int):eY "place" (.int j) (gf z i t e u)=gf z j t e u:=by
 simp only[gf,eY,Nf,if_false,if_true]
theorem XD(z:ae)(i:Int)(t gs e:Bool)(u:Int):eY "turned" (.aQ gs) (gf z i t e u)=gf z i gs e u:=by
 simp only[gf,eY,Ng,Ni,if_false,if_true]
theorem KY(z:ae)(i:Int)(t e:Bool)(u dS:Int):eY "wished" (.int dS) (gf z i t e u)=gf z i t e dS:=by
 simp only[gf,eY,Nh,Nj,Nk,Nl,if_false,if_true]
theorem Fl(z:ae)(i:Int)(t e:Bool):(gf z i t e u).lookup ("signs":ae)=J (.str z):=by simp[gf]
theorem AI(z:ae)(i:Int)(t e:Bool):(gf z i t e u).lookup ("place":ae)=J (.int i):=by
 simp[gf,List.lookup,aa9]
theorem KN(z:ae)(i:Int)(t e:Bool):(gf z i t e u).lookup ("turned":ae)=J (.aQ t):=by
 simp[gf,List.lookup,aba,abb]
theorem Xl(z:ae)(i:Int)(t e:Bool):(gf z i t e u).lookup ("wished":ae)=J (.int u):=by
 simp[gf,List.lookup,abc,abd,abe,abf]
theorem ly(z:ae)(i:Int)(t e:Bool){m:ae}(h:(m == ("signs":ae))=aF)(aj:(m == ("place":ae))=aF)(bE:(m == ("turned":ae))=aF)
  (cQ:(m == ("endless":ae))=aF:=by decide+kernel) (eN:(m == ("wished":ae))=aF:=by decide+kernel):(gf z i t e u).lookup m=aw:=by
 simp[gf,List.lookup,h,aj,bE,cQ,eN]
def J0(H:aq)(p C ak:af)(l:List Bool)(i:Nat)(t e:Bool):Prop:=∃u:Int,H p=J (.ins C ak (gf (aP l) ((i:Nat):Int) t e u))
inductive QJ(C:af)(vs:List V)(H:aq)(Q:bJ)(E:cN):Prop where
 |mk (p ak z i:_) (bg:vs=[.ref p,.str z,.int i]) (ai:H p=J (.ins C ak [])) (aj:Q .aT (upd H p (.ins C ak (xZ z i aF aF)))):QJ C vs H Q E
def QI(C:af):cD:=fun vs H Q E=>QJ C vs H Q E
theorem Xc(T:uY K C)(F:dG K "__init__" "Source.__init__" EH f fd):de P w K mg base dv 1 f fd ["self","signs","at"] (QI C):=by
 refine F.ok VO (fun vs H Q E h=>?_) (fun bx A _ s H vs Q E ax h=>?_)
 .obtain⟨p,ak,z,i,rfl,_⟩:=h;rfl
 obtain⟨p,ak,z,i,rfl,aY,q⟩:=h
 refine⟨_,(aI (iE (ab 0) (ab 1) I)
  (aI (iE (ab 0) (ab 2) rfl)
  (aI (iE (ab 0) jO rfl)
  (aI (iE (ab 0) jO rfl)
  (aR (iE (ab 0) aC rfl)))))),?_⟩
 try dsimp only[c4,c5,c6,c7]
 refine⟨_,I,_,I,p,C,ak,_,I,aY,T.cl,T.md,(by show 0<1000;decide),?_⟩
 refine⟨_,I,_,I,p,C,ak,_,I,aG,T.cl,T.wg,(by show 1<1000;decide),?_⟩
 refine⟨_,I,p,C,ak,_,I,aG,T.cl,T.kE,(by rw[AQ,AG];show 2<1000;decide),?_⟩
 refine⟨_,I,p,C,ak,_,I,aG,T.cl,T.aea,(by rw[AQ,AG,E7];show 3<1000;decide),?_⟩
 refine⟨_,I,p,C,ak,_,I,aG,T.cl,T.CF,(by rw[AQ,AG,E7,KA];show 4<1000;decide),?_⟩
 rw[fN,fN,fN,fN,AQ,AG,E7,KA,W9]
 exact q
inductive PM(C:af)(vs:List V)(H:aq)(Q:bJ)(E:cN):Prop where
 |mk (p ak:af) (l:List Bool) (i:Nat) (t e b:Bool) (bg:vs=[.ref p]) (ai:J0 H p C ak l i t e) (aj:l.length<=16000000) (bE:l[i]?=J b) (cQ:Q (.int ((xor t b).toNat:Nat)) (upd H p (.ins C ak (xZ (aP l) ((i+1:Nat):Int) t e)))):PM C vs H Q E
def o5(C:af):cD:=fun vs H Q E=>PM C vs H Q E
theorem TL(nb:dT mg)(T:uY K C)(F:dG K "draw" "Source.draw" zV f fd):de P w K mg base dv 1 f fd ["self"] (o5 C):=by
 refine F.ok Ew (fun vs H Q E h=>?_) (fun bx A _ s H vs Q E ax h=>?_)
 .obtain⟨p,ak,l,i,t,e,b,rfl,_⟩:=h;rfl
 obtain⟨p,ak,l,i,t,e,b,rfl,⟨u,aY⟩,aD,ag,q⟩:=h
 have ay:i<l.length:=(g5.mp ag).1
 refine⟨_,(aI (bO 1 Ew.bo (ed (ab 0) I))
  (aI (iE (ab 0) aC rfl)
  (aI (cE (b0 jm (ed (ab 0) rfl) (b9 du rfl nb.dn dq (al (ed (ab 0) rfl) aB))) (aI (bO 2 Ew.bo (mw qc rfl nb.nH nh (al (bG bH (ed (ab 0) rfl) (ed (ab 0) rfl)) aB)))
   (aI (iE (ab 0) (aN eb (ed (ab 0) rfl) aC) rfl)
   (aR (bB (lU (hi (ed (ab 0) rfl)) (aN gj aC (ab 2)) (ab 2)))))) cF)
  (aI (cE (jP (hi (ed (ab 0) rfl))) (aR lz) cF)
  (aR (bB (ab 1))))))),?_⟩
 try dsimp only[c4,c5,c6,c7]
 refine⟨_,I,p,C,ak,_,_,I,aY,T.cl,T.CF,Xl ..,?_⟩
 refine⟨_,I,p,C,ak,_,I,aY,T.cl,T.CF,(by show 5<1000;decide),?_⟩
 rw[KY]
 refine⟨_,I,p,C,ak,_,_,I,aG,T.cl,T.wg,AI ..,_,I,p,C,ak,_,_,I,aG,T.cl,T.md,Fl ..,_,_,I,⟨by rw[eG];exact jn aD,I⟩,.inl ⟨_,_,rfl,rfl,_,rfl,?_⟩⟩
 refine iK (by rw[eG];omega) ?_
 refine⟨_,I,p,C,ak,_,_,I,aG,T.cl,T.md,Fl ..,_,I,p,C,ak,_,_,I,aG,T.cl,T.wg,AI ..,.inr ⟨_,_,mx b,I,I,by rw[eG];exact jn aD,cB (Zg ag),.inr ⟨_,_,I,Zc b,(by show 1<=640;decide),?_⟩⟩⟩
 refine⟨_,I,p,C,ak,_,_,I,aG,T.cl,T.wg,AI ..,.inl ⟨_,_,I,I,_,I,p,C,ak,_,I,aG,T.cl,T.wg,(by show 5<1000;decide),?_⟩⟩
 rw[Yk,fN]
 refine⟨_,I,p,C,ak,_,_,I,aG,T.cl,T.kE,KN ..,_,I,?_⟩
 cases t with
 |false =>
  refine dW ⟨_,I,?_⟩
  have e:(aF ^^ b)=b:=by cases b<;>rfl
  rw[e]at q
  exact q
 |true =>
  refine e3 ⟨_,I,_,_,I,I,?_⟩
  have e:((ah ^^ b).toNat:Int)=1-(b.toNat:Int):=by cases b<;>rfl
  rw[e]at q
  exact q
inductive QN(C:af)(vs:List V)(H:aq)(Q:bJ)(E:cN):Prop where
 |mk (p ak:af) (l:List Bool) (i:Nat) (t e:Bool) (u:Int) (bg:vs=[.ref p]) (ai:H p=J (.ins C ak (gf (aP l) ((i:Nat):Int) t e u))) (aj:Q .aT (upd H p (.ins C ak (gf (aP l) ((i:Nat):Int) (!t) e u)))):QN C vs H Q E
def zc(C:af):cD:=fun vs H Q E=>QN C vs H Q E
theorem TJ(T:uY K C)(F:dG K "turn" "Source.turn" zU f fd):de P w K mg base dv 1 f fd ["self"] (zc C):=by
 refine F.ok VN (fun vs H Q E h=>?_) (fun bx A _ s H vs Q E ax h=>?_)
 .obtain⟨p,ak,l,i,t,e,u,rfl,_⟩:=h;rfl
 obtain⟨p,ak,l,i,t,e,u,rfl,aY,q⟩:=h
 refine⟨_,(aR (iE (ab 0) (F1 (ed (ab 0) I)) I)),?_⟩
 try dsimp only[c4,c5,c6,c7]
 refine⟨_,I,p,C,ak,_,_,I,aY,T.cl,T.kE,KN ..,t,I,_,I,p,C,ak,_,I,aY,T.cl,T.kE,(by show 5<1000;decide),?_⟩
 rw[XD]
 exact q
def ua:cD:=fun _ _ _ _=>False
noncomputable abbrev e5(C ak:af)(l:List Bool)(i:Nat)(t e:Bool):df :=.ins C ak (xZ (aP l) ((i:Nat):Int) t e)
noncomputable abbrev zd(C ak:af)(l:List Bool)(i:Nat)(t e:Bool)(u:Int):df :=.ins C ak (gf (aP l) ((i:Nat):Int) t e u)
inductive PH(C:af)(vs:List V)(H:aq)(Q:bJ)(E:cN):Prop where
 |mk (p ak:af) (l:List Bool) (i n m:Nat) (t b5:Bool) (bg:vs=[.ref p,.int m]) (ai:H p=J (e5 C ak l i t b5)) (aj:l.length<=16000000) (bE:n<=m) (cQ:i+aE m<=l.length) (eN:((l.drop i).take (aE m)).map (xor t)=dj n (aE m)) (jj:Q (.int n) (upd H p (e5 C ak l (i+aE m) t b5))):PH C vs H Q E
def y5(C:af):cD:=fun vs H Q E=>PH C vs H Q E
theorem Wo(nb:dT mg)(ff:fY K C)(F:d1 K mg "draw_fixed" ET ["source","most"] f fd)(gY:hb P w K mg base 1 C "draw" ["self"] (o5 C))(lQ:hb P w K mg base 1 C "refuse" ["self"] ua):bq P w K mg base 2 "draw_fixed" ["source","most"] (y5 C):=by
 refine F.eO zP (fun bx A _ s H vs Q E ax h=>?_)
 obtain⟨p,ak,l,i,n,m,t,b5,rfl,aY,aD,aW,ay,ag,q⟩:=h
 refine⟨_,(aI (bO 2 zP.bo aC)
  (aI (kK h2.never rfl (Lb rfl nb.k4 (al (aN gj (xG PySem.F.plainAttrs_int PySem.F.slot_int_bit_length PySem.F.type_int_bit_length xt (ab 1)) aC) (al (lB ll aC) (al (lB ll aC) aB)))) (d7 (i:=3) zP.bo rfl (by exact Or.inl I))
   (aI (bO 2 zP.bo (aN eb (aN k0 aC (ab 2)) (jA gY ff ax (ab 0))))
   (aR (cE (b0 jG (ab 2) (aN MJ (ab 1) (ab 3))) (aR (iW (jA lQ ff ax (ab 0)))) cF))))
  (aR (bB (ab 2))))),?_⟩
 try dsimp only[c4,c5,c6,c7]
 have ai9:=ve m
 refine⟨_,I,I,_,I,I,_,_,I,I,_,I,_,I,_,_,I,⟨by omega,by omega,by decide,by decide⟩,?_⟩
 have hw:(((cS.Int.intBits ((m:Nat):Int):Nat):Int)-1-(-1)).toNat=aE m:=by omega
 refine XZ (fun j U av=>∃z,U=[J (.ref p),J (.int m),J (.int ((n/2^(aE m-j):Nat):Int)),z]/\av=upd H p (e5 C ak l (i+j) t b5)) ?_ ?_ ?_
 ·refine⟨aw,?_,(AN aY).symm⟩
  rw[Nat.sub_zero,Nat.div_eq_of_lt (Nat.lt_of_le_of_lt aW (pG m))];rfl
 ·rintro j U av b2 ⟨z,rfl,rfl⟩
  rw[hw]at b2
  obtain⟨b,gJ,gK⟩:=Yn ag b2 ay
  have kU:(((cS.Int.intBits ((m:Nat):Int):Nat):Int)-1+(j:Int)*(-1)).toNat=aE m-1-j:=by omega
  have aS:aE m-j=aE m-1-j+1:=by omega
  have aV:aE m-(j+1)=aE m-1-j:=by omega
  have es:=SS n (aE m-1-j)
  refine⟨_,I,.inl ⟨_,_,I,I,.inl ⟨by decide,by decide⟩,_,rfl,p,ak,_,rfl,aG,ly _ _ _ _ (by decide+kernel) (by decide+kernel) (by decide+kernel),?_⟩⟩
  refine⟨p,ak,l,i+j,t,b5,b,I,⟨_,aG⟩,aD,gJ,.inl ⟨_,_,I,I,?_⟩⟩
  refine⟨_,I,_,I,_,I,_,_,I,I,(by omega),_,_,I,I,_,I,?_⟩
  have ev:(2:Int)*((n/2^(aE m-j):Nat):Int)+(((t ^^ b).toNat:Nat):Int)=((n/2^(aE m-(j+1)):Nat):Int):=by
   rw[gK,aS,aV,es];omega
  refine fx ?_ ?_
  ·rw[ev,kU,aV]
   have a1:((m:Nat):Int)/2^(aE m-1-j)=((m/2^(aE m-1-j):Nat):Int):=by
    rw[Int.natCast_ediv,Int.natCast_pow];rfl
   have a2:=Nat.div_le_div_right (c:=2^(aE m-1-j)) aW
   rw[a1];omega
  ·rw[<-ev]
   exact⟨_,I,by rw[fN];rfl⟩
 ·rintro U av ⟨z,rfl,rfl⟩
  rw[hw]
  refine⟨_,I,_,.ins aY (fun b u ag e=>by rw[bK ag];exact e) aG,?_⟩
  have e:n/2^(aE m-aE m)=n:=by rw[Nat.sub_self,Nat.pow_zero,Nat.div_one]
  rw[e]
  exact q
inductive PE(vs:List V)(H:aq)(Q:bJ)(E:cN):Prop where
 |mk (n:Nat) (bg:vs=[.int n]) (ai:n+1<2^255) (aj:Q (.str (aP (cnt n))) H):PE  vs H Q E
def IS:cD:=fun vs H Q E=>PE  vs H Q E
theorem SY{e:Nat}:e<8->0<(fq e).length:=by intro h;unfold fq;rw[if_neg (by omega)];decide
theorem FT(e:Nat):(fq e).length<=1:=by unfold fq;split<;>simp
theorem S1{n:Nat}(h:2^k<=n):k<aE n:=by
 rcases g4 k (aE n)with z|z
 .exact z
 ·have:=pG n
  have:=Nat.pow_le_pow_right (show 0<2 by decide) z
  omega
def hQ(n:Int):Prop:=0<=n/\n<2^255-1
noncomputable instance (n:Int):Decidable (hQ n):=inferInstanceAs (Decidable (_/\_))
inductive P0(vs:List V)(H:aq)(Q:bJ)(E:cN):Prop where
 |mk (n:Int) (bg:vs=[.int n]) (ai:Q (.aQ (decide (hQ n))) H):P0  vs H Q E
def y7:cD:=fun vs H Q E=>P0  vs H Q E
theorem MW:hQ (m:Int)↔aE (m+1)<=255:=by
 unfold hQ
 constructor
 .intro ⟨_,h⟩;exact jh (by omega)
 ·intro h
  rcases g4 (m+1) (2^255)with z|z
  .omega
  .have:=S1 z;omega
theorem Xj(GV:gX mg "MOST_DIGITS" (.int 255))(F:d1 K mg "is_count" Fh ["n"] f fd):bq P w K mg base 1 "is_count" ["n"] y7:=by
 refine F.eO W7 (fun bx A _ s H vs Q E ax h=>?_)
 obtain⟨n,rfl,q⟩:=h
 refine⟨_,(aR (bB (jg (fO CQ (ab 0) aC) (jQ (fO wj (xG PySem.F.plainAttrs_int PySem.F.slot_int_bit_length PySem.F.type_int_bit_length xt (aN eb (ab 0) aC)) (lV GV)))))),?_⟩
 try dsimp only[c4,c5,c6,c7]
 refine⟨_,I,_,_,I,I,_,I,?_⟩
 refine e2 (fun c=>?_) (fun c=>?_)
 ·refine⟨_,I,.inl ⟨_,_,I,I,I,_,I,I,_,_,I,I,H,.refl (dx _),?_⟩⟩
  obtain⟨m,rfl⟩:∃m:Nat,n=m:=⟨n.toNat,by omega⟩
  rw[show((m:Int)+1)=((m+1:Nat):Int)from rfl,ve (m+1)]
  have e:decide (((aE (m+1):Nat):Int)<=255)=decide (hQ (m:Int)):=by
   rw[decide_eq_decide,MW];omega
  dsimp only
  rw[e]
  exact q
 ·refine⟨H,.refl (dx _),?_⟩
  have e:decide (hQ n)=aF:=fC fun z=>c z.1
  rw[<-e];exact q
theorem WO(vv:gX mg "MOST_AHEAD" (.int 7))(F:d1 K mg "count_row" E3 ["n"] f fd)(m2:bq P w K mg base 1 "is_count" ["n"] y7)(sx:bq P w K mg base 1 "lower_digits" ["n","width"] IZ):bq P w K mg base 2 "count_row" ["n"] IS:=by
 refine F.eO w9 (fun bx A _ s H vs Q E ax h=>?_)
 obtain⟨n,rfl,aW,q⟩:=h
 refine⟨_,(aI (cE (jP (hi (b6 m2 ax (al (ab 0) aB)))) (aR lz) cF)
  (aI (bO 1 w9.bo (aN eb (ab 0) aC))
  (aI (bO 2 w9.bo (xG PySem.F.plainAttrs_int PySem.F.slot_int_bit_length PySem.F.type_int_bit_length xt (ab 1)))
  (aI (bO 3 w9.bo (aN gj (xG PySem.F.plainAttrs_int PySem.F.slot_int_bit_length PySem.F.type_int_bit_length xt (ab 2)) aC))
  (aI (bO 4 w9.bo (lU (b0 c2 (ab 3) (lV vv)) cT cT))
  (aR (bB (aN eb (aN eb (aN eb (aN k0 cT (ab 3)) (ab 4)) (b6 sx ax (al (ab 2) (al (ab 3) aB)))) (b6 sx ax (al (ab 1) (al (aN gj (ab 2) aC) aB))))))))))),?_⟩
 try dsimp only[c4,c5,c6,c7]
 have hd:aE (n+1)<=255:=jh aW
 have aY:0<aE (n+1):=oi (by omega)
 have he:aE (aE (n+1))<=8:=jh (by omega)
 have bj:0<aE (aE (n+1)):=oi (by omega)
 have gG:=ve (n+1)
 have eZ:=ve (aE (n+1))
 refine⟨_,I,_,I,_,I,?_⟩
 rw[eu (MW.mpr hd)]
 refine dW ⟨_,I,.inl ⟨_,_,I,I,_,I,I,_,I,I,?_⟩⟩
 rw[show((n:Int)+1)=((n+1:Nat):Int)from rfl,gG]
 refine⟨_,I,I,_,I,I,_,_,I,I,?_⟩
 rw[eZ]
 obtain⟨k,hk⟩:∃k:Nat,((aE (aE (n+1)):Nat):Int)-1=k:=⟨aE (aE (n+1))-1,by omega⟩
 have vO:k=aE (aE (n+1))-1:=by omega
 dsimp only
 rw[hk]
 have a1:(k:Int)<2^40:=by omega
 have a2 : -(2^40)<(k:Int):=by omega
 have a3:(ae.ofString "1").length*((k:Nat):Int).toNat<=cj:=by rw[s1,eG];exact fb (by show 1*_<=_;omega)
 have a4:(Txt.mul (ae.ofString "1") (k:Int)).length+(aP (fq (aE (aE (n+1))))).length<=cj:=by
  rw[s1,Be,eG,eG,List.length_replicate]
  have:=FT (aE (aE (n+1)))
  exact fb (by omega)
 have a5:(Txt.mul (ae.ofString "1") (k:Int)++aP (fq (aE (aE (n+1))))).length+(aP (dj (aE (n+1)) k)).length<=cj:=by
  rw[s1,Be,ka,eG,eG,dX,List.length_replicate,iV]
  have:=FT (aE (aE (n+1)))
  exact fb (by omega)
 have a6:(Txt.mul (ae.ofString "1") (k:Int)++aP (fq (aE (aE (n+1))))++aP (dj (aE (n+1)) k)).length+(aP (dj (n+1) (aE (n+1)-1))).length<=cj:=by
  rw[s1,Be,ka,ka,eG,eG,dX,dX,List.length_replicate,iV,iV]
  have:=FT (aE (aE (n+1)))
  exact fb (by omega)
 have MR:Txt.mul (ae.ofString "1") (k:Int)++aP (fq (aE (aE (n+1))))++aP (dj (aE (n+1)) k)++aP (dj (n+1) (aE (n+1)-1))=aP (cnt n):=by
  rw[s1,Be,ka,ka,ka]
  unfold cnt
  rw[vO,gD,gD]
  rfl
 have ad:[V.int ((n:Int)+1),V.int (((aE (n+1):Nat):Int)-1)]=[.int ((n+1:Nat):Int),.int ((aE (n+1)-1:Nat):Int)]:=by
  have:((aE (n+1):Nat):Int)-1=((aE (n+1)-1:Nat):Int):=by omega
  rw[this];rfl
 refine⟨_,I,I,_,I,?_⟩
 refine e2 (fun c=>?_) (fun c=>?_)
 ·have Hu:(ae.ofString "")=aP (fq (aE (aE (n+1)))):=by
   have:=V.int.inj c
   rw[IL];unfold fq;rw[if_pos (by omega)]
  rw[Hu]
  refine⟨_,I,.inr ⟨_,_,I,I,a1,a2,a3,_,I,.inr ⟨_,_,I,I,a4,_,I,_,I,_,_,I,(by omega),.inr ⟨_,_,I,I,a5,?_⟩⟩⟩⟩
  refine⟨_,I,_,I,_,_,I,I,n+1,aE (n+1)-1,ad,(by omega),.inr ⟨_,_,I,I,a6,H,.refl (dx _),?_⟩⟩
  rw[MR]
  exact q
 ·have Hu:(ae.ofString "0")=aP (fq (aE (aE (n+1)))):=by
   have:¬k=7:=fun z=>c (by rw[z];rfl)
   rw[s0];unfold fq;rw[if_neg (by omega)]
  rw[Hu]
  refine⟨_,I,.inr ⟨_,_,I,I,a1,a2,a3,_,I,.inr ⟨_,_,I,I,a4,_,I,_,I,_,_,I,(by omega),.inr ⟨_,_,I,I,a5,?_⟩⟩⟩⟩
  refine⟨_,I,_,I,_,_,I,I,n+1,aE (n+1)-1,ad,(by omega),.inr ⟨_,_,I,I,a6,H,.refl (dx _),?_⟩⟩
  rw[MR]
  exact q
def hW(n:Int):Prop := -(2^255)<n/\n<2^255-1
inductive Ki(vs:List V)(H:aq)(Q:bJ)(E:cN):Prop where
 |mk (n:Int) (bg:vs=[.int n]) (ai:hW n) (aj:Q (.str (aP (gP n))) H):Ki  vs H Q E
def AB:cD:=fun vs H Q E=>Ki  vs H Q E
theorem Mi{n:Int}(h:n<0)(b : -(2^255)<n):∃m:Nat,-1-n=m/\m+1<2^255/\gP n=aF::(cnt m).map (!·):=by
 refine⟨(-1-n).toNat,by omega,by omega,?_⟩
 unfold gP;rw[if_pos h]
theorem Me{n:Int}(h:¬n<0)(b:n<2^255-1):∃m:Nat,n=m/\m+1<2^255/\gP n=ah::cnt m:=by
 refine⟨n.toNat,by omega,by omega,?_⟩
 unfold gP;rw[if_neg h]
theorem A9{n:Nat}(h:n+1<2^255):(cnt n).length<=269:=by
 have:=AM h
 have:=jh h
 omega
theorem L6(b:Bool)(l:List Bool):aP [b]++aP l=aP (b::l):=by rw[ka];rfl
theorem WH(F:d1 K mg "whole_row" EY ["n"] f fd)(sq:bq P w K mg base 2 "count_row" ["n"] IS)(oa:bq P w K mg base 1 "turned_row" ["row"] xm):bq P w K mg base 3 "whole_row" ["n"] AB:=by
 refine F.eO Wx (fun bx A _ s H vs Q E ax h=>?_)
 obtain⟨n,rfl,aW,q⟩:=h
 refine⟨_,(aI (cE (b0 jm (ab 0) aC) (aR (bB (aN eb cT (b6 oa ax (al (b6 sq ax (al (aN gj (lB ll aC) (ab 0)) aB)) aB))))) cF)
  (aR (bB (aN eb cT (b6 sq ax (al (ab 0) aB)))))),?_⟩
 try dsimp only[c4,c5,c6,c7]
 refine⟨_,I,.inl ⟨_,_,I,I,_,I,?_⟩⟩
 refine e2 (fun c=>?_) (fun c=>?_)
 ·obtain⟨m,e,hm,kd⟩:=Mi c aW.1
  have lm:=A9 hm
  refine⟨_,I,_,I,_,_,I,I,m,(congrArg (fun x=>[V.int x]) e),hm,cnt m,I,(by omega),.inr ⟨_,_,I,I,(by rw[s0,eG,eG,cw];exact fb (by simp only[d6,List.length_nil];omega)),H,.refl (dx _),?_⟩⟩
  rw[s0,L6,<-kd]
  exact q
 ·obtain⟨m,rfl,hm,kd⟩:=Me c aW.2
  have lm:=A9 hm
  refine⟨_,I,m,I,hm,.inr ⟨_,_,I,I,(by rw[s1,eG,eG];exact fb (by simp only[d6,List.length_nil];omega)),H,.refl (dx _),?_⟩⟩
  rw[s1,L6,<-kd]
  exact q
inductive PK(C:af)(vs:List V)(H:aq)(Q:bJ)(E:cN):Prop where
 |mk (p ak:af) (l:List Bool) (i d:Nat) (t b5:Bool) (bg:vs=[.ref p,.int d]) (ai:H p=J (e5 C ak l i t b5)) (aj:l.length<=16000000) (bE:i+d<=l.length) (cQ:Q (.int ((kG 1 (((l.map (xor t)).drop i).take d):Nat):Int)) (upd H p (e5 C ak l (i+d) t b5))):PK C vs H Q E
def PJ(C:af):cD:=fun vs H Q E=>PK C vs H Q E
theorem get_map(h:i<l.length):∃b,l[i]?=J b/\(l.map (xor t)).getD i aF=xor t b:=by
 refine⟨l[i],cp h,?_⟩
 rw[dN,eL,cp h];rfl
theorem X8{b:Bool}(h:i+j<L.length)(ag:L.getD (i+j) aF=b):(L.drop i).take (j+1)=(L.drop i).take j++[b]:=by
 rw[jy,List.getElem?_drop]
 rw[dN,cp h]at ag
 rw[cp h]
 have:L[i+j]=b:=ag
 rw[this];rfl
theorem U1(nb:dT mg)(ff:fY K C)(F:d1 K mg "draw_lower_digits" D2 ["source","width"] f fd)(gY:hb P w K mg base 1 C "draw" ["self"] (o5 C)):bq P w K mg base 2 "draw_lower_digits" ["source","width"] (PJ C):=by
 refine F.eO Aj (fun bx A _ s H vs Q E ax h=>?_)
 obtain⟨p,ak,l,i,d,t,b5,rfl,aY,aD,ay,q⟩:=h
 refine⟨_,(aI (bO 2 Aj.bo aC)
  (aI (kK h2.never rfl (lY rfl nb.k4 (al (ab 1) aB)) (d7 (i:=3) Aj.bo rfl (by exact Or.inl I))
   (aR (bO 2 Aj.bo (aN eb (aN k0 aC (ab 2)) (jA gY ff ax (ab 0))))))
  (aR (bB (ab 2))))),?_⟩
 try dsimp only[c4,c5,c6,c7]
 refine⟨_,I,_,I,by omega,by omega,?_⟩
 refine pC (fun j U av=>∃z,U=[J (.ref p),J (.int d),J (.int ((kG 1 (((l.map (xor t)).drop i).take j):Nat):Int)),z]/\av=upd H p (e5 C ak l (i+j) t b5)) ?_ ?_ ?_
 .exact⟨aw,I,(AN aY).symm⟩
 ·rintro j U av b2 ⟨z,rfl,rfl⟩
  have N9:j<d:=by omega
  obtain⟨b,gJ,gK⟩:=get_map (l:=l) (t:=t) (i:=i+j) (by omega)
  have aid:=X8 (L:=l.map (xor t)) (i:=i) (j:=j) (by rw[cw];omega) gK
  refine⟨_,I,.inl ⟨_,_,I,I,.inl ⟨by decide,by decide⟩,_,rfl,p,ak,_,rfl,aG,ly _ _ _ _ (by decide+kernel) (by decide+kernel) (by decide+kernel),?_⟩⟩
  refine⟨p,ak,l,i+j,t,b5,b,I,⟨_,aG⟩,aD,gJ,.inl ⟨_,_,I,I,?_⟩⟩
  have ev:(2:Int)*((kG 1 (((l.map (xor t)).drop i).take j):Nat):Int)+(((t ^^ b).toNat:Nat):Int)=((kG 1 (((l.map (xor t)).drop i).take (j+1)):Nat):Int):=by
   rw[aid,Yj]
   show _=((2*kG 1 (((l.map (xor t)).drop i).take j)+(t ^^ b).toNat:Nat):Int)
   omega
  rw[<-ev]
  exact⟨_,I,by rw[fN];rfl⟩
 ·rintro U av ⟨z,rfl,rfl⟩
  have e:((d:Nat):Int).toNat=d:=by omega
  rw[e]
  exact⟨_,I,_,.ins aY (fun b u ag e=>by rw[bK ag];exact e) aG,q⟩
inductive PG(C:af)(vs:List V)(H:aq)(Q:bJ)(E:cN):Prop where
 |mk (p ak:af) (l:List Bool) (i n:Nat) (t b5:Bool) (bg:vs=[.ref p]) (ai:J0 H p C ak l i t b5) (aj:l.length<=16000000) (bE:i<=l.length) (cQ:n+1<2^255) (eN:cnt n <+: (l.map (xor t)).drop i) (jj:Q (.int (n:Nat)) (upd H p (e5 C ak l (i+(cnt n).length) t b5))):PG C vs H Q E
def IT(C:af):cD:=fun vs H Q E=>PG C vs H Q E
theorem Wq(vv:gX mg "MOST_AHEAD" (.int 7))(ff:fY K C)(F:d1 K mg "draw_count" EU ["source"] f fd)(gY:hb P w K mg base 1 C "draw" ["self"] (o5 C))(zu:bq P w K mg base 2 "draw_lower_digits" ["source","width"] (PJ C)):bq P w K mg base 3 "draw_count" ["source"] (IT C):=by
 refine F.eO zQ (fun bx A _ s H vs Q E ax h=>?_)
 obtain⟨p,ak,l,i,n,t,b5,rfl,⟨zi,aY⟩,aD,ay,aW,hc,q⟩:=h
 refine⟨_,(aI (bO 1 zQ.bo aC)
  (aI (ro h2.never (gc.pt (oq (b0 jm (ab 1) (lV vv)) (od (b0 c2 (jA gY ff ax (ab 0)) aC))))
   (aR (bO 1 zQ.bo (aN eb (ab 1) aC))))
  (aI (bO 2 zQ.bo (b6 zu ax (al (ab 0) (al (ab 1) aB))))
  (aR (bB (aN gj (b6 zu ax (al (ab 0) (al (aN gj (ab 2) aC) aB))) aC)))))),?_⟩
 try dsimp only[c4,c5,c6,c7]
 have hd:aE (n+1)<=255:=jh aW
 have ajC:0<aE (n+1):=oi (by omega)
 have he:aE (aE (n+1))<=8:=jh (by omega)
 have bj:0<aE (aE (n+1)):=oi (by omega)
 have ca:=UL hc (by rw[cw];exact ay)
 have fits:=ca.fits
 have cl:=Mv n
 rw[cw]at fits
 refine⟨fun m U av=>∃(j:Nat)(u:Int),j<=aE (aE (n+1))-1/\m=8-j/\U=[J (.ref p),J (.int (j:Nat)),aw]/\(j≠0->u=0)/\av=upd H p (.ins C ak (gf (aP l) ((i+j:Nat):Int) t b5 u)),⟨8,0,zi,UF _,I,I,(fun z=>absurd I z),(AN aY).symm⟩,?_⟩
 rintro m U av ⟨j,u,b2,rfl,rfl,cC,rfl⟩
 refine⟨_,I,.inl ⟨_,_,I,I,_,I,?_⟩⟩
 have v1:kG 1 (((l.map (xor t)).drop (i+(aE (aE (n+1))-1)+(fq (aE (aE (n+1)))).length)).take (aE (aE (n+1))-1))=aE (n+1):=by rw[ca.size];exact MH (by omega)
 have v2:kG 1 (((l.map (xor t)).drop (i+(aE (aE (n+1))-1)+(fq (aE (aE (n+1)))).length+(aE (aE (n+1))-1))).take (aE (n+1)-1))=n+1:=by rw[ca.more];exact MH (by omega)
 have ad:[V.ref p,V.int (((aE (n+1):Nat):Int)-1)]=[.ref p,.int ((aE (n+1)-1:Nat):Int)]:=by
  have:((aE (n+1):Nat):Int)-1=((aE (n+1)-1:Nat):Int):=by omega
  rw[this]
 have MQ:((n+1:Nat):Int)-1=((n:Nat):Int):=by omega
 have ap:i+(aE (aE (n+1))-1)+(fq (aE (aE (n+1)))).length+(aE (aE (n+1))-1)+(aE (n+1)-1)=i+(cnt n).length:=by omega
 refine e2 (fun c=>?_) (fun c=>?_)
 ·have ajn:j<7:=by omega
  obtain⟨b,gJ,gK⟩:=get_map (l:=l) (t:=t) (i:=i+j) (by have:=SY (e:=aE (aE (n+1)));omega)
  refine⟨_,I,p,ak,_,I,aG,ly _ _ _ _ (by decide+kernel) (by decide+kernel) (by decide+kernel),p,ak,l,i+j,t,b5,b,I,⟨_,aG⟩,aD,gJ,I,_,I,?_⟩
  by_cases ack:j<aE (aE (n+1))-1
  ·have o:=ca.ones j ack
   rw[gK]at o
   rw[o]
   refine iK I ⟨fun cg H'=>∃bY,bY<8-j/\∃(j':Nat)(u:Int),j'<=aE (aE (n+1))-1/\bY=8-j'/\cg=[J (.ref p),J (.int (j':Nat)),aw]/\(j'≠0->u=0)/\H'=upd H p (.ins C ak (gf (aP l) ((i+j':Nat):Int) t b5 u)),fun _ _ h=>h,?_⟩
   exact⟨_,I,.inl ⟨_,_,I,I,8-(j+1),by omega,j+1,0,by omega,rfl,rfl,(fun _=>rfl),by rw[fN];rfl⟩⟩
  ·have hK:j=aE (aE (n+1))-1:=by omega
   have o:=ca.zero (by omega)
   rw[<-hK,gK]at o
   rw[o]
   refine fx (by intro z;cases z) ?_
   have qy:(fq (aE (aE (n+1)))).length=1:=by unfold fq;rw[if_neg (by omega)];rfl
   have ex:upd (upd H p (.ins C ak (gf (aP l) ((i+j:Nat):Int) t b5 u))) p (.ins C ak (xZ (aP l) ((i+j+1:Nat):Int) t b5))=upd H p (e5 C ak l (i+(aE (aE (n+1))-1)+(fq (aE (aE (n+1)))).length) t b5):=by
    rw[fN,qy,<-hK]
   rw[ex,hK]
   refine⟨_,I,_,I,p,ak,l,i+(aE (aE (n+1))-1)+(fq (aE (aE (n+1)))).length,aE (aE (n+1))-1,t,b5,I,aG,aD,(by omega),?_⟩
   rw[v1]
   refine⟨_,I,_,I,_,_,I,I,p,ak,l,_,aE (n+1)-1,t,b5,ad,aG,aD,(by omega),_,_,I,I,?_⟩
   rw[v2,fN,fN,ap]
   refine⟨_,.ins aY (fun b u ag e=>by rw[bK ag];exact e) aG,?_⟩
   dsimp only
   rw[MQ]
   exact q
 ·have hK:j=aE (aE (n+1))-1:=by omega
  have qy:(fq (aE (aE (n+1)))).length=0:=by unfold fq;rw[if_pos (by omega)];rfl
  have acj:j≠0:=by omega
  rw[cC acj]
  have ex:upd H p (e5 C ak l (i+j) t b5)=upd H p (e5 C ak l (i+(aE (aE (n+1))-1)+(fq (aE (aE (n+1)))).length) t b5):=by
   rw[qy,<-hK];rfl
  rw[ex,hK]
  refine⟨_,I,_,I,p,ak,l,i+(aE (aE (n+1))-1)+(fq (aE (aE (n+1)))).length,aE (aE (n+1))-1,t,b5,I,aG,aD,(by omega),?_⟩
  rw[v1]
  refine⟨_,I,_,I,_,_,I,I,p,ak,l,_,aE (n+1)-1,t,b5,ad,aG,aD,(by omega),_,_,I,I,?_⟩
  rw[v2,fN,fN,ap]
  refine⟨_,.ins aY (fun b u ag e=>by rw[bK ag];exact e) aG,?_⟩
  dsimp only
  rw[MQ]
  exact q
inductive PL(C:af)(vs:List V)(H:aq)(Q:bJ)(E:cN):Prop where
 |mk (p ak:af) (l:List Bool) (i:Nat) (n:Int) (t b5:Bool) (bg:vs=[.ref p]) (ai:H p=J (e5 C ak l i t b5)) (aj:l.length<=16000000) (bE:i<=l.length) (cQ:hW n) (eN:gP n <+: (l.map (xor t)).drop i) (jj:Q (.int n) (upd H p (e5 C ak l (i+(gP n).length) t b5))):PL C vs H Q E
def CZ(C:af):cD:=fun vs H Q E=>PL C vs H Q E
theorem A3{b:Bool}(h:(b::r) <+: L.drop i):i<L.length/\L.getD i aF=b/\r <+: L.drop (i+1):=by
 obtain⟨u,e⟩:=h
 have aD:i<L.length:=by
  rcases g4 i L.length with z|z
  .exact z
  .rw[List.drop_eq_nil_of_le z]at e;cases e
 rw[nc aD]at e
 have aS:b=L[i]:=(List.cons.inj e).1
 refine⟨aD,?_,u,(List.cons.inj e).2⟩
 rw[dN,cp aD,aS];rfl
theorem Wn(ff:fY K C)(F:d1 K mg "draw_whole" ES ["source"] f fd)(gY:hb P w K mg base 1 C "draw" ["self"] (o5 C))(lR:hb P w K mg base 1 C "turn" ["self"] (zc C))(sr:bq P w K mg base 3 "draw_count" ["source"] (IT C)):bq P w K mg base 4 "draw_whole" ["source"] (CZ C):=by
 refine F.eO Kr (fun bx A _ s H vs Q E ax h=>?_)
 obtain⟨p,ak,l,i,n,t,b5,rfl,aY,aD,ay,aW,hc,q⟩:=h
 refine⟨_,(aI (cE (b0 c2 (jA gY ff ax (ab 0)) aC) (aR (bB (b6 sr ax (al (ab 0) aB)))) cF)
  (aI (iW (jA lR ff ax (ab 0)))
  (aI (bO 1 Kr.bo (aN gj (lB ll aC) (b6 sr ax (al (ab 0) aB))))
  (aI (iW (jA lR ff ax (ab 0)))
  (aR (bB (ab 1))))))),?_⟩
 try dsimp only[c4,c5,c6,c7]
 have nm:∀(z:ae)(i:Int)(t e:Bool){u:Int},(gf z i t e u).lookup ("draw":ae)=aw:=fun _ _ _ _=>ly _ _ _ _ (by decide+kernel) (by decide+kernel) (by decide+kernel)
 have tP:∀(z:ae)(i:Int)(t e:Bool){u:Int},(gf z i t e u).lookup ("turn":ae)=aw:=fun _ _ _ _=>ly _ _ _ _ (by decide+kernel) (by decide+kernel) (by decide+kernel)
 by_cases c:n<0
 ·obtain⟨m,e,hm,kd⟩:=Mi c aW.1
  rw[kd]at hc
  obtain⟨ai,aj,bE⟩:=A3 hc
  rw[cw]at ai
  obtain⟨b,gJ,gK⟩:=get_map (l:=l) (t:=t) ai
  rw[aj]at gK
  refine⟨_,I,p,ak,_,I,aY,nm ..,p,ak,l,i,t,b5,b,I,⟨_,aY⟩,aD,gJ,I,_,I,?_⟩
  rw[<-gK]
  refine fx (by intro z;cases z) ?_
  refine⟨_,I,p,ak,_,I,aG,tP ..,p,ak,l,_,_,_,_,I,aG,?_⟩
  rw[fN]
  refine⟨_,I,_,I,p,ak,l,i+1,m,(!t),b5,I,⟨_,aG⟩,aD,(by omega),hm,?_,?_⟩
  .rw[<-KD,<-List.map_drop];exact Ko bE
  rw[fN]
  refine⟨_,_,I,I,?_⟩
  refine⟨_,I,p,ak,_,I,aG,tP ..,p,ak,l,_,_,_,_,I,aG,?_⟩
  rw[fN,Bool.not_not]
  refine⟨_,I,_,.ins aY (fun b u ag e=>by rw[bK ag];exact e) aG,?_⟩
  have b5:(-1:Int)-(m:Int)=n:=by omega
  have gp:i+1+(cnt m).length=i+(gP n).length:=by rw[kd,d6,cw];omega
  dsimp only
  rw[b5,gp]
  exact q
 ·obtain⟨m,rfl,hm,kd⟩:=Me c aW.2
  rw[kd]at hc
  obtain⟨ai,aj,bE⟩:=A3 hc
  rw[cw]at ai
  obtain⟨b,gJ,gK⟩:=get_map (l:=l) (t:=t) ai
  rw[aj]at gK
  refine⟨_,I,p,ak,_,I,aY,nm ..,p,ak,l,i,t,b5,b,I,⟨_,aY⟩,aD,gJ,I,_,I,?_⟩
  rw[<-gK]
  refine iK I ?_
  refine⟨_,I,p,ak,l,i+1,m,t,b5,I,⟨_,aG⟩,aD,(by omega),hm,bE,?_⟩
  rw[fN]
  refine⟨_,.ins aY (fun b u ag e=>by rw[bK ag];exact e) aG,?_⟩
  have gp:i+1+(cnt m).length=i+(gP (m:Int)).length:=by rw[kd,d6];omega
  rw[gp]
  exact q
theorem nJ(l:List Int):(l.map V.int).length=l.length:=cw ..
theorem wx{n:Nat}(h:n<=100001):n<=cj:=dE h (by decide)
theorem rg{r:af}(hs:ef H av)(ax:H r=aw):ef H (upd av r o):=fun b u e=>by rw[bK (f5 e ax)];exact hs b u e
inductive QK(vs:List V)(H:aq)(Q:bJ)(E:cN):Prop where
 |mk (t:af) (p q:Int) (bg:vs=[.ref t]) (ai:H t=J (.tup [.int p,.int q])) (aj:0<=q) (bE:(fh p q).length<=100000) (cQ:(∀x∈fh p q,x.natAbs<2^1000)) (eN:∀r,H r=aw->Q (.ref r) (upd H r (.lst ((fh p q).map .int)))):QK  vs H Q E
def C6:cD:=fun vs H Q E=>QK  vs H Q E
theorem Xb(F:d1 K mg "steps_of" Fb ["fraction"] f fd):bq P w K mg base 1 "steps_of" ["fraction"] C6:=by
 refine F.eO sL (fun bx A _ s H vs Q E ax h=>?_)
 obtain⟨t,p,q,rfl,aM,bj,aD,ag,gq⟩:=h
 refine⟨_,(aI (bO 1 sL.bo (h6 aB))
  (aI (bO 2 sL.bo (bG bH (ab 0) aC))
  (aI (bO 3 sL.bo (bG bH (ab 0) aC))
  (aI (ro h2.never (b0 qR (ab 3) aC)
   (aI (iW (hV PySem.F.plainAttrs_list PySem.F.slot_list_append PySem.F.type_list_append qo (ab 1) (al (aN u6 (ab 2) (ab 3)) aB)))
   (aI (bO 4 sL.bo (aN dI (ab 2) (ab 3)))
   (aI (bO 2 sL.bo (ab 3))
   (aR (bO 3 sL.bo (ab 4)))))))
  (aR (bB (ab 1))))))),?_⟩
 try dsimp only[c4,c5,c6,c7]
 have a0:ey [V.int p,V.int q] 0=J (.int p):=cB (j:=0) rfl
 have a1:ey [V.int p,V.int q] 1=J (.int q):=cB (j:=1) rfl
 refine⟨UF _,fun r fJ=>?_⟩
 have Ou:=dg (o:=df.lst []) fJ t _ aM
 refine⟨_,I,.inl (.inr ⟨_,_,_,_,I,I,bI Ou,a0,_,I,.inl (.inr ⟨_,_,_,_,I,I,bI Ou,a1,?_⟩)⟩)⟩
 refine⟨fun m U av=>∃(d:List Int)(x y:Int)(z:Option V),d++fh x y=fh p q/\0<=y/\m=y.toNat/\U=[J (.ref t),J (.ref r),J (.int x),J (.int y),z]/\av=upd H r (.lst (d.map .int)),⟨q.toNat,[],p,q,aw,I,bj,I,I,I⟩,?_⟩
 rintro m U av ⟨d,x,y,z,hd,aU,rfl,rfl,rfl⟩
 refine⟨_,I,I,_,I,?_⟩
 rw[xD]
 by_cases tG:y=0
 ·subst tG
  rw[ru,List.append_nil]at hd
  subst hd
  refine dW ⟨_,I,_,.new fJ (dg fJ) aG trivial,gq r fJ⟩
 ·have lI:0<y:=by omega
  rw[m4 lI]at hd
  have qM:x/y∈fh p q:=by rw[<-hd];exact mq _ (gF ..)
  have cM:=congrArg List.length hd
  rw[dX,d6]at cM
  have eA:(y == 0)=aF:=by simpa using tG
  rw[eA]
  have cv:=h5 x lI
  have k3:=hT x tG
  refine e3 ⟨fun cg H'=>∃bY,bY<y.toNat/\∃(d:List Int)(x y:Int)(z:Option V),d++fh x y=fh p q/\0<=y/\bY=y.toNat/\cg=[J (.ref t),J (.ref r),J (.int x),J (.int y),z]/\H'=upd H r (.lst (d.map .int)),fun _ _ h=>h,?_⟩
  refine⟨_,I,.inl ⟨I,_,bb aG⟩,_,I,_,I,_,_,I,I,⟨lI,.inr (dE (SU lI (ag _ qM)) (Nat.add_le_add_left (by decide) _))⟩,?_⟩
  refine⟨_,_,_,I,I,aG,(by rw[nJ];exact fB (show d.length<100001 by omega) (wx (by decide))),?_⟩
  refine⟨_,I,_,I,_,_,I,I,lI,_,I,_,I,?_⟩
  refine⟨(x%y).toNat,by omega,d++[x/y],y,x%y,_,?_,k3,rfl,rfl,?_⟩
  .rw[gD];exact hd
  .rw[fN,fo];rfl
inductive Px(vs:List V)(H:aq)(Q:bJ)(E:cN):Prop where
 |mk (a:af) (s:List Int) (bg:vs=[.ref a]) (ai:H a=J (.lst (s.map .int))) (aj:s.length<=100000) (bE:Q (.aQ (qD s)) H):Px  vs H Q E
def IQ:cD:=fun vs H Q E=>Px  vs H Q E
theorem Xm(h:s.length<2):qD s=decide (s.length=1):=by unfold qD;rw[if_pos h]
theorem XV(h:¬s.length<2):qD s=(s.tail.all (fun x=>decide (0<x))&&decide (1<s.getLastD 0)):=by unfold qD;rw[if_neg h]
theorem FC(h:s≠[]):ey (s.map V.int) (-1)=J (.int (s.getLastD 0)):=by
 rw[List.getLastD_eq_getLast?,List.getLast?_eq_some_getLast h,Option.getD_some]
 conv=>lhs;rw[<-List.dropLast_concat_getLast h,fo]
 exact S3 _ _
theorem WQ(nb:dT mg)(F:d1 K mg "are_steps" E4 ["steps"] f fd):bq P w K mg base 1 "are_steps" ["steps"] IQ:=by
 refine F.eO WA (fun bx A _ s H vs Q E ax h=>?_)
 obtain⟨a,s,rfl,aJ,aD,q⟩:=h
 refine⟨_,(aI (cE (b0 jm (b9 du I nb.dn dq (al (ab 0) aB)) aC) (aR (bB (fO c2 (b9 du I nb.dn dq (al (ab 0) aB)) aC))) cF)
  (aR (bB (jg (b9 (u7 rfl) rfl nb.vl vi (al (ik ["step"] [] rfl (by decide+kernel) trivial (h0 (lA qW (ab 0) (kv aC) mu)) (fun _ _ _ _ _=>(d7 (i:=0) (show(["step"]:List ae).Nodup by decide+kernel))) (fun _ _ _ _ _=>hu) (fun _ _ _ _ _=>(fO jG (ab 0) aC))) aB)) (jQ (fO jG (bG bH (ab 0) (lB ll aC)) aC)))))),?_⟩
 try dsimp only[c4,c5,c6,c7]
 refine⟨_,I,_,_,I,.inl ⟨_,bb aJ,I⟩,.inl ⟨_,_,I,I,_,I,?_⟩⟩
 rw[nJ]
 refine e2 (fun c=>?_) (fun c=>?_)
 ·refine⟨_,I,_,_,I,.inl ⟨_,bb aJ,I⟩,I,H,.refl (dx _),?_⟩
  have e:decide (V.int ((s.map V.int).length:Nat)=V.int 1)=qD s:=by
   rw[Xm (by omega),nJ,xD]
   apply Bool.eq_iff_iff.mpr;simp;omega
  rw[e];exact q
 ·have hs:s≠[]:=by intro e;subst e;simp at c
  refine .inl ⟨_,I,_,I,.inl ⟨a,_,I,bb aJ,fun p aY=>⟨_,I,⟨_,bb aG⟩,fun D dB=>?_⟩⟩⟩
  rw[Ly,<-List.map_drop]at dB ⊢
  have qV:=dg (o:=df.lst ((s.drop 1).map V.int)) aY
  refine AU (xs:=(s.drop 1).map V.int) (fun x=>match x with|.int i =>.aQ (decide (0<i))|_=>x) (fun U=>U.length=1) (by rw[nJ,je];exact fb (by omega)) rfl dB (bb aG) ?_ ?_
  ·rintro x ao bL H1 dk er R b1
   obtain⟨i,_,rfl⟩:=List.mem_map.mp ao
   obtain⟨z,rfl⟩:=FI dk
   exact⟨_,I,_,_,I,I,b1 _ I⟩
  ·rw[gE]
   have y1:=qV.trans (dg (o:=df.lst ((s.drop 1).map fun i=>V.aQ (decide (0<i)))) dB)
   refine⟨D,(s.drop 1).map fun i=>decide (0<i),I,bb (by rw[aG,gE];rfl),_,I,?_⟩
   have ck:qD s=(((s.drop 1).map fun i=>decide (0<i)).all id&&decide (1<s.getLastD 0)):=by
    rw[XV (by omega),<-List.drop_one,List.all_map];rfl
   cases fI:((s.drop 1).map fun i=>decide (0<i)).all id with
   |false =>
    rw[fI,Bool.false_and]at ck
    rw[ck]at q
    exact dW ⟨H,.refl y1,q⟩
   |true =>
    rw[fI,Bool.true_and]at ck
    rw[ck]at q
    exact e3 ⟨_,I,_,I,.inl (.inl ⟨_,_,_,_,I,I,bb (y1 _ _ aJ),FC hs,_,_,I,I,H,.refl y1,q⟩)⟩
inductive PS(vs:List V)(H:aq)(Q:bJ)(E:cN):Prop where
 |mk (a:af) (s:List Int) (bg:vs=[.ref a]) (ai:H a=J (.lst (s.map .int))) (aj:s.length<=1000) (bE:(∀x∈s,x.natAbs<2^1000)) (cQ:Good s) (eN:∀r,H r=aw->Q (.ref r) (upd H r (.tup [.int (cX s).1,.int (cX s).2]))):PS  vs H Q E
def PR:cD:=fun vs H Q E=>PS  vs H Q E
theorem YM(aD:s.length<=1000)(ag:∀x∈s,x.natAbs<2^1000):cS.Int.intBits (cX s).1<=2^20/\cS.Int.intBits (cX s).2<=2^20:=by
 obtain⟨ai,aj⟩:=Lp ag
 have k:(1000+1)*s.length+1<=2^20:=by
  have:(1000+1)*s.length<=1001*1000:=Nat.mul_le_mul_left _ aD
  omega
 exact⟨dE (MA ai) k,dE (MA aj) k⟩
theorem Y9{x:V}(h:((s.take (s.length-1)).map V.int)[((s.take (s.length-1)).map V.int).length-1-i]?=J x)(ay:i<s.length-1):∃y,x=.int y/\s.drop (s.length-1-(i+1))=y::s.drop (s.length-1-i)/\y∈s:=by
 have ai:s.length-1-1-i<s.length-1:=Nat.lt_of_le_of_lt (Nat.sub_le ..) (Nat.sub_lt (Nat.lt_of_le_of_lt (UF _) ay) Nat.one_pos)
 rw[nJ,ht,Nat.min_eq_left (Nat.sub_le ..),eL,List.getElem?_take_of_lt ai]at h
 have hk:s.length-1-1-i<s.length:=fB ai (Nat.sub_le ..)
 rw[cp hk]at h
 refine⟨_,(e8 h).symm,?_,List.getElem_mem hk⟩
 have aS:s.length-1-(i+1)=s.length-1-1-i:=by rw[Nat.sub_sub (s.length-1) 1 i,Nat.add_comm 1 i]
 have aV:s.length-1-i=s.length-1-1-i+1:=by rw[<-aS];exact(Nat.sub_add_cancel (Nat.sub_pos_of_lt ay)).symm
 rw[aS,aV]
 exact nc hk
theorem YS(h:s≠[]):s.drop (s.length-1)=[s.getLastD 0]:=by
 rw[List.getLastD_eq_getLast?,List.getLast?_eq_some_getLast h,Option.getD_some]
 conv=>lhs;rw[<-List.dropLast_concat_getLast h]
 rw[dX,ku,Nat.add_sub_cancel,List.drop_left]
theorem VY(nb:dT mg)(F:d1 K mg "fraction_of" EF ["steps"] f fd)(ux:bq P w K mg base 1 "are_steps" ["steps"] IQ):bq P w K mg base 2 "fraction_of" ["steps"] PR:=by
 refine F.eO sR (fun bx A _ s H vs Q E ax h=>?_)
 obtain⟨a,s,rfl,aJ,aD,ag,aX,q⟩:=h
 refine⟨_,(aI (cE (jP (hi (b6 ux ax (al (ab 0) aB)))) (aR lz) cF)
  (aI (bO 1 sR.bo (bG bH (ab 0) (lB ll aC)))
  (aI (bO 2 sR.bo aC)
  (aI (kK h2.never rfl (Up rfl nb.ag6 (lA qW (ab 0) mu (kv (lB ll aC)))) (d7 (i:=3) sR.bo rfl (by exact Or.inl I))
   (aI (bO 4 sR.bo (ab 1))
   (aI (bO 1 sR.bo (aN eb (aN F2 (ab 3) (ab 1)) (ab 2)))
   (aR (bO 2 sR.bo (ab 4))))))
  (aR (bB (jf (al (ab 1) (al (ab 2) aB))))))))),?_⟩
 try dsimp only[c4,c5,c6,c7]
 have hs:=aX.ne
 have aW:0<s.length:=List.length_pos_iff.mpr hs
 refine⟨_,I,a,s,I,aJ,by omega,_,rfl,?_⟩
 rw[(Lo s).mpr aX]
 refine dW ⟨_,I,_,I,.inl (.inl ⟨_,_,_,_,I,I,bb aJ,FC hs,?_⟩)⟩
 refine⟨_,I,_,I,_,I,.inl ⟨a,_,I,bb aJ,fun p aY=>?_⟩⟩
 rw[YW,<-List.map_take,nJ]
 have qV:=dg (o:=df.lst ((s.take (s.length-1)).map V.int)) aY
 refine⟨p,_,I,bb aG,?_⟩
 have cM:((s.take (s.length-1)).map V.int).length=s.length-1:=by rw[nJ,ht];omega
 refine T4 (fun i U av=>av=upd H p (.lst ((s.take (s.length-1)).map V.int))/\∃cP cL,U=[J (.ref a),J (.int (cX (s.drop (s.length-1-i))).1),J (.int (cX (s.drop (s.length-1-i))).2),cP,cL]) ?_ ?_ ?_ ?_
 ·refine⟨I,aw,aw,?_⟩
  rw[Nat.sub_zero,YS hs]
  show _=[_,J (V.int (s.getLastD 0*1+0)),J (V.int 1),_,_]
  rw[Int.mul_one,Int.add_zero];rfl
 .rintro i U av ay ⟨rfl,_⟩;exact bb aG
 ·rintro i x U av ay ao ⟨rfl,cP,cL,rfl⟩
  rw[cM]at ay
  obtain⟨y,rfl,kT,aU⟩:=Y9 ao ay
  have hl:=YM (s:=s.drop (s.length-1-i)) (by rw[je];omega) fun x ao=>ag x (List.mem_of_mem_drop ao)
  refine⟨_,I,_,I,_,I,_,_,I,I,⟨dE (Mz (ag y aU)) (by decide),hl.1⟩,_,I,.inl ⟨_,_,I,I,_,I,I,J (.int y),J (.int (cX (s.drop (s.length-1-i))).1),?_⟩⟩
  rw[kT];rfl
 ·rintro U av ⟨rfl,cP,cL,rfl⟩
  rw[cM,Nat.sub_self,List.drop_zero]
  refine⟨_,I,_,I,(by show 2<=cj;decide),fun r fJ=>?_⟩
  exact⟨_,.new (qV.free fJ) (qV.trans (dg fJ)) aG trivial,q r (qV.free fJ)⟩
noncomputable instance (n:Int):Decidable (hW n):=inferInstanceAs (Decidable (_/\_))
def m6(s:List Int):Prop:=(∀x∈s.take 1,hW x)/\∀x∈s.drop 1,hQ (x-1)
noncomputable instance (s:List Int):Decidable (m6 s):=inferInstanceAs (Decidable (_/\_))
inductive PX(vs:List V)(H:aq)(Q:bJ)(E:cN):Prop where
 |mk (n:Int) (bg:vs=[.int n]) (ai:Q (.aQ (decide (hW n))) H):PX  vs H Q E
def PV:cD:=fun vs H Q E=>PX  vs H Q E
theorem Vo(F:d1 K mg "has_whole_row" zB ["n"] f fd)(m2:bq P w K mg base 1 "is_count" ["n"] y7):bq P w K mg base 2 "has_whole_row" ["n"] PV:=by
 refine F.eO Kg (fun bx A _ s H vs Q E ax h=>?_)
 obtain⟨n,rfl,q⟩:=h
 refine⟨_,(aR (bB (b6 m2 ax (al (lU (b0 CQ (ab 0) aC) (ab 0) (aN gj (lB ll aC) (ab 0))) aB)))),?_⟩
 try dsimp only[c4,c5,c6,c7]
 refine⟨_,I,_,_,I,I,_,I,?_⟩
 refine e2 (fun c=>?_) (fun c=>?_)
 ·refine⟨_,I,_,I,H,.refl (dx _),?_⟩
  have e:decide (hQ n)=decide (hW n):=decide_eq_decide.mpr (by unfold hQ hW;omega)
  rw[e];exact q
 ·refine⟨_,I,_,I,_,_,I,I,_,I,H,.refl (dx _),?_⟩
  have e:decide (hQ (-1-n))=decide (hW n):=decide_eq_decide.mpr (by unfold hQ hW;omega)
  rw[e];exact q
inductive PB(vs:List V)(H:aq)(Q:bJ)(E:cN):Prop where
 |mk (p q:Int) (bg:vs=[.int p,.int q]) (ai:0<=q) (aj:Q (.int (e0 p q)) H):PB  vs H Q E
def PA:cD:=fun vs H Q E=>PB  vs H Q E
theorem Vc(F:d1 K mg "common_divisor" Ee ["one","other"] f fd):bq P w K mg base 1 "common_divisor" ["one","other"] PA:=by
 refine F.eO Ab (fun bx A _ s H vs Q E ax h=>?_)
 obtain⟨p,q,rfl,bj,gq⟩:=h
 refine⟨_,(aI (ro h2.never (b0 qR (ab 1) aC)
   (aI (bO 2 Ab.bo (aN dI (ab 0) (ab 1)))
   (aI (bO 0 Ab.bo (ab 1))
   (aR (bO 1 Ab.bo (ab 2))))))
  (aR (bB (ab 0)))),?_⟩
 try dsimp only[c4,c5,c6,c7]
 refine⟨fun m U av=>∃(x y:Int)(z:Option V),e0 x y=e0 p q/\0<=y/\m=y.toNat/\U=[J (.int x),J (.int y),z]/\av=H,⟨q.toNat,p,q,aw,I,bj,I,I,I⟩,?_⟩
 rintro m U av ⟨x,y,z,hd,aU,rfl,rfl,rfl⟩
 refine⟨_,I,I,_,I,?_⟩
 rw[xD]
 by_cases tG:y=0
 ·subst tG
  rw[xE]at hd
  subst hd
  exact dW ⟨_,I,av,.refl (dx _),gq⟩
 ·have lI:0<y:=by omega
  rw[Bm lI]at hd
  have eA:(y == 0)=aF:=by simpa using tG
  rw[eA]
  have cv:=h5 x lI
  have k3:=hT x tG
  refine e3 ⟨fun cg H'=>∃bY,bY<y.toNat/\∃(x y:Int)(z:Option V),e0 x y=e0 p q/\0<=y/\bY=y.toNat/\cg=[J (.int x),J (.int y),z]/\H'=av,fun _ _ h=>h,?_⟩
  refine⟨_,I,_,I,_,_,I,I,lI,_,I,_,I,?_⟩
  exact⟨(x%y).toNat,by omega,y,x%y,_,hd,k3,rfl,rfl,rfl⟩
inductive P2(vs:List V)(H:aq)(Q:bJ)(E:cN):Prop where
 |mk (t:af) (p q:Int) (bg:vs=[.ref t]) (ai:H t=J (.tup [.int p,.int q])) (aj:Q (.aQ (decide (0<q/\e0 p q=1))) H):P2  vs H Q E
def P1:cD:=fun vs H Q E=>P2  vs H Q E
theorem VX(F:d1 K mg "is_fraction" EE ["fraction"] f fd)(DC:bq P w K mg base 1 "common_divisor" ["one","other"] PA):bq P w K mg base 2 "is_fraction" ["fraction"] P1:=by
 refine F.eO VJ (fun bx A _ s H vs Q E ax h=>?_)
 obtain⟨t,p,q,rfl,aM,gq⟩:=h
 refine⟨_,(aR (bB (jg (fO jG (bG bH (ab 0) aC) aC) (jQ (fO c2 (b6 DC ax (al (bG bH (ab 0) aC) (al (bG bH (ab 0) aC) aB))) aC))))),?_⟩
 try dsimp only[c4,c5,c6,c7]
 have a0:ey [V.int p,V.int q] 0=J (.int p):=cB (j:=0) rfl
 have a1:ey [V.int p,V.int q] 1=J (.int q):=cB (j:=1) rfl
 refine⟨_,I,.inl (.inr ⟨_,_,_,_,I,I,bI aM,a1,_,_,I,I,_,I,?_⟩)⟩
 refine e2 (fun c=>?_) (fun c=>?_)
 ·refine⟨_,I,.inl (.inr ⟨_,_,_,_,I,I,bI aM,a0,_,I,.inl (.inr ⟨_,_,_,_,I,I,bI aM,a1,p,q,I,Int.le_of_lt c,I,H,.refl (dx _),?_⟩)⟩)⟩
  have e:decide (V.int (e0 p q)=V.int 1)=decide (0<q/\e0 p q=1):=decide_eq_decide.mpr ⟨fun z=>⟨c,V.int.inj z⟩,fun z=>congrArg V.int z.2⟩
  rw[e];exact gq
 ·refine⟨H,.refl (dx _),?_⟩
  rw[fC (fun z=>c z.1)]at gq
  exact gq
inductive PU(vs:List V)(H:aq)(Q:bJ)(E:cN):Prop where
 |mk (t:af) (p q:Int) (bg:vs=[.ref t]) (ai:H t=J (.tup [.int p,.int q])) (aj:(0<q->(fh p q).length<=100000/\∀x∈fh p q,x.natAbs<2^1000)) (bE:Q (.aQ (decide (0<q/\e0 p q=1/\m6 (fh p q)))) H):PU  vs H Q E
def IW:cD:=fun vs H Q E=>PU  vs H Q E
theorem U3(nb:dT mg)(F:d1 K mg "has_fraction_row" D3 ["fraction"] f fd)(DE:bq P w K mg base 2 "is_fraction" ["fraction"] P1)(q9:bq P w K mg base 1 "steps_of" ["fraction"] C6)(su:bq P w K mg base 2 "has_whole_row" ["n"] PV)(m2:bq P w K mg base 1 "is_count" ["n"] y7):bq P w K mg base 3 "has_fraction_row" ["fraction"] IW:=by
 refine F.eO Kc (fun bx A _ s H vs Q E ax h=>?_)
 obtain⟨t,p,q,rfl,aM,ag,gq⟩:=h
 refine⟨_,(aI (cE (jP (hi (b6 DE ax (al (ab 0) aB)))) (aR (bB jO)) cF)
  (aI (bO 1 Kc.bo (b6 q9 ax (al (ab 0) aB)))
  (aR (bB (jg (b6 su ax (al (bG bH (ab 1) aC) aB)) (jQ (b9 (u7 rfl) rfl nb.vl vi (al (ik ["step"] [] rfl (by decide+kernel) trivial (h0 (lA qW (ab 1) (kv aC) mu)) (fun _ _ _ _ _=>(d7 (i:=0) (show(["step"]:List ae).Nodup by decide+kernel))) (fun _ _ _ _ _=>hu) (fun _ _ _ _ _=>(b6 m2 ax (al (aN gj (ab 0) aC) aB)))) aB)))))))),?_⟩
 try dsimp only[c4,c5,c6,c7]
 refine⟨_,I,t,p,q,I,aM,_,I,?_⟩
 by_cases az:0<q/\e0 p q=1
 ·rw[eu az]
  obtain⟨aD,bz⟩:=ag az.1
  refine dW ⟨_,I,t,p,q,I,aM,Int.le_of_lt az.1,aD,bz,fun r fJ=>?_⟩
  have qV:=dg (o:=df.lst ((fh p q).map V.int)) fJ
  obtain⟨a,es,he⟩:∃a es,fh p q=a::es:=⟨_,_,m4 az.1⟩
  rw[he]at gq qV aD ⊢
  have a0:ey ((a::es).map V.int) 0=J (.int a):=cB (j:=0) rfl
  refine⟨_,I,.inl (.inl ⟨_,_,_,_,I,I,bb aG,a0,a,I,_,I,?_⟩)⟩
  refine e2 (fun c=>?_) (fun c=>?_)
  ·refine .inl ⟨_,I,_,I,.inl ⟨r,_,I,bb aG,fun g aX=>⟨_,I,⟨_,bb aG⟩,fun D dB=>?_⟩⟩⟩
   rw[Ly,<-List.map_drop]at dB ⊢
   have y1:=qV.trans (dg (o:=df.lst (((a::es).drop 1).map V.int)) aX)
   refine AU (xs:=((a::es).drop 1).map V.int) (fun x=>match x with|.int i =>.aQ (decide (hQ (i-1)))|_=>x) (fun U=>U.length=1) (by rw[nJ,je];exact fb (by omega)) rfl dB (bb aG) ?_ ?_
   ·rintro x ao bL H1 dk er R b1
    obtain⟨i,_,rfl⟩:=List.mem_map.mp ao
    obtain⟨z,rfl⟩:=FI dk
    exact⟨_,I,_,_,I,I,_,I,b1 _ I⟩
   ·rw[gE]
    have ag8:=y1.trans (dg (o:=df.lst (((a::es).drop 1).map fun i=>V.aQ (decide (hQ (i-1))))) dB)
    refine⟨D,((a::es).drop 1).map fun i=>decide (hQ (i-1)),I,bb (by rw[aG,gE];rfl),H,.refl ag8,?_⟩
    have e:(((a::es).drop 1).map fun i=>decide (hQ (i-1))).all id=decide (0<q/\e0 p q=1/\m6 (a::es)):=by
     rw[List.all_map]
     apply Bool.eq_iff_iff.mpr
     rw[e9,iR]
     constructor
     ·intro h
      refine⟨az.1,az.2,fun x ao=>?_,fun x ao=>hg (h x ao)⟩
      rw[d5.mp ao];exact c
     ·intro h x ao
      exact eu (h.2.2.2 x ao)
    rw[e];exact gq
  ·refine⟨H,.refl qV,?_⟩
   rw[fC (fun z=>c (z.2.2.1 a (d5.mpr rfl)))]at gq
   exact gq
 ·rw[fC az]
  refine e3 ⟨H,.refl (dx _),?_⟩
  rw[fC (fun z=>az ⟨z.1,z.2.1⟩)]at gq
  exact gq
inductive Qv(vs:List V)(H:aq)(Q:bJ)(E:cN):Prop where
 |mk (a:af) (s:List Int) (bg:vs=[.ref a]) (ai:H a=J (.lst (s.map .int))) (aj:s≠[]) (bE:s.length<=10000) (cQ:m6 s) (eN:Q (.str (aP (jD s))) H):Qv  vs H Q E
def I3:cD:=fun vs H Q E=>Qv  vs H Q E
theorem Ym{x:Int}{b:Bool}(h:if k=0 then hW x else hQ (x-1)):(ic k x b).length<=271:=by
 unfold ic
 rw[cw,dX,ku]
 by_cases hk:k=0
 ·rw[if_pos hk]at h ⊢
  have:=KU h.1 h.2
  omega
 ·rw[if_neg hk]at h ⊢
  have:=A9 (n:=(x-1).toNat) (by unfold hQ at h;omega)
  omega
theorem m6.at{x:Int}(h:m6 s)(ao:s[i]?=J x):if i=0 then hW x else hQ (x-1):=by
 match s,i,ao with
 |a::r,0,ao=>cases ao;exact h.1 x (d5.mpr I)
 |a::r,i+1,ao=>exact h.2 x (fE ao)
theorem Tc{l:List (List Bool)}(h:∀p∈l,p.length<=271):((l.map aP).map (·.length)).sum<=271*l.length:=by
 induction l with
 |nil=>exact UF _
 |cons p r bT =>
  rw[fD,fD,List.sum_cons,d6,eG]
  have:=h p (gF ..)
  have:=bT fun q bj=>h q (en _ bj)
  omega
theorem AO(x:List Bool)(b:Bool):aP x++aP [b]=aP (x++[b]):=by rw[ka]
theorem VB(nb:dT mg)(F:d1 K mg "row_of_steps" Ex ["steps"] f fd)(ra:bq P w K mg base 3 "whole_row" ["n"] AB)(sq:bq P w K mg base 2 "count_row" ["n"] IS)(oa:bq P w K mg base 1 "turned_row" ["row"] xm):bq P w K mg base 4 "row_of_steps" ["steps"] I3:=by
 refine F.eO sQ (fun bx A _ s H vs Q E ax h=>?_)
 obtain⟨a,s,rfl,aJ,jU,aD,b1,q⟩:=h
 refine⟨_,(aI (bO 1 sQ.bo (aN gj (b9 du I nb.dn dq (al (ab 0) aB)) aC))
  (aI (bO 2 sQ.bo (h6 aB))
  (aI (kK h2.never rfl (Ts rfl nb.aay (ab 0)) (pI rfl (jB (d7 (i:=3) sQ.bo rfl (by exact Or.inl I)) (jB (d7 (i:=4) sQ.bo rfl (by exact Or.inl I)) px)))
   (aI (bO 5 sQ.bo (lU (b0 c2 (ab 3) aC) (b6 ra ax (al (ab 4) aB)) (b6 sq ax (al (aN gj (ab 4) aC) aB))))
   (aI (bO 5 sQ.bo (aN eb (ab 5) (lU (b0 c2 (ab 3) (ab 1)) cT cT)))
   (aR (iW (hV PySem.F.plainAttrs_list PySem.F.slot_list_append PySem.F.type_list_append qo (ab 2) (al (lU (b0 c2 (aN dI (ab 3) aC) aC) (b6 oa ax (al (ab 5) aB)) (ab 5)) aB)))))))
  (aR (bB (hV PySem.F.plainAttrs_str PySem.F.slot_str_join PySem.F.type_str_join sY cT (al (ab 2) aB))))))),?_⟩
 try dsimp only[c4,c5,c6,c7]
 refine⟨_,I,_,_,I,.inl ⟨_,bb aJ,I⟩,_,_,I,I,UF _,fun r fJ=>?_⟩
 have sB:=dg (o:=df.lst []) fJ
 refine⟨_,I,a,_,I,bb (sB _ _ aJ),?_⟩
 refine SK (xs:=s.map V.int) (fun i U av=>ef H av/\av r=J (.lst (((g8 0 s).take i).map (fun p=>V.str (aP p))))/\∃cP cL fL,U=[J (.ref a),J (.int ((s.length:Nat)-1:Int)),J (.ref r),cP,cL,fL]) ?_ ?_ ?_ ?_
 .exact⟨sB,aG,aw,aw,aw,by dsimp only;rw[nJ];rfl⟩
 .rintro i U av ay ⟨hs,_⟩;exact bb (hs _ _ aJ)
 ·rintro i aip U av T ao bZ ⟨hs,g6,cP,cL,fL,rfl⟩
  obtain⟨x,r0,rfl⟩:∃x,s[i]?=J x/\aip=.int x:=by
   rw[eL]at ao
   cases h:s[i]? with
   |none=>rw[h]at ao;cases ao
   |some y=>rw[h]at ao;exact⟨y,I,(e8 ao).symm⟩
  have ay:i<s.length:=(g5.mp r0).1
  have gi:=b1.at r0
  have yp:=Mh (k:=0) r0
  rw[Nat.zero_add]at yp
  have c1:=hs.trans (dg (o:=df.tup [V.int ((i:Nat):Int),V.int x]) bZ)
  have l1:=dg (o:=df.tup [V.int ((i:Nat):Int),V.int x]) bZ _ _ g6
  refine⟨T,_,I,bI aG,I,_,_,I,_,_,I,I,?_⟩
  refine⟨_,I,I,_,I,?_⟩
  by_cases yg:i=0
  ·rw[if_pos yg]at gi
   have eM:decide (V.int ((i:Nat):Int)=V.int 0)=ah:=eu (congrArg V.int (by omega))
   rw[eM]
   refine e3 ⟨_,I,x,I,gi,_,I,_,I,_,I,I,_,I,?_⟩
   obtain⟨fX,rF⟩:∃fX,fX=gP x:=⟨_,rfl⟩
   have ex:(if i=0 then gP x else cnt (x-1).toNat)=fX:=by rw[if_pos yg,rF]
   have adW:fX.length<=270:=by rw[rF];exact KU gi.1 gi.2
   rw[<-rF]
   have mQ:(fX++[!decide (i+1=s.length)]).length<=271:=by rw[dX,ku];omega
   refine e2 (fun f6=>?_) (fun f6=>?_)
   ·
    have gp:i+1=s.length:=by have:=V.int.inj f6;omega
    have eA:[!decide (i+1=s.length)]=[aF]:=by rw[eu gp];rfl
    refine .inr ⟨_,_,I,I,(by rw[s0,eG,eG];exact fb (by rw[ku];omega)),?_⟩
    rw[s0,AO,<-eA]
    refine⟨_,I,.inl ⟨I,_,bb l1⟩,_,I,_,_,I,I,(by show(0:Int)<2;decide),I,_,I,?_⟩
    have oF:∀z:List V,z=((g8 0 s).take i).map (fun p=>V.str (aP p))->z.length<cj:=fun z bz=>by rw[bz,cw,ht];exact fB (show min i (g8 0 s).length<100001 by omega) (wx (by decide))
    have ck:∀p:List Bool,p=ic i x (decide (i+1=s.length))->((g8 0 s).take i).map (fun p=>V.str (aP p))++[V.str (aP p)]=((g8 0 s).take (i+1)).map (fun p=>V.str (aP p)):=fun p aY=>by rw[jy,yp,fo,aY];rfl
    refine e2 (fun hx=>?_) (fun hx=>?_)
    ·have aH:odd i=ah:=eu (by have:=V.int.inj hx;omega)
     refine⟨_,I,_,I,by omega,?_⟩
     refine⟨_,_,_,I,I,l1,oF _ I,?_⟩
     rw[ck _ (by unfold ic;rw[aH,ex];exact oh fun b _=>by cases b<;>rfl)]
     exact⟨rg c1 fJ,aG,_,_,_,I⟩
    ·have aH:odd i=aF:=fC (fun z=>hx (congrArg V.int (by omega)))
     refine⟨_,I,?_⟩
     refine⟨_,_,_,I,I,l1,oF _ I,?_⟩
     rw[ck _ (by unfold ic;rw[aH,ex,xy])]
     exact⟨rg c1 fJ,aG,_,_,_,I⟩
   ·have gp:¬i+1=s.length:=fun z=>f6 (congrArg V.int (by omega))
    have eA:[!decide (i+1=s.length)]=[ah]:=by rw[fC gp];rfl
    refine .inr ⟨_,_,I,I,(by rw[s1,eG,eG];exact fb (by rw[ku];omega)),?_⟩
    rw[s1,AO,<-eA]
    refine⟨_,I,.inl ⟨I,_,bb l1⟩,_,I,_,_,I,I,(by show(0:Int)<2;decide),I,_,I,?_⟩
    have oF:∀z:List V,z=((g8 0 s).take i).map (fun p=>V.str (aP p))->z.length<cj:=fun z bz=>by rw[bz,cw,ht];exact fB (show min i (g8 0 s).length<100001 by omega) (wx (by decide))
    have ck:∀p:List Bool,p=ic i x (decide (i+1=s.length))->((g8 0 s).take i).map (fun p=>V.str (aP p))++[V.str (aP p)]=((g8 0 s).take (i+1)).map (fun p=>V.str (aP p)):=fun p aY=>by rw[jy,yp,fo,aY];rfl
    refine e2 (fun hx=>?_) (fun hx=>?_)
    ·have aH:odd i=ah:=eu (by have:=V.int.inj hx;omega)
     refine⟨_,I,_,I,by omega,?_⟩
     refine⟨_,_,_,I,I,l1,oF _ I,?_⟩
     rw[ck _ (by unfold ic;rw[aH,ex];exact oh fun b _=>by cases b<;>rfl)]
     exact⟨rg c1 fJ,aG,_,_,_,I⟩
    ·have aH:odd i=aF:=fC (fun z=>hx (congrArg V.int (by omega)))
     refine⟨_,I,?_⟩
     refine⟨_,_,_,I,I,l1,oF _ I,?_⟩
     rw[ck _ (by unfold ic;rw[aH,ex,xy])]
     exact⟨rg c1 fJ,aG,_,_,_,I⟩
  ·rw[if_neg yg]at gi
   have eM:decide (V.int ((i:Nat):Int)=V.int 0)=aF:=fC (fun z=>yg (by have:=V.int.inj z;omega))
   rw[eM]
   have aja:=gi.1
   have lF:=gi.2
   refine dW ⟨_,I,_,_,I,I,(x-1).toNat,(congrArg (fun y=>[V.int y]) (by omega)),(by omega),_,I,_,I,_,I,I,_,I,?_⟩
   obtain⟨fX,rF⟩:∃fX,fX=cnt (x-1).toNat:=⟨_,rfl⟩
   have ex:(if i=0 then gP x else cnt (x-1).toNat)=fX:=by rw[if_neg yg,rF]
   have adW:fX.length<=270:=by rw[rF];have:=A9 (n:=(x-1).toNat) (by omega);omega
   rw[<-rF]
   have mQ:(fX++[!decide (i+1=s.length)]).length<=271:=by rw[dX,ku];omega
   refine e2 (fun f6=>?_) (fun f6=>?_)
   ·
    have gp:i+1=s.length:=by have:=V.int.inj f6;omega
    have eA:[!decide (i+1=s.length)]=[aF]:=by rw[eu gp];rfl
    refine .inr ⟨_,_,I,I,(by rw[s0,eG,eG];exact fb (by rw[ku];omega)),?_⟩
    rw[s0,AO,<-eA]
    refine⟨_,I,.inl ⟨I,_,bb l1⟩,_,I,_,_,I,I,(by show(0:Int)<2;decide),I,_,I,?_⟩
    have oF:∀z:List V,z=((g8 0 s).take i).map (fun p=>V.str (aP p))->z.length<cj:=fun z bz=>by rw[bz,cw,ht];exact fB (show min i (g8 0 s).length<100001 by omega) (wx (by decide))
    have ck:∀p:List Bool,p=ic i x (decide (i+1=s.length))->((g8 0 s).take i).map (fun p=>V.str (aP p))++[V.str (aP p)]=((g8 0 s).take (i+1)).map (fun p=>V.str (aP p)):=fun p aY=>by rw[jy,yp,fo,aY];rfl
    refine e2 (fun hx=>?_) (fun hx=>?_)
    ·have aH:odd i=ah:=eu (by have:=V.int.inj hx;omega)
     refine⟨_,I,_,I,by omega,?_⟩
     refine⟨_,_,_,I,I,l1,oF _ I,?_⟩
     rw[ck _ (by unfold ic;rw[aH,ex];exact oh fun b _=>by cases b<;>rfl)]
     exact⟨rg c1 fJ,aG,_,_,_,I⟩
    ·have aH:odd i=aF:=fC (fun z=>hx (congrArg V.int (by omega)))
     refine⟨_,I,?_⟩
     refine⟨_,_,_,I,I,l1,oF _ I,?_⟩
     rw[ck _ (by unfold ic;rw[aH,ex,xy])]
     exact⟨rg c1 fJ,aG,_,_,_,I⟩
   ·have gp:¬i+1=s.length:=fun z=>f6 (congrArg V.int (by omega))
    have eA:[!decide (i+1=s.length)]=[ah]:=by rw[fC gp];rfl
    refine .inr ⟨_,_,I,I,(by rw[s1,eG,eG];exact fb (by rw[ku];omega)),?_⟩
    rw[s1,AO,<-eA]
    refine⟨_,I,.inl ⟨I,_,bb l1⟩,_,I,_,_,I,I,(by show(0:Int)<2;decide),I,_,I,?_⟩
    have oF:∀z:List V,z=((g8 0 s).take i).map (fun p=>V.str (aP p))->z.length<cj:=fun z bz=>by rw[bz,cw,ht];exact fB (show min i (g8 0 s).length<100001 by omega) (wx (by decide))
    have ck:∀p:List Bool,p=ic i x (decide (i+1=s.length))->((g8 0 s).take i).map (fun p=>V.str (aP p))++[V.str (aP p)]=((g8 0 s).take (i+1)).map (fun p=>V.str (aP p)):=fun p aY=>by rw[jy,yp,fo,aY];rfl
    refine e2 (fun hx=>?_) (fun hx=>?_)
    ·have aH:odd i=ah:=eu (by have:=V.int.inj hx;omega)
     refine⟨_,I,_,I,by omega,?_⟩
     refine⟨_,_,_,I,I,l1,oF _ I,?_⟩
     rw[ck _ (by unfold ic;rw[aH,ex];exact oh fun b _=>by cases b<;>rfl)]
     exact⟨rg c1 fJ,aG,_,_,_,I⟩
    ·have aH:odd i=aF:=fC (fun z=>hx (congrArg V.int (by omega)))
     refine⟨_,I,?_⟩
     refine⟨_,_,_,I,I,l1,oF _ I,?_⟩
     rw[ck _ (by unfold ic;rw[aH,ex,xy])]
     exact⟨rg c1 fJ,aG,_,_,_,I⟩
 ·rintro U av ⟨hs,g6,cP,cL,fL,rfl⟩
  have iY:(g8 0 s).take (s.map V.int).length=g8 0 s:=by rw[nJ,<-Fi 0 s,List.take_length]
  rw[iY]at g6
  obtain⟨a0,CV,rfl⟩:=List.exists_cons_of_ne_nil jU
  have cM:∀p∈g8 0 (a0::CV),p.length<=271:=fun p aY=>by
   obtain⟨i,ay,rfl⟩:=List.mem_iff_getElem.mp aY
   have tw:i<(a0::CV).length:=by rw[<-Fi 0 (a0::CV)];exact ay
   have aX:=Mh (k:=0) (cp tw)
   rw[cp ay,Nat.zero_add]at aX
   rw[e8 aX]
   exact Ym (b1.at (cp tw))
  refine⟨I,_,I,_,r,(g8 0 (a0::CV)).map aP,I,I,bb (by rw[g6,gE];rfl),?_,H,.refl hs,?_⟩
  ·have:=Tc cM
   have eM:(ae.ofString "").length=0:=by decide+kernel
   rw[eM,Nat.mul_zero,Nat.add_zero]
   rw[Fi]at this
   omega
  .rw[rh,Tx];exact q
inductive PD(K:bM)(vs:List V)(H:aq)(Q:bJ)(E:cN):Prop where
 |mk (a:af) (ns:List Int) (k:Nat) (bg:vs=[.ref a,.int k]) (ai:cK K H a (ns.map V.int)) (aj:ns.length<=63) (bE:Q (.int (ns.getD k 0)) H):PD K vs H Q E
def PC(K:bM):cD:=fun vs H Q E=>PD K vs H Q E
theorem VW(nb:dT mg)(F:d1 K mg "_law_cell_at" ED ["_law_script","_law_k"] f fd):bq P w K mg base 1 "_law_cell_at" ["_law_script","_law_k"] (PC K):=by
 refine F.eO VI (fun bx A _ s H vs Q E ax h=>?_)
 obtain⟨a,ns,k,rfl,dk,aD,q⟩:=h
 refine⟨_,(aI (cE (b0 jm (ab 1) (b9 du I nb.dn dq (al (ab 0) aB))) (aR (bB (bG bH (ab 0) (ab 1)))) cF)
  (aR (bB aC))),?_⟩
 try dsimp only[c4,c5,c6,c7]
 refine⟨_,I,_,I,_,_,I,.inl ⟨_,dk,I⟩,.inl ⟨_,_,I,I,_,I,?_⟩⟩
 rw[cw]
 refine e2 (fun c=>?_) (fun c=>?_)
 ·have hk:k<ns.length:=by omega
  refine⟨_,I,_,I,.inl (.inl ⟨_,_,_,_,I,I,dk,cB (by rw[eL,cp hk];rfl),H,.refl (dx _),?_⟩)⟩
  have e:ns.getD k 0=ns[k]:=by rw[dN,cp hk];rfl
  rw[<-e]
  exact q
 ·have e:ns.getD k 0=0:=by rw[dN,u0 (by omega)];rfl
  rw[e]at q
  exact⟨H,.refl (dx _),q⟩
theorem Bl:1<=cj:=by decide
inductive Qb(vs:List V)(H:aq)(Q:bJ)(E:cN):Prop where
 |mk (t s:ae) (bg:vs=[.str t,.str s]) (ai:t.length<=1000) (aj:Q (.aQ (i6 t s)) H):Qb  vs H Q E
def y9:cD:=fun vs H Q E=>Qb  vs H Q E
theorem XK(nb:dT mg)(F:d1 K mg "made_of" Fs ["text","signs"] f fd):bq P w K mg base 1 "made_of" ["text","signs"] y9:=by
 refine F.eO XB (fun bx A _ s H vs Q E ax h=>?_)
 obtain⟨t,cb,rfl,aM,q⟩:=h
 refine⟨_,(aR (bB (b9 (u7 I) I nb.vl vi (al (ik ["sign"] [(1,"signs")] I (by decide+kernel) ⟨I,.inl I,trivial⟩ (h0 (ab 0)) (fun _ _ _ _ _=>(d7 (i:=0) (show(["sign","signs"]:List ae).Nodup by decide+kernel))) (fun _ _ _ _ _=>hu) (fun _ _ _ _ _=>(Mg Yt (ab 0) (ab 1) (by with_unfolding_all rfl)))) aB)))),?_⟩
 try dsimp only[c4,c5,c6,c7]
 refine .inr ⟨_,I,t,I,fun D dB=>?_⟩
 refine A8 (fun c =>.aQ (decide (c∈cb.cps.toList))) (fun U=>∃z,U=[z,J (.str cb)]) (fb (by show t.length<=_;omega)) ⟨_,I⟩ dB ?_ ?_
 ·rintro c hc bL H1 ⟨z,rfl⟩ hs R b1
  refine⟨_,I,_,I,_,_,I,I,?_⟩
  rw[StrLaws.found_one]
  exact b1 _ ⟨_,I⟩
 ·refine⟨D,t.cps.toList.map fun c=>decide (c∈cb.cps.toList),I,?_,H,.refl (dg dB),?_⟩
  .rw[gE];exact bb aG
  .rw[List.all_map];exact q
inductive P5(vs:List V)(H:aq)(Q:bJ)(E:cN):Prop where
 |mk (n:ae) (bg:vs=[.str n]) (ai:n.length<=1000) (aj:Q (.aQ (isName n)) H):P5  vs H Q E
def P4:cD:=fun vs H Q E=>P5  vs H Q E
theorem XM(nb:dT mg)(GU:gX mg "LONGEST_NAME" (.int 12))(GZ:gX mg "SMALL_LETTERS" (.str ks))(F:d1 K mg "is_name" Ft ["name"] f fd)(n9:bq P w K mg base 1 "made_of" ["text","signs"] y9):bq P w K mg base 2 "is_name" ["name"] P4:=by
 refine F.eO XC (fun bx A _ s H vs Q E ax h=>?_)
 obtain⟨n,rfl,aW,q⟩:=h
 refine⟨_,(aR (bB (jg (fO jm aC (b9 du I nb.dn dq (al (ab 0) aB))) (jg (fO wj (b9 du I nb.dn dq (al (ab 0) aB)) (lV GU)) (jQ (b6 n9 ax (al (ab 0) (al (lV GZ) aB)))))))),?_⟩
 try dsimp only[c4,c5,c6,c7]
 have ln:n.length<=cj:=fb (by omega)
 unfold isName at q
 refine⟨_,I,_,_,I,⟨ln,I⟩,.inl ⟨_,_,I,I,_,I,?_⟩⟩
 refine e2 (fun fu=>?_) (fun fu=>?_)
 ·refine⟨_,I,_,_,I,⟨ln,I⟩,_,_,I,I,_,I,?_⟩
  refine e2 (fun f6=>?_) (fun f6=>?_)
  ·refine⟨_,I,n,ks,I,aW,H,.refl (dx _),?_⟩
   rw[eu ⟨by omega,by omega⟩,Bool.true_and]at q
   exact q
  ·rw[fC (fun z=>f6 (by omega)),Bool.false_and]at q
   exact⟨H,.refl (dx _),q⟩
 ·rw[fC (fun z=>fu (by omega)),Bool.false_and]at q
  exact⟨H,.refl (dx _),q⟩
structure Parts(H:aq)(p:af)(aK:List (af×ae×af)):Prop where
 l:H p=J (.lst (aK.map fun x=>V.ref x.1))
 t:∀x,x∈aK->H x.1=J (.tup [.str x.2.1,.ref x.2.2])
 n:aK.length<=30
 b:∀x,x∈aK->x.2.1.length<=100
noncomputable def ho(aK:List (af×ae×af)):List ae:=aK.map fun x=>x.2.1
noncomputable def iJ(aK:List (af×ae×af)):List af:=aK.map fun x=>x.2.2
theorem Parts.same{aK:List (af×ae×af)}(h:Parts H p aK)(s:ef H H'):Parts H' p aK:=⟨s _ _ h.l,fun x ao=>s _ _ (h.t x ao),h.n,h.b⟩
inductive Qd(vs:List V)(H:aq)(Q:bJ)(E:cN):Prop where
 |mk (p aK:_) (bg:vs=[.ref p]) (ai:Parts H p aK) (aj:lC (ho aK)=ah) (bE:∀D,H D=aw->Q (.ref D) (upd H D (.lst ((ho aK).map V.str)))):Qd  vs H Q E
def I1:cD:=fun vs H Q E=>Qd  vs H Q E
theorem Xf(nb:dT mg)(GW:gX mg "MOST_PARTS" (.int 20))(F:d1 K mg "names_of" Fd ["parts"] f fd)(DF:bq P w K mg base 2 "is_name" ["name"] P4):bq P w K mg base 3 "names_of" ["parts"] I1:=by
 refine F.eO KH (fun bx A _ s H vs Q E ax h=>?_)
 obtain⟨p,aK,rfl,cG,aX,q⟩:=h
 refine⟨_,(aI (sN (i:=1)  ["part"] [] KH.bo I I I (by decide+kernel) trivial (h0 (ab 0)) (fun _ _ _ _ _=>(d7 (i:=0) (show(["part"]:List ae).Nodup by decide+kernel))) (fun _ _ _ _ _=>hu) (fun _ _ _ _ _=>(bG bH (ab 0) aC)))
  (aI (cE (gc.pt (j6 (b0 c2 (b9 du rfl nb.dn dq (al (ab 1) aB)) aC) (lq (b0 jG (b9 du rfl nb.dn dq (al (ab 1) aB)) (lV GW))))) (aR lz) cF)
  (aI (cE (b0 jm (Lc rfl rfl nb.dn rfl nb.Pm (ab 1)) (b9 du rfl nb.dn dq (al (ab 1) aB))) (aR lz) cF)
  (aI (cE (jP (hi (b9 (u7 rfl) rfl nb.vl vi (al (ik ["name"] [] rfl (by decide+kernel) trivial (h0 (ab 1)) (fun _ _ _ _ _=>(d7 (i:=0) (show(["name"]:List ae).Nodup by decide+kernel))) (fun _ _ _ _ _=>hu) (fun _ _ _ _ _=>(b6 DF ax (al (ab 0) aB)))) aB)))) (aR lz) cF)
  (aR (bB (ab 1))))))),?_⟩
 try dsimp only[c4,c5,c6,c7]
 refine .inl ⟨_,I,p,I,⟨_,bb cG.l⟩,fun D dB=>?_⟩
 refine xo (K:=K) (a:=p) (xs:=aK.map fun x=>V.ref x.1) (fun i=>V.str ((ho aK).getD i ae.empty)) (fun U=>∃z,U=[z]) (by rw[cw];exact fb (by have:=cG.n;omega)) ⟨_,I⟩ dB (bb cG.l) ?_ ?_
 ·rintro i x ao bL H1 ⟨z,rfl⟩ er R b1
  rw[eL]at ao
  obtain⟨y,aU,rfl⟩:=Uf.mp ao
  have hm:=fE aU
  have e:(ho aK).getD i ae.empty=y.2.1:=by unfold ho;rw[dN,eL,aU];rfl
  rw[e]at b1
  exact⟨_,I,.inl (.inr ⟨_,_,_,_,I,I,bI (er _ _ (cG.t y hm)),cB (j:=0) I,b1 _ ⟨_,I⟩⟩)⟩
 have b5:(List.range (aK.map fun x=>V.ref x.1).length).map (fun i=>V.str ((ho aK).getD i ae.empty))=(ho aK).map V.str:=by
  have bg:=KL (ho aK)
  rw[show(aK.map fun x=>V.ref x.1).length=(ho aK).length by unfold ho;rw[cw,cw]]
  exact bg
 rw[b5]
 have ajo:(ho aK).length<=30:=by unfold ho;rw[cw];exact cG.n
 have vB:cK K (upd H D (.lst ((ho aK).map V.str))) D ((ho aK).map V.str):=bb aG
 have dV:=UK (ho aK)
 unfold lC at aX
 refine⟨_,I,_,_,I,.inl ⟨_,vB,I⟩,I,_,I,?_⟩
 rw[cw]
 simp only[gZ,iR]at aX
 obtain⟨⟨bg,vw,hd⟩,fI⟩:=aX
 refine fx (fun z=>bg (by have:=V.int.inj z;omega)) ⟨_,I,_,_,I,.inl ⟨_,vB,I⟩,_,_,I,I,_,I,fx (by rw[cw];omega) ?_⟩
 refine⟨_,I,_,_,W2 vB,(by unfold scanBound;omega),_,I,_,_,I,.inl ⟨_,vB,I⟩,.inl ⟨_,_,I,I,_,I,fx (by rw[cw];show ¬(((BB (ho aK):Nat):Int)<_);omega) ?_⟩⟩
 refine .inl ⟨_,I,D,I,⟨_,vB⟩,fun hr gS=>?_⟩
 have nw:upd H D (.lst ((ho aK).map V.str)) D=J (.lst ((ho aK).map V.str)):=aG
 refine AU (K:=K) (a:=D) (xs:=(ho aK).map V.str) (fun x=>match x with|.str n =>.aQ (isName n)|_ =>.aT) (fun U=>∃z,U=[z]) (by rw[cw];exact fb (by omega)) ⟨_,rfl⟩ gS vB ?_ ?_
 ·rintro x ao bL H1 ⟨z,rfl⟩ er R b1
  obtain⟨n,aW,rfl⟩:=List.mem_map.mp ao
  obtain⟨y,aU,rfl⟩:=List.mem_map.mp aW
  have:=cG.b y aU
  exact⟨_,I,_,I,by omega,b1 _ ⟨_,rfl⟩⟩
 ·rw[gE]
  refine⟨hr,(ho aK).map isName,I,?_,_,I,?_⟩
  .rw[gE];exact bb aG
  rw[List.all_map,show(id ∘ isName)=isName from rfl,fI]
  exact dW ⟨_,I,_,.new (o:=df.lst ((ho aK).map V.str)) dB ((dg dB).trans (dg gS)) (by rw[bK (fun z=>by rw[<-z,nw]at gS;cases gS)];exact aG) trivial,q D dB⟩
structure uX(K:bM)(C:af):Prop where
 cl:fY K C
 pU:jv K C "low"
 CD:jv K C "high"
structure sG(K:bM)(C:af):Prop where
 cl:fY K C
 md:jv K C "signs"
structure na(K:bM)(C:af):Prop where
 cl:fY K C
 r6:jv K C "names"
 kZ:jv K C "forms"
theorem adQ:¬(("low":ae)="high"):=by decide+kernel
theorem aew:¬(("names":ae)="forms"):=by decide+kernel
theorem Tq(v:V):eY "low" v []=([("low",v)]:List (ae×V)):=rfl
theorem Zl(v w:V):eY "high" w ([("low",v)]:List (ae×V))=([("low",v),("high",w)]:List (ae×V)):=by simp only[eY,adQ,if_false]
theorem XE(v:V):eY "signs" v []=([("signs",v)]:List (ae×V)):=rfl
theorem K9(v:V):eY "names" v []=([("names",v)]:List (ae×V)):=rfl
theorem La(v w:V):eY "forms" w ([("names",v)]:List (ae×V))=([("names",v),("forms",w)]:List (ae×V)):=by simp only[eY,aew,if_false]
theorem ia(k:ae)(v:V)(r:List (ae×V)):((k,v)::r).lookup k=J v:=by simp[List.lookup]
theorem mP(k mc:ae)(v w:V)(h:(mc == k)=aF):([(k,v),(mc,w)]:List (ae×V)).lookup mc=J w:=by simp[List.lookup,h]
theorem Hz:(("high":ae) == "low")=aF:=by decide+kernel
theorem pN:(("forms":ae) == "names")=aF:=by decide+kernel
noncomputable def QX(a b:Int):List (ae×V):=[("low",.int a),("high",.int b)]
noncomputable def OM(s:ae):List (ae×V):=[("signs",.str s)]
noncomputable def Dh(cq cR:af):List (ae×V):=[("names",.ref cq),("forms",.ref cR)]
inductive QF(C:af)(vs:List V)(H:aq)(Q:bJ)(E:cN):Prop where
 |mk (p ak:af) (a b:Int) (bg:vs=[.ref p,.int a,.int b]) (ai:H p=J (.ins C ak [])) (aj:a<=b) (bE:Q .aT (upd H p (.ins C ak (QX a b)))):QF C vs H Q E
def I5(C:af):cD:=fun vs H Q E=>QF C vs H Q E
theorem WI(T:uX K C)(F:dG K "__init__" "Span.__init__" E5 f fd):de P w K mg base dv 1 f fd ["self","low","high"] (I5 C):=by
 refine F.ok WB (fun vs H Q E h=>?_) (fun bx A _ s H vs Q E ax h=>?_)
 .obtain⟨_,_,_,_,rfl,_⟩:=h;rfl
 obtain⟨p,ak,a,b,rfl,aY,ai7,q⟩:=h
 refine⟨_,(aI (cE (b0 jG (ab 1) (ab 2)) (aR lz) cF)
  (aI (iE (ab 0) (ab 1) rfl)
  (aR (iE (ab 0) (ab 2) rfl)))),?_⟩
 try dsimp only[c4,c5,c6,c7]
 refine⟨_,I,_,I,_,_,I,I,_,I,fx (by omega) ?_⟩
 refine⟨_,I,_,I,p,C,ak,_,I,aY,T.cl,T.pU,(by show 0<1000;decide),?_⟩
 rw[Tq]
 refine⟨_,I,_,I,p,C,ak,_,I,aG,T.cl,T.CD,(by show 1<1000;decide),?_⟩
 rw[Zl,fN]
 exact q
inductive P8(C:af)(vs:List V)(H:aq)(Q:bJ)(E:cN):Prop where
 |mk (p ak:af) (s:ae) (bg:vs=[.ref p,.str s]) (ai:H p=J (.ins C ak [])) (aj:s.length<=1000) (bE:oz s=ah) (cQ:Q .aT (upd H p (.ins C ak (OM s)))):P8 C vs H Q E
def IY(C:af):cD:=fun vs H Q E=>P8 C vs H Q E
theorem Xg(nb:dT mg)(GY:gX mg "MOST_SIGNS" (.int 60))(GS:gX mg "LETTERS_AND_FIGURES" (.str qf))(T:sG K C)(F:dG K "__init__" "Letters.__init__" EA f fd)(n9:bq P w K mg base 1 "made_of" ["text","signs"] y9):de P w K mg base dv 2 f fd ["self","signs"] (IY C):=by
 refine F.ok Vz (fun vs H Q E h=>?_) (fun bx A _ s H vs Q E ax h=>?_)
 .obtain⟨_,_,_,rfl,_⟩:=h;rfl
 obtain⟨p,ak,t,rfl,aY,aM,aX,q⟩:=h
 refine⟨_,(aI (cE (gc.pt (j6 (b0 c2 (ab 1) cT) (lq (b0 jG (b9 du I nb.dn dq (al (ab 1) aB)) (lV GY))))) (aR lz) cF)
  (aI (cE (b0 jm (Lc rfl rfl nb.dn rfl nb.Pm (ab 1)) (b9 du rfl nb.dn dq (al (ab 1) aB))) (aR lz) cF)
  (aI (cE (jP (hi (b6 n9 ax (al (ab 1) (al (lV GS) aB))))) (aR lz) cF)
  (aR (iE (ab 0) (ab 1) rfl))))),?_⟩
 try dsimp only[c4,c5,c6,c7]
 have ln:t.length<=cj:=fb (by omega)
 have dV:=UJ t
 unfold oz at aX
 simp only[gZ,iR]at aX
 obtain⟨⟨bg,BQ,hd⟩,fI⟩:=aX
 refine⟨_,I,I,_,I,fx (fun z=>bg ((Td t).mp (V.str.inj z))) ⟨_,I,_,_,I,⟨ln,I⟩,_,_,I,I,_,I,fx (by omega) ?_⟩⟩
 refine⟨_,I,_,_,Xw t,(by unfold scanBound;show t.length+1<_;omega),_,I,_,_,I,⟨ln,I⟩,.inl ⟨_,_,I,I,_,I,fx (by show ¬(((BC t:Nat):Int)<_);omega) ?_⟩⟩
 refine⟨_,I,t,qf,I,by omega,_,rfl,?_⟩
 rw[fI]
 refine dW ⟨_,I,_,I,p,C,ak,_,I,aY,T.cl,T.md,(by show 0<1000;decide),?_⟩
 rw[XE]
 exact q
theorem Parts.keep{o C ak:af}{fs:List (ae×V)}{aK:List (af×ae×af)}(h:Parts H p aK)(aH:H o=J (.ins C ak fs))(s:∀b u,b≠o->H b=J u->H' b=J u):Parts H' p aK :=
 ⟨s _ _ (fun z=>by have:=h.l;rw[z,aH]at this;cases this) h.l,fun x ao=>s _ _ (fun z=>by have:=h.t x ao;rw[z,aH]at this;cases this) (h.t x ao),h.n,h.b⟩
inductive QO(C:af)(vs:List V)(H:aq)(Q:bJ)(E:cN):Prop where
 |mk (o ak p:af) (aK:List (af×ae×af)) (bg:vs=[.ref o,.ref p]) (ai:H o=J (.ins C ak [])) (aj:Parts H p aK) (bE:lC (ho aK)=ah) (cQ:∀cq cR,H cq=aw->H cR=aw->cq≠cR->Q .aT (upd (upd (upd H cq (.lst ((ho aK).map V.str))) cR (.lst ((iJ aK).map V.ref))) o (.ins C ak (Dh cq cR)))):QO C vs H Q E
def wA(C:af):cD:=fun vs H Q E=>QO C vs H Q E
theorem Xd(nb:dT mg)(T:na K C)(F:dG K "__init__" "Record.__init__" EI f fd)(uB:bq P w K mg base 3 "names_of" ["parts"] I1):de P w K mg base dv 4 f fd ["self","parts"] (wA C):=by
 refine F.ok VP (fun vs H Q E h=>?_) (fun bx A _ s H vs Q E ax h=>?_)
 .obtain⟨_,_,_,_,rfl,_⟩:=h;rfl
 obtain⟨o,ak,p,aK,rfl,aH,cG,aX,q⟩:=h
 refine⟨_,(aI (iE (ab 0) (b6 uB ax (al (ab 1) aB)) I)
  (aR (iE (ab 0) (ik ["part"] [] rfl (by decide+kernel) trivial (h0 (ab 1)) (fun _ _ _ _ _=>(d7 (i:=0) (show(["part"]:List ae).Nodup by decide+kernel))) (fun _ _ _ _ _=>hu) (fun _ _ _ _ _=>(bG bH (ab 0) aC))) rfl))),?_⟩
 try dsimp only[c4,c5,c6,c7]
 refine⟨_,I,p,aK,I,cG,aX,fun cq ai=>?_⟩
 have eC:cq≠o:=(f5 aH ai).symm
 refine⟨_,I,o,C,ak,_,I,(by rw[bK (eF eC)];exact aH),T.cl,T.r6,(by show 0<1000;decide),?_⟩
 rw[K9]
 have mb:∀b u,b≠o->H b=J u->upd (upd H cq (.lst ((ho aK).map V.str))) o (.ins C ak [("names",.ref cq)]) b=J u:=fun b u nb e=>by rw[bK nb,bK (f5 e ai)];exact e
 have tj:=cG.keep aH mb
 refine .inl ⟨_,I,p,I,⟨_,bb tj.l⟩,fun cR aj=>?_⟩
 have dc:cR≠o:=fun z=>by rw[z,aG]at aj;cases aj
 have yM:cq≠cR:=fun z=>by rw[bK dc,<-z,aG]at aj;cases aj
 have vw:H cR=aw:=by rw[bK dc,bK (eF yM)]at aj;exact aj
 refine xo (K:=K) (a:=p) (xs:=aK.map fun x=>V.ref x.1) (fun i=>V.ref ((iJ aK).getD i 0)) (fun U=>∃z,U=[z]) (by rw[cw];exact fb (by have:=cG.n;omega)) ⟨_,I⟩ aj (bb tj.l) ?_ ?_
 ·rintro i x ao bL H1 ⟨z,rfl⟩ er R b1
  rw[eL]at ao
  obtain⟨y,aU,rfl⟩:=Uf.mp ao
  have hm:=fE aU
  have e:(iJ aK).getD i 0=y.2.2:=by unfold iJ;rw[dN,eL,aU];rfl
  rw[e]at b1
  exact⟨_,I,.inl (.inr ⟨_,_,_,_,I,I,bI (er _ _ (tj.t y hm)),cB (j:=1) I,b1 _ ⟨_,I⟩⟩)⟩
 have b5:(List.range (aK.map fun x=>V.ref x.1).length).map (fun i=>V.ref ((iJ aK).getD i 0))=(iJ aK).map V.ref:=by
  apply List.ext_getElem
  .unfold iJ;simp
  ·intro i g1 g2
   have g3:i<aK.length:=by simpa [iJ] using g2
   have vt:i<(iJ aK).length:=by simpa using g2
   rw[j7,j7,List.getElem_range,dN,cp vt];rfl
 rw[b5]
 refine⟨_,I,o,C,ak,_,I,(by rw[bK (eF dc)];exact aG),T.cl,T.kZ,(by show 1<1000;decide),?_⟩
 rw[La,AW (eF dc),fN]
 exact q cq cR ai vw yM
theorem Xk(nb:dT mg)(T:na K C)(F:dG K "__init__" "Choice.__init__" EJ f fd)(uB:bq P w K mg base 3 "names_of" ["parts"] I1):de P w K mg base dv 4 f fd ["self","cases"] (wA C):=by
 refine F.ok VS (fun vs H Q E h=>?_) (fun bx A _ s H vs Q E ax h=>?_)
 .obtain⟨_,_,_,_,rfl,_⟩:=h;rfl
 obtain⟨o,ak,p,aK,rfl,aH,cG,aX,q⟩:=h
 refine⟨_,(aI (iE (ab 0) (b6 uB ax (al (ab 1) aB)) I)
  (aR (iE (ab 0) (ik ["case"] [] rfl (by decide+kernel) trivial (h0 (ab 1)) (fun _ _ _ _ _=>(d7 (i:=0) (show(["case"]:List ae).Nodup by decide+kernel))) (fun _ _ _ _ _=>hu) (fun _ _ _ _ _=>(bG bH (ab 0) aC))) rfl))),?_⟩
 try dsimp only[c4,c5,c6,c7]
 refine⟨_,I,p,aK,I,cG,aX,fun cq ai=>?_⟩
 have eC:cq≠o:=(f5 aH ai).symm
 refine⟨_,I,o,C,ak,_,I,(by rw[bK (eF eC)];exact aH),T.cl,T.r6,(by show 0<1000;decide),?_⟩
 rw[K9]
 have mb:∀b u,b≠o->H b=J u->upd (upd H cq (.lst ((ho aK).map V.str))) o (.ins C ak [("names",.ref cq)]) b=J u:=fun b u nb e=>by rw[bK nb,bK (f5 e ai)];exact e
 have tj:=cG.keep aH mb
 refine .inl ⟨_,I,p,I,⟨_,bb tj.l⟩,fun cR aj=>?_⟩
 have dc:cR≠o:=fun z=>by rw[z,aG]at aj;cases aj
 have yM:cq≠cR:=fun z=>by rw[bK dc,<-z,aG]at aj;cases aj
 have vw:H cR=aw:=by rw[bK dc,bK (eF yM)]at aj;exact aj
 refine xo (K:=K) (a:=p) (xs:=aK.map fun x=>V.ref x.1) (fun i=>V.ref ((iJ aK).getD i 0)) (fun U=>∃z,U=[z]) (by rw[cw];exact fb (by have:=cG.n;omega)) ⟨_,I⟩ aj (bb tj.l) ?_ ?_
 ·rintro i x ao bL H1 ⟨z,rfl⟩ er R b1
  rw[eL]at ao
  obtain⟨y,aU,rfl⟩:=Uf.mp ao
  have hm:=fE aU
  have e:(iJ aK).getD i 0=y.2.2:=by unfold iJ;rw[dN,eL,aU];rfl
  rw[e]at b1
  exact⟨_,I,.inl (.inr ⟨_,_,_,_,I,I,bI (er _ _ (tj.t y hm)),cB (j:=1) I,b1 _ ⟨_,I⟩⟩)⟩
 have b5:(List.range (aK.map fun x=>V.ref x.1).length).map (fun i=>V.ref ((iJ aK).getD i 0))=(iJ aK).map V.ref:=by
  apply List.ext_getElem
  .unfold iJ;simp
  ·intro i g1 g2
   have g3:i<aK.length:=by simpa [iJ] using g2
   have vt:i<(iJ aK).length:=by simpa using g2
   rw[j7,j7,List.getElem_range,dN,cp vt];rfl
 rw[b5]
 refine⟨_,I,o,C,ak,_,I,(by rw[bK (eF dc)];exact aG),T.cl,T.kZ,(by show 1<1000;decide),?_⟩
 rw[La,AW (eF dc),fN]
 exact q cq cR ai vw yM
structure kL(K:bM)(C:af):Prop where
 cl:fY K C
 nO:jv K C "inner"
inductive Qk(C:af)(vs:List V)(H:aq)(Q:bJ)(E:cN):Prop where
 |mk (p ak w:_) (bg:vs=[.ref p,.ref w]) (ai:H p=J (.ins C ak [])) (aj:Q .aT (upd H p (.ins C ak [("inner",.ref w)]))):Qk C vs H Q E
def qX(C:af):cD:=fun vs H Q E=>Qk C vs H Q E
theorem Wg(T:kL K C)(F:dG K "__init__" "Maybe.__init__" EX f fd):de P w K mg base dv 1 f fd ["self","inner"] (qX C):=by
 refine F.ok Wc (fun vs H Q E h=>?_) (fun bx A _ s H vs Q E ax h=>?_)
 .obtain⟨_,_,_,rfl,_⟩:=h;rfl
 obtain⟨p,ak,w,rfl,aY,q⟩:=h
 exact⟨_,(aR (iE (ab 0) (ab 1) I)),_,I,_,I,p,C,ak,_,I,aY,T.cl,T.nO,(by show 0<1000;decide),q⟩
theorem WJ(T:kL K C)(F:dG K "__init__" "Many.__init__" E6 f fd):de P w K mg base dv 1 f fd ["self","inner"] (qX C):=by
 refine F.ok WE (fun vs H Q E h=>?_) (fun bx A _ s H vs Q E ax h=>?_)
 .obtain⟨_,_,_,rfl,_⟩:=h;rfl
 obtain⟨p,ak,w,rfl,aY,q⟩:=h
 exact⟨_,(aR (iE (ab 0) (ab 1) I)),_,I,_,I,p,C,ak,_,I,aY,T.cl,T.nO,(by show 0<1000;decide),q⟩
theorem VV(T:kL K C)(F:dG K "__init__" "Turned.__init__" EG f fd):de P w K mg base dv 1 f fd ["self","inner"] (qX C):=by
 refine F.ok VK (fun vs H Q E h=>?_) (fun bx A _ s H vs Q E ax h=>?_)
 .obtain⟨_,_,_,rfl,_⟩:=h;rfl
 obtain⟨p,ak,w,rfl,aY,q⟩:=h
 exact⟨_,(aR (iE (ab 0) (ab 1) I)),_,I,_,I,p,C,ak,_,I,aY,T.cl,T.nO,(by show 0<1000;decide),q⟩
noncomputable def isNum:D->Bool
 |.int _=>ah
 |_=>aF
noncomputable def Bs(bc:D->Bool):Fin 4->D->Bool
 |0,.aT=>ah
 |1,.aQ _=>ah
 |2,.int i=>decide (hW i)
 |3,d=>bc d
 |_,_=>aF
noncomputable def nK(g:D->Bool):D->Bool
 |.tup []=>ah
 |.tup [x]=>g x
 |_=>aF
noncomputable def tK(g:D->Bool):D->Bool
 |.lst ds=>decide (ds.length<=60)&&ds.all g
 |_=>aF
noncomputable def Pb(k:Fin 3)(g:D->Bool)(d:D):Bool:=if k=0 then nK g d else if k=1 then tK g d else g d
noncomputable def ahl(a b:Int):D->Bool
 |.int i=>decide (a<=i/\i<=b)
 |_=>aF
noncomputable def adJ(s:ae):D->Bool
 |.str t=>decide (t.length<=200)&&i6 t s
 |_=>aF
noncomputable def Jf(g:List D->Bool):D->Bool
 |.tup ds=>g ds
 |_=>aF
noncomputable def s4(g:ae->D->Bool):D->Bool
 |.tup [.str n,x]=>g n x
 |_=>aF
mutual
noncomputable def bw(bc:D->Bool):ba->D->Bool
 |.bare k,d=>Bs bc k d
 |.sp a b,d=>ahl a b d
 |.le s,d=>adJ s d
 |.one k f,d=>Pb k (bw bc f) d
 |.two k ns fs,d=>if k=0 then Jf (ej bc fs) d else s4 (ke bc fs ns) d
noncomputable def ej(bc:D->Bool):List ba->List D->Bool
 |[],ds=>ds.isEmpty
 |f::fs,ds=>match ds with|[]=>aF|d::ds=>bw bc f d&&ej bc fs ds
noncomputable def ke(bc:D->Bool):List ba->List ae->ae->D->Bool
 |[],_,_,_=>aF
 |f::fs,ns,n,x=>if ns.head?=J n then bw bc f x else ke bc fs ns.tail n x
end
inductive P6(vs:List V)(H:aq)(Q:bJ)(E:cN):Prop where
 |mk (v:V) (d:D) (bg:vs=[v]) (ai:c3 H d v) (aj:Q (.aQ (isNum d)) H):P6  vs H Q E
def y8:cD:=fun vs H Q E=>P6  vs H Q E
inductive PW(vs:List V)(H:aq)(Q:bJ)(E:cN):Prop where
 |mk (n:Int) (bg:vs=[.int n]) (ai:Q (.aQ (decide (hW n))) H):PW  vs H Q E
def IX:cD:=fun vs H Q E=>PW  vs H Q E
theorem Vb(F:d1 K mg "has_whole_row" zB ["n"] f fd)(m2:bq P w K mg base 1 "is_count" ["n"] y7):bq P w K mg base 2 "has_whole_row" ["n"] IX:=by
 refine F.eO Kg (fun bx A _ s H vs Q E ax h=>?_)
 obtain⟨n,rfl,q⟩:=h
 refine⟨_,(aR (bB (b6 m2 ax (al (lU (b0 CQ (ab 0) aC) (ab 0) (aN gj (lB ll aC) (ab 0))) aB)))),?_⟩
 try dsimp only[c4,c5,c6,c7]
 refine⟨_,I,_,_,I,I,_,I,?_⟩
 refine e2 (fun c=>?_) (fun c=>?_)
 ·refine⟨_,I,_,I,H,.refl (dx _),?_⟩
  have e:decide (hQ n)=decide (hW n):=decide_eq_decide.mpr (by unfold hQ hW;omega)
  rw[e];exact q
 ·refine⟨_,I,_,I,_,_,I,I,_,I,H,.refl (dx _),?_⟩
  have e:decide (hQ (-1-n))=decide (hW n):=decide_eq_decide.mpr (by unfold hQ hW;omega)
  rw[e];exact q
theorem Wm(nb:dT mg)(F:d1 K mg "is_number" E1 ["value"] f fd):bq P w K mg base 1 "is_number" ["value"] y8:=by
 refine F.eO Wy (fun bx A _ s H vs Q E ax h=>?_)
 obtain⟨v,d,rfl,hd,q⟩:=h
 refine⟨_,(aR (bB (jg (b9 iU I nb.i4 iT (al (ab 0) (al (iX (v :=.ty "int") I nb.nH nh I) aB))) (jQ (F1 (b9 iU I nb.i4 iT (al (ab 0) (al (iX (v :=.ty "bool") I nb.Bw Bi I) aB)))))))),?_⟩
 try dsimp only[c4,c5,c6,c7]
 refine⟨_,I,.inl ⟨_,_,_,_,I,hd.ty,hN K d (by decide),_,I,?_⟩⟩
 cases d with
 |int i=>exact e3 ⟨_,I,.inl ⟨_,_,_,_,I,hd.ty,hN K _ (by decide),_,I,H,.refl (dx _),q⟩⟩
 |aQ b=>exact e3 ⟨_,I,.inl ⟨_,_,_,_,I,hd.ty,hN K _ (by decide),_,I,H,.refl (dx _),q⟩⟩
 |_=>exact dW ⟨H,.refl (dx _),q⟩
inductive PN(has:e7->Bool)(bc:D->Bool)(c:eQ)(n:Nat)(i:e7)(vs:List V)(H:aq)(Q:bJ)(E:cN):Prop where
 |mk (o:af) (f:ba) (v:V) (d:D) (bg:vs=[.ref o,v]) (ai:slot f=i) (aj:cd c [] H f o) (bE:lJ has f) (cQ:aM f<=n) (eN:c3 H d v) (jj:bw bc f d=ah) (nt:Q (.aQ ah) H):PN has bc c n i vs H Q E
def jZ(has:e7->Bool)(bc:D->Bool)(c:eQ)(n:Nat)(i:e7):cD:=fun vs H Q E=>PN has bc c n i vs H Q E
theorem xA(bc:D->Bool)(k:Fin 4)(d:D):bw bc (.bare k) d=Bs bc k d:=by rw[bw]
theorem cd.fits{c:eQ}(f:ba){o:af}(h:cd c X H f o):∃ak fs,H o=J (.ins (fW c (slot f)) ak fs)/\fs.lookup (ae.ofString "fits")=aw :=
 cd.ins (m:=ae.ofString "fits") (by decide+kernel) (by decide+kernel) (by decide+kernel) (by decide+kernel) (by decide+kernel) (by decide+kernel) f h
theorem A4(bc:D->Bool):∀(fs:List ba)(ds:List D),ds.length≠fs.length->ej bc fs ds=aF
 |[],ds,h=>by
  cases ds with
  |nil=>exact absurd I h
  |cons d ds=>rw[ej];rfl
 |f::fs,[],h=>by rw[ej]
 |f::fs,d::ds,h=>by
  rw[ej]
  show(bw bc f d&&ej bc fs ds)=aF
  rw[A4 bc fs ds (fun e=>h (by rw[d6,d6,e])),Bool.and_false]
theorem A5(bc:D->Bool):∀(fs:List ba)(ds:List D),ds.length=fs.length->ej bc fs ds=(List.range fs.length).all fun i=>bw bc (fs.getD i (.bare 0)) (ds.getD i .aT)
 |[],ds,h=>by
  obtain rfl:ds=[]:=List.length_eq_zero_iff.mp h
  rw[ej];rfl
 |f::fs,[],h=>by cases h
 |f::fs,d::ds,h=>by
  rw[ej]
  show(bw bc f d&&ej bc fs ds)=_
  rw[A5 bc fs ds (by simpa using h),d6,List.range_succ_eq_map,List.all_cons,List.all_map]
  rfl
theorem XX(F:dG K "fits" "Nothing.fits" zI f fd):de P w K mg base dv 1 f fd ["self","value"] (jZ has bc c n (.b 0)):=by
 refine F.fK Vw (fun bx A _ s H vs Q E ax h=>?_)
 obtain⟨o,cm,v,d,rfl,hs,dr,aL,di,hd,az,q⟩:=h
 have:=ng hs
 subst this
 rw[xA]at az
 cases d with
 |aT =>
  obtain rfl:v=.aT:=hd
  exact⟨_,(aR (bB (fO xI (ab 1) qv))),_,I,I,H,.refl (dx _),q⟩
 |_=>cases az
theorem Zz(F:dG K "fits" "Truth.fits" An f fd):de P w K mg base dv 1 f fd ["self","value"] (jZ has bc c n (.b 1)):=by
 refine F.fK V9 (fun bx A _ s H vs Q E ax h=>?_)
 obtain⟨o,cm,v,d,rfl,hs,dr,aL,di,hd,az,q⟩:=h
 have:=ng hs
 subst this
 rw[xA]at az
 cases d with
 |aQ b =>
  obtain rfl:v=.aQ b:=hd
  refine⟨_,(aR (bB (Bp (fO MK (ab 1) jO) (jQ (fO MK (ab 1) jO))))),_,I,aF,I,I,?_⟩
  cases b with
  |false=>exact⟨ah,I,e3 ⟨H,.refl (dx _),q⟩⟩
  |true=>exact⟨aF,I,dW ⟨_,I,ah,I,I,H,.refl (dx _),q⟩⟩
 |_=>cases az
theorem Zy(F:dG K "fits" "Whole.fits" Al f fd)(m3:bq P w K mg base 1 "is_number" ["value"] y8)(su:bq P w K mg base 2 "has_whole_row" ["n"] IX):de P w K mg base dv 3 f fd ["self","value"] (jZ has bc c n (.b 2)):=by
 refine F.fK V7 (fun bx A _ s H vs Q E ax h=>?_)
 obtain⟨o,cm,v,d,rfl,hs,dr,aL,di,hd,az,q⟩:=h
 have:=ng hs
 subst this
 rw[xA]at az
 cases d with
 |int i =>
  obtain rfl:v=.int i:=hd
  have az:decide (hW i)=ah:=az
  refine⟨_,(aR (bB (jg (b6 m3 ax (al (ab 1) aB)) (jQ (b6 su ax (al (ab 1) aB)))))),_,I,_,.int i,I,I,ah,I,e3 ⟨_,I,i,I,H,.refl (dx _),?_⟩⟩
  rw[az];exact q
 |_=>cases az
theorem T1(T:uX K c.s)(F:dG K "fits" "Span.fits" Av f fd)(m3:bq P w K mg base 1 "is_number" ["value"] y8):de P w K mg base dv 2 f fd ["self","value"] (jZ has bc c n .s):=by
 refine F.fK WC (fun bx A _ s H vs Q E ax h=>?_)
 obtain⟨o,cm,v,d,rfl,hs,dr,aL,di,hd,az,q⟩:=h
 obtain⟨a,b,rfl⟩:=FX hs
 obtain⟨_,ak,aH⟩:=dr
 rw[bw]at az
 cases d with
 |int i =>
  obtain rfl:v=.int i:=hd
  have az:=hg (show decide (a<=i/\i<=b)=ah from az)
  refine⟨_,(aR (bB (jg (b6 m3 ax (al (ab 1) aB)) (jg (fO wj (ed (ab 0) I) (ab 1)) (jQ (fO wj (ab 1) (ed (ab 0) I))))))),_,I,_,.int i,I,I,ah,I,e3 ⟨_,I,o,c.s,ak,_,_,I,aH,T.cl,T.pU,ia ..,_,I,_,_,I,I,_,I,iK az.1 ⟨_,I,_,I,o,c.s,ak,_,_,I,aH,T.cl,T.CD,mP _ _ _ _ Hz,_,_,I,I,H,.refl (dx _),?_⟩⟩⟩
  dsimp only
  rw[eu az.2];exact q
 |_=>cases az
theorem XY(nb:dT mg)(pQ:gX mg "LONGEST_TEXT" (.int 200))(T:sG K c.l)(F:dG K "fits" "Letters.fits" zN f fd)(n9:bq P w K mg base 1 "made_of" ["text","signs"] y9):de P w K mg base dv 2 f fd ["self","value"] (jZ has bc c n .l):=by
 refine F.fK VA (fun bx A _ s H vs Q E ax h=>?_)
 obtain⟨o,cm,v,d,rfl,hs,dr,aL,di,hd,az,q⟩:=h
 obtain⟨cb,rfl⟩:=FY hs
 obtain⟨_,ak,aH⟩:=dr
 rw[bw]at az
 refine⟨_,(aR (bB (jg (b9 iU I nb.i4 iT (al (ab 1) (al (iX (v :=.ty "str") I nb.zf xJ I) aB))) (jg (fO wj (b9 du I nb.dn dq (al (ab 1) aB)) (lV pQ)) (jQ (b6 n9 ax (al (ab 1) (al (ed (ab 0) I) aB)))))))),_,I,.inl ⟨_,_,_,_,I,hd.ty,hN K d (by decide),_,I,?_⟩⟩
 cases d with
 |str t =>
  obtain⟨rfl,rY⟩:=hd
  have az:(decide (t.length<=200)&&i6 t cb)=ah:=az
  rw[gZ,iR]at az
  refine e3 ⟨_,I,_,_,I,⟨fb rY,I⟩,_,_,I,I,_,I,iK (by omega) ⟨_,I,_,I,o,c.l,ak,_,_,I,aH,T.cl,T.md,ia ..,t,cb,I,by omega,H,.refl (dx _),?_⟩⟩
  rw[az.2];exact q
 |_=>cases az
theorem ZA(nb:dT mg)(T:kL K (c.o 0))(F:dG K "fits" "Maybe.fits" Aq f fd)(lb:hq P w K mg base (2*n+4) "fits" ["self","value"] (fW c) (jZ has bc c n)):de P w K mg base dv (2*n+4+1) f fd ["self","value"] (jZ has bc c (n+1) (.o 0)):=by
 refine F.fK Wd (fun bx A _ s H vs Q E ax h=>?_)
 obtain⟨o,cm,v,d,rfl,hs,dr,aL,di,hd,az,q⟩:=h
 obtain⟨g,rfl⟩:=qd hs
 obtain⟨_,ak,i,aH,fv⟩:=dr
 have ir:aM g<=n:=by rw[aM]at di;omega
 rw[bw]at az
 have az:nK (bw bc g) d=ah:=az
 obtain⟨fG,fH,eI,li⟩:=cd.fits g fv
 refine⟨_,(aI (cE (gc.pt (j6 (jP (hi (b9 iU I nb.i4 iT (al (ab 1) (al (iX (v :=.ty "tuple") I nb.q1 ql I) aB))))) (lq (b0 jG (b9 du I nb.dn dq (al (ab 1) aB)) aC)))) (aR (bB jO)) cF)
  (aR (bB (Bp (fO c2 (b9 du rfl nb.dn dq (al (ab 1) aB)) aC) (jQ (ij lb ax (ed (ab 0) rfl) (al (bG bH (ab 1) aC) aB) (hk:=by omega))))))),_,rfl,.inl ⟨_,_,_,_,rfl,hd.ty,hN K d (by decide),_,rfl,?_⟩⟩
 unfold nK at az
 split at az
 ·obtain⟨a,vs,rfl,dz,rfl,jl⟩:=hd
  exact dW ⟨_,I,_,_,I,.inr ⟨_,bI dz,I⟩,_,_,I,I,_,I,fx (by decide) ⟨_,I,_,_,I,.inr ⟨_,bI dz,I⟩,I,_,I,iK I ⟨H,.refl (dx _),q⟩⟩⟩
 ·rename_i x _
  obtain⟨a,vs,rfl,dz,⟨y,r,rfl,ao,rfl⟩,jl⟩:=hd
  refine dW ⟨_,I,_,_,I,.inr ⟨_,bI dz,I⟩,_,_,I,I,_,I,fx (by show ¬((1:Int)<1);decide) ⟨_,I,_,_,I,.inr ⟨_,bI dz,I⟩,I,_,I,fx (fun z=>nomatch z) ?_⟩⟩
  exact⟨_,I,o,c.o 0,ak,_,_,I,aH,T.cl,T.nO,ia ..,i,slot g,fG,fH,I,eI,li,_,I,.inl (.inr ⟨_,_,_,_,I,I,bI dz,cB (j:=0) I,i,g,y,x,I,I,fv,aL.one,ir,ao,az,H,.refl (dx _),q⟩)⟩
 .cases az
theorem YJ(T:kL K (c.o 2))(F:dG K "fits" "Turned.fits" zR f fd)(lb:hq P w K mg base (2*n+4) "fits" ["self","value"] (fW c) (jZ has bc c n)):de P w K mg base dv (2*n+4+1) f fd ["self","value"] (jZ has bc c (n+1) (.o 2)):=by
 refine F.fK VL (fun bx A _ s H vs Q E ax h=>?_)
 obtain⟨o,cm,v,d,rfl,hs,dr,aL,di,hd,az,q⟩:=h
 obtain⟨g,rfl⟩:=qd hs
 obtain⟨_,ak,i,aH,fv⟩:=dr
 have ir:aM g<=n:=by rw[aM]at di;omega
 rw[bw]at az
 obtain⟨fG,fH,eI,li⟩:=cd.fits g fv
 exact⟨_,(aR (bB (ij lb ax (ed (ab 0) I) (al (ab 1) aB) (hk:=by omega)))),_,rfl,o,c.o 2,ak,_,_,rfl,aH,T.cl,T.nO,ia ..,i,slot g,fG,fH,rfl,eI,li,_,rfl,i,g,v,d,rfl,rfl,fv,aL.one,ir,hd,az,H,.refl (dx _),q⟩
theorem T2(nb:dT mg)(pR:gX mg "MOST_VALUES" (.int 60))(T:kL K (c.o 1))(F:dG K "fits" "Many.fits" Ay f fd)(lb:hq P w K mg base (2*n+4) "fits" ["self","value"] (fW c) (jZ has bc c n)):de P w K mg base dv (2*n+4+1) f fd ["self","value"] (jZ has bc c (n+1) (.o 1)):=by
 refine F.fK WG (fun bx A _ s H vs Q E ax h=>?_)
 obtain⟨o,cm,v,d,rfl,hs,dr,aL,di,hd,az,q⟩:=h
 obtain⟨g,rfl⟩:=qd hs
 obtain⟨_,ak,i,aH,fv⟩:=dr
 have ir:aM g<=n:=by rw[aM]at di;omega
 rw[bw]at az
 have az:tK (bw bc g) d=ah:=az
 obtain⟨fG,fH,eI,li⟩:=cd.fits g fv
 refine⟨_,(aI (cE (gc.pt (j6 (jP (hi (b9 iU I nb.i4 iT (al (ab 1) (al (iX (v :=.ty "list") I nb.yG xF I) aB))))) (lq (b0 jG (b9 du I nb.dn dq (al (ab 1) aB)) (lV pR))))) (aR (bB jO)) cF)
  (aR (bB (b9 (u7 rfl) rfl nb.vl vi (al (ik ["part"] [(0,"self")] rfl (by decide+kernel) ⟨rfl,.inl rfl,trivial⟩ (h0 (ab 1)) (fun _ _ _ _ _=>(d7 (i:=0) (show(["part","self"]:List ae).Nodup by decide+kernel))) (fun _ _ _ _ _=>hu) (fun _ _ _ _ _=>(ij lb ax (ed (ab 1) rfl) (al (ab 0) aB) (hk:=by omega)))) aB))))),_,rfl,.inl ⟨_,_,_,_,rfl,hd.ty,hN K d (by decide),_,rfl,?_⟩⟩
 cases d with
 | lst ds =>
  obtain⟨a,vs,rfl,dz,dV,jl⟩:=hd
  have cM:=bh.len ds dV
  have az:(decide (ds.length<=60)&&ds.all (bw bc g))=ah:=az
  rw[gZ,iR,e9]at az
  refine dW ⟨_,I,_,_,I,.inl ⟨_,bb dz,I⟩,_,_,I,I,_,I,fx (by omega) (.inl ⟨_,I,a,I,⟨_,bb dz⟩,fun cW d8=>?_⟩)⟩
  refine AU (K:=K) (a:=a) (xs:=vs) (fun _=>V.aQ ah) (fun U=>∃z,U=[z,J (.ref o)]) (fb (by omega)) ⟨_,I⟩ d8 (bb dz) ?_ ?_
  ·rintro x ao bL H1 ⟨z,rfl⟩ er R b1
   obtain⟨k,hk,rfl⟩:=List.mem_iff_getElem.mp ao
   obtain⟨iG,kB,Ic⟩:=bh.get ds dV (cp hk)
   exact⟨_,I,o,c.o 1,ak,_,_,I,er _ _ aH,T.cl,T.nO,ia ..,i,slot g,fG,fH,I,er _ _ eI,li,_,I,i,g,_,iG,I,I,cd.keep (fun b u _ e=>er b u e) g fv,aL.one,ir,c3.same er iG Ic,az.2 iG (fE kB),b1 _ ⟨_,I⟩⟩
  ·refine⟨cW,List.replicate vs.length ah,I,bb (by rw[aG,List.map_replicate,List.map_const']),H,.refl (dg d8),?_⟩
   rw[show(List.replicate vs.length ah).all id=ah by simp];exact q
 |_=>cases az
theorem YK(nb:dT mg)(T:na K (c.t 0))(F:dG K "fits" "Record.fits" zW f fd)(lb:hq P w K mg base (2*n+4) "fits" ["self","value"] (fW c) (jZ has bc c n)):de P w K mg base dv (2*n+4+1) f fd ["self","value"] (jZ has bc c (n+1) (.t 0)):=by
 refine F.fK VQ (fun bx A _ s H vs Q E ax h=>?_)
 obtain⟨o,cm,v,d,rfl,hs,dr,aL,di,hd,az,q⟩:=h
 obtain⟨ns,fs,rfl⟩:=u4 hs
 obtain⟨_,ak,a1,a2,os,aH,_,_,ai,aj,fv⟩:=dr
 obtain⟨gr,i2,hZ⟩:=aL.two
 have ir:f7 fs<=n:=by rw[aM]at di;omega
 have nD:=eK.len fs fv
 have vR:=(lX gr).1
 rw[bw]at az
 have az:Jf (ej bc fs) d=ah:=az
 refine⟨_,(aI (cE (gc.pt (j6 (jP (hi (b9 iU I nb.i4 iT (al (ab 1) (al (iX (v :=.ty "tuple") I nb.q1 ql I) aB))))) (lq (b0 qR (b9 du I nb.dn dq (al (ab 1) aB)) (b9 du I nb.dn dq (al (ed (ab 0) I) aB)))))) (aR (bB jO)) cF)
  (aR (bB (b9 (u7 rfl) rfl nb.vl vi (al (ik ["form","part"] [] rfl (by decide+kernel) trivial (Mf rfl nb.Ju (al (ed (ab 0) rfl) (al (ab 1) aB))) (fun _ _ _ _ _=>(pI rfl (jB (d7 (i:=0) (show(["form","part"]:List ae).Nodup by decide+kernel)) (jB (d7 (i:=1) (show(["form","part"]:List ae).Nodup by decide+kernel)) px)))) (fun _ _ _ _ _=>hu) (fun _ _ _ _ _=>(ij lb ax (ab 0) (al (ab 1) aB) (hk:=by omega)))) aB))))),_,rfl,.inl ⟨_,_,_,_,rfl,hd.ty,hN K d (by decide),_,rfl,?_⟩⟩
 cases d with
 | tup ds =>
  obtain⟨a,vs,rfl,dz,dV,jl⟩:=hd
  have ma:=bh.len ds dV
  have az:ej bc fs ds=ah:=az
  have fu:ds.length=fs.length:=by
   by_cases z:ds.length=fs.length
   .exact z
   .rw[A4 bc fs ds z]at az;cases az
  rw[A5 bc fs ds fu,e9]at az
  refine dW ⟨_,I,_,_,I,.inr ⟨_,bI dz,I⟩,_,I,o,c.t 0,ak,_,_,I,aH,T.cl,T.kZ,mP _ _ _ _ pN,_,_,I,.inl ⟨_,bb aj,I⟩,I,_,I,yA (by rw[cw,ma,nD,fu]) ?_⟩
  refine⟨_,I,o,c.t 0,ak,_,_,I,aH,T.cl,T.kZ,mP _ _ _ _ pN,_,I,a2,a,_,_,I,bb aj,bI dz,fun cW d8=>?_⟩
  refine LA (fun k=>V.aQ ah) (fun U=>∃cP cL,U=[cP,cL]) (by rw[cw];omega) ⟨_,_,I⟩ d8 (bb aj) (bI dz) ?_ ?_
  ·rintro k x y ao aU bL H1 kN ⟨cP,cL,rfl⟩ er mC R b1
   rw[eL]at ao
   obtain⟨oX,yo,rfl⟩:=Uf.mp ao
   obtain⟨cm,pT,rK⟩:=eK.get fs fv yo
   obtain⟨iG,kB,oR⟩:=bh.get ds dV aU
   obtain⟨mJ,vM⟩:=hZ.get pT
   have hk:k<fs.length:=(g5.mp pT).1
   have rS:=az k (List.mem_range.mpr hk)
   rw[dN,pT,dN,kB]at rS
   have o4:=er.trans (dg (o:=df.tup [V.ref oX,y]) mC)
   obtain⟨fG,fH,eI,li⟩:=cd.fits cm (cd.keep (fun b u _ e=>o4 b u e) cm rK)
   exact⟨kN,_,I,bI aG,I,_,_,I,_,_,I,I,_,I,oX,slot cm,fG,fH,I,eI,li,_,I,oX,cm,y,iG,I,I,cd.keep (fun b u _ e=>o4 b u e) cm rK,mJ,by omega,c3.same o4 iG oR,rS,b1 _ _ ⟨_,_,rfl⟩ (dx _)⟩
  ·intro H' mM oB
   have e:(List.range (min (os.map V.ref).length vs.length)).map (fun k=>V.aQ ah)=(List.replicate fs.length ah).map V.aQ:=by
    rw[cw,ma,nD,fu,Nat.min_self,List.map_const',kQ,List.map_replicate]
   rw[e]at oB
   refine⟨cW,_,I,bb oB,H,.refl mM,?_⟩
   rw[show(List.replicate fs.length ah).all id=ah by simp];exact q
 |_=>cases az
noncomputable def Bt(fw:D->List Bool):Fin 4->D->List Bool
 |1,.aQ b=>[b]
 |2,.int i=>gP i
 |3,d=>fw d
 |_,_=>[]
noncomputable def Io(g:D->List Bool):D->List Bool
 |.tup [x]=>ah::g x
 |_=>[aF]
noncomputable def ad6(g:D->List Bool):D->List Bool
 |.lst ds=>(ds.map fun d=>ah::g d).flatten++[aF]
 |_=>[]
noncomputable def Iy(k:Fin 3)(g:D->List Bool)(d:D):List Bool:=if k=0 then Io g d else if k=1 then ad6 g d else(g d).map (!·)
noncomputable def ahm(a b:Int):D->List Bool
 |.int i=>dj (i-a).toNat (aE (b-a).toNat)
 |_=>[]
noncomputable def yF(s:ae):D->List Bool
 |.str t=>(t.cps.toList.map fun c=>ah::dj (s.cps.toList.idxOf c) (aE (s.length-1))).flatten++[aF]
 |_=>[]
noncomputable def aih(g:List D->List Bool):D->List Bool
 |.tup ds=>g ds
 |_=>[]
noncomputable def ZP(g:ae->D->List Bool):D->List Bool
 |.tup [.str n,x]=>g n x
 |_=>[]
mutual
noncomputable def bf(fw:D->List Bool):ba->D->List Bool
 |.bare k,d=>Bt fw k d
 |.sp a b,d=>ahm a b d
 |.le s,d=>yF s d
 |.one k f,d=>Iy k (bf fw f) d
 |.two k ns fs,d=>if k=0 then aih (gk fw fs) d else ZP (mf fw fs ns 0 (fs.length-1)) d
noncomputable def gk(fw:D->List Bool):List ba->List D->List Bool
 |[],_=>[]
 |f::fs,ds=>match ds with|[]=>[]|d::ds=>bf fw f d++gk fw fs ds
noncomputable def mf(fw:D->List Bool):List ba->List ae->Nat->Nat->ae->D->List Bool
 |[],_,_,_,_,_=>[]
 |f::fs,ns,k,m,n,x=>if ns.head?=J n then dj k (aE m)++bf fw f x else mf fw fs ns.tail (k+1) m n x
end
inductive QW(has:e7->Bool)(bc:D->Bool)(fw:D->List Bool)(c:eQ)(n:Nat)(i:e7)(vs:List V)(H:aq)(Q:bJ)(E:cN):Prop where
 |mk (o:af) (f:ba) (v:V) (d:D) (bg:vs=[.ref o,v]) (ai:slot f=i) (aj:cd c [] H f o) (bE:lJ has f) (cQ:aM f<=n) (eN:c3 H d v) (jj:bw bc f d=ah) (nt:(bf fw f d).length<=15000000) (nu:Q (.str (aP (bf fw f d))) H):QW has bc fw c n i vs H Q E
def jI(has:e7->Bool)(bc:D->Bool)(fw:D->List Bool)(c:eQ)(n:Nat)(i:e7):cD:=fun vs H Q E=>QW has bc fw c n i vs H Q E
theorem cd.written{c:eQ}(f:ba){o:af}(h:cd c X H f o):∃ak fs,H o=J (.ins (fW c (slot f)) ak fs)/\fs.lookup (ae.ofString "written")=aw :=
 cd.ins (m:=ae.ofString "written") (by decide+kernel) (by decide+kernel) (by decide+kernel) (by decide+kernel) (by decide+kernel) (by decide+kernel) f h
theorem vc:ae.ofString "1"=aP [ah]:=by decide+kernel
theorem Bb:ae.ofString "0"=aP [aF]:=by decide+kernel
theorem U6(F:dG K "written" "Nothing.written" Ac f fd):de P w K mg base dv 1 f fd ["self","value"] (jI has bc fw c n (.b 0)):=by
 refine F.fK U5 (fun bx A _ s H vs Q E ax h=>?_)
 obtain⟨o,cm,v,d,rfl,hs,dr,aL,di,hd,az,aD,q⟩:=h
 have:=ng hs
 subst this
 rw[bf]at q
 refine⟨_,(aR (bB cT)),H,.refl (dx _),?_⟩
 cases d<;>exact q
theorem Vq(F:dG K "written" "Truth.written" zD f fd):de P w K mg base dv 1 f fd ["self","value"] (jI has bc fw c n (.b 1)):=by
 refine F.fK Vk (fun bx A _ s H vs Q E ax h=>?_)
 obtain⟨o,cm,v,d,rfl,hs,dr,aL,di,hd,az,aD,q⟩:=h
 have:=ng hs
 subst this
 rw[bf]at q
 rw[bw]at az
 cases d with
 |aQ b =>
  obtain rfl:v=.aQ b:=hd
  refine⟨_,(aR (bB (lU (hi (ab 1)) cT cT))),_,I,?_⟩
  refine⟨b,I,?_⟩
  cases b with
  |true=>exact e3 ⟨H,.refl (dx _),q⟩
  |false=>exact dW ⟨H,.refl (dx _),q⟩
 |_=>cases az
theorem Vd(F:dG K "written" "Whole.written" zC f fd)(ra:bq P w K mg base 3 "whole_row" ["n"] AB):de P w K mg base dv 4 f fd ["self","value"] (jI has bc fw c n (.b 2)):=by
 refine F.fK Vj (fun bx A _ s H vs Q E ax h=>?_)
 obtain⟨o,cm,v,d,rfl,hs,dr,aL,di,hd,az,aD,q⟩:=h
 have:=ng hs
 subst this
 rw[bf]at q
 rw[bw]at az
 cases d with
 |int i =>
  obtain rfl:v=.int i:=hd
  exact⟨_,(aR (bB (b6 ra ax (al (ab 1) aB)))),_,I,i,I,hg az,H,.refl (dx _),q⟩
 |_=>cases az
theorem Zip(T:uX K c.s)(F:dG K "written" "Span.written" zH f fd)(n8:bq P w K mg base 2 "fixed_row" ["n","most"] y6):de P w K mg base dv 3 f fd ["self","value"] (jI has bc fw c n .s):=by
 refine F.fK Vv (fun bx A _ s H vs Q E ax h=>?_)
 obtain⟨o,cm,v,d,rfl,hs,dr,aL,di,hd,az,aD,q⟩:=h
 obtain⟨a,b,rfl⟩:=FX hs
 obtain⟨_,ak,aH⟩:=dr
 rw[bf]at q aD
 rw[bw]at az
 cases d with
 |int i =>
  obtain rfl:v=.int i:=hd
  have az:a<=i/\i<=b:=hg az
  have aD:(dj (i-a).toNat (aE (b-a).toNat)).length<=15000000:=aD
  rw[iV]at aD
  have aS:((i-a).toNat:Int)=i-a:=Int.toNat_of_nonneg (by omega)
  have aV:((b-a).toNat:Int)=b-a:=Int.toNat_of_nonneg (by omega)
  refine⟨_,(aR (bB (b6 n8 ax (al (aN gj (ab 1) (ed (ab 0) I)) (al (aN gj (ed (ab 0) I) (ed (ab 0) I)) aB))))),?_⟩
  try dsimp only[c4,c5,c6,c7]
  refine⟨_,I,_,I,o,c.s,ak,_,_,I,aH,T.cl,T.pU,ia ..,_,_,I,I,_,I,o,c.s,ak,_,_,I,aH,T.cl,T.CD,mP _ _ _ _ Hz,_,I,o,c.s,ak,_,_,I,aH,T.cl,T.pU,ia ..,_,_,I,I,(i-a).toNat,(b-a).toNat,by rw[aS,aV];rfl,by omega,by omega,H,.refl (dx _),q⟩
 |_=>cases az
theorem Vr(nb:dT mg)(T:kL K (c.o 0))(F:dG K "written" "Maybe.written" zE f fd)(lg:hq P w K mg base (2*n+4) "written" ["self","value"] (fW c) (jI has bc fw c n)):de P w K mg base dv (2*n+4+1) f fd ["self","value"] (jI has bc fw c (n+1) (.o 0)):=by
 refine F.fK Vl (fun bx A _ s H vs Q E ax h=>?_)
 obtain⟨o,cm,v,d,rfl,hs,dr,aL,di,hd,az,aD,q⟩:=h
 obtain⟨g,rfl⟩:=qd hs
 obtain⟨_,ak,i,aH,fv⟩:=dr
 have hZ:=aL.one
 have ir:aM g<=n:=by rw[aM]at di;omega
 rw[bw]at az
 rw[bf]at q aD
 have az:nK (bw bc g) d=ah:=az
 have q:Q (.str (aP (Io (bf fw g) d))) H:=q
 have aD:(Io (bf fw g) d).length<=15000000:=aD
 obtain⟨fG,fH,eI,li⟩:=cd.written g fv
 cases d with
 | tup ds =>
  obtain⟨a,vs,rfl,dz,dV,jl⟩:=hd
  have cM:=bh.len ds dV
  refine⟨_,(aR (bB (lU (b0 c2 (b9 du I nb.dn dq (al (ab 1) aB)) aC) cT (aN eb cT (ij lg ax (ed (ab 0) I) (al (bG bH (ab 1) aC) aB) (hk:=by omega)))))),?_⟩
  try dsimp only[c4,c5,c6,c7]
  refine⟨_,I,_,_,I,.inr ⟨_,bI dz,I⟩,I,_,I,?_⟩
  cases ds with
  |nil =>
   obtain rfl:vs=[]:=dV
   exact e3 ⟨H,.refl (dx _),q⟩
  | cons x r =>
   cases r with
   |cons y r=>cases az
   |nil =>
    obtain⟨y,r,rfl,ao,dt⟩:=dV
    obtain rfl:r=[]:=dt
    have aD:(ah::bf fw g x).length<=15000000:=aD
    rw[d6]at aD
    refine dW ⟨_,I,o,c.o 0,ak,_,_,I,aH,T.cl,T.nO,ia ..,i,slot g,fG,fH,I,eI,li,?_⟩
    refine⟨_,I,.inl (.inr ⟨_,_,_,_,I,I,bI dz,cB (j:=0) I,i,g,y,x,I,I,fv,hZ,ir,ao,az,by omega,.inr ⟨_,_,rfl,rfl,jn ?_,H,.refl (dx _),?_⟩⟩)⟩
    .rw[vc,eG,eG];simp only[d6,List.length_nil];omega
    .rw[vc,ka];exact q
 |_=>cases az
theorem Ve(T:kL K (c.o 2))(F:dG K "written" "Turned.written" Ad f fd)(oa:bq P w K mg base 1 "turned_row" ["row"] xm)(lg:hq P w K mg base (2*n+4) "written" ["self","value"] (fW c) (jI has bc fw c n)):de P w K mg base dv (2*n+4+1) f fd ["self","value"] (jI has bc fw c (n+1) (.o 2)):=by
 refine F.fK U8 (fun bx A _ s H vs Q E ax h=>?_)
 obtain⟨o,cm,v,d,rfl,hs,dr,aL,di,hd,az,aD,q⟩:=h
 obtain⟨g,rfl⟩:=qd hs
 obtain⟨_,ak,i,aH,fv⟩:=dr
 have hZ:=aL.one
 have ir:aM g<=n:=by rw[aM]at di;omega
 rw[bw]at az
 rw[bf]at q aD
 have az:bw bc g d=ah:=az
 have q:Q (.str (aP ((bf fw g d).map (!·)))) H:=q
 have aD:((bf fw g d).map (!·)).length<=15000000:=aD
 rw[cw]at aD
 obtain⟨fG,fH,eI,li⟩:=cd.written g fv
 refine⟨_,(aR (bB (b6 oa ax (al (ij lg ax (ed (ab 0) I) (al (ab 1) aB) (hk:=by omega)) aB) (hk:=by omega)))),?_⟩
 try dsimp only[c4,c5,c6,c7]
 refine⟨_,I,o,c.o 2,ak,_,_,I,aH,T.cl,T.nO,ia ..,i,slot g,fG,fH,I,eI,li,?_⟩
 exact⟨_,I,i,g,v,d,I,I,fv,hZ,ir,hd,az,aD,_,I,by omega,H,.refl (dx _),q⟩
theorem A0{ls:List (List Bool)}(h:l∈ls):l.length<=ls.flatten.length:=by
 induction ls with
 |nil=>cases h
 |cons a r bT =>
  rw[j8,dX]
  rcases c9.mp h with rfl|h
  .omega
  .have:=bT h;omega
theorem AZ(ls:List (List Bool)):((ls.map aP).map (·.length)).sum+(ls.map aP).length*(ae.ofString "").length=ls.flatten.length:=by
 have e:(ae.ofString "").length=0:=by decide+kernel
 rw[e,Nat.mul_zero,Nat.add_zero,gE,List.length_flatten]
 congr 1
 exact oh fun l _=>eG l
theorem AP(fw:D->List Bool):∀(fs:List ba)(ds:List D),ds.length=fs.length->gk fw fs ds=((List.range fs.length).map fun i=>bf fw (fs.getD i (.bare 0)) (ds.getD i .aT)).flatten
 |[],ds,h=>by rw[gk];rfl
 |f::fs,[],h=>by cases h
 |f::fs,d::ds,h=>by
  rw[gk]
  show bf fw f d++gk fw fs ds=_
  rw[AP fw fs ds (by simpa using h),d6,List.range_succ_eq_map,fD,j8,gE]
  rfl
theorem VF(nb:dT mg)(T:kL K (c.o 1))(F:dG K "written" "Many.written" zM f fd)(lg:hq P w K mg base (2*n+4) "written" ["self","value"] (fW c) (jI has bc fw c n)):de P w K mg base dv (2*n+4+1) f fd ["self","value"] (jI has bc fw c (n+1) (.o 1)):=by
 refine F.fK Vy (fun bx A _ s H vs Q E ax h=>?_)
 obtain⟨o,cm,v,d,rfl,hs,dr,aL,di,hd,az,aD,q⟩:=h
 obtain⟨g,rfl⟩:=qd hs
 obtain⟨_,ak,i,aH,fv⟩:=dr
 have hZ:=aL.one
 have ir:aM g<=n:=by rw[aM]at di;omega
 rw[bw]at az
 rw[bf]at q aD
 have az:tK (bw bc g) d=ah:=az
 obtain⟨fG,fH,eI,li⟩:=cd.written g fv
 cases d with
 | lst ds =>
  obtain⟨a,vs,rfl,dz,dV,jl⟩:=hd
  have cM:=bh.len ds dV
  have az:(decide (ds.length<=60)&&ds.all (bw bc g))=ah:=az
  obtain⟨BQ,fI⟩:=mr.mp az
  have fI:=e9.mp fI
  have q:Q (.str (aP ((ds.map fun d=>ah::bf fw g d).flatten++[aF]))) H:=q
  have aD:((ds.map fun d=>ah::bf fw g d).flatten++[aF]).length<=15000000:=aD
  rw[dX]at aD
  refine⟨_,(aR (bB (aN eb (hV PySem.F.plainAttrs_str PySem.F.slot_str_join PySem.F.type_str_join sY cT (al (ik ["part"] [(0,"self")] I (by decide+kernel) ⟨I,.inl I,trivial⟩ (h0 (ab 1)) (fun _ _ _ _ _=>(d7 (i:=0) (show(["part","self"]:List ae).Nodup by decide+kernel))) (fun _ _ _ _ _=>hu) (fun _ _ _ _ _=>(aN eb cT (ij lg ax (ed (ab 1) rfl) (al (ab 0) aB) (hk:=by omega))))) aB)) cT))),?_⟩
  try dsimp only[c4,c5,c6,c7]
  refine⟨I,.inl ⟨_,I,a,I,⟨_,bb dz⟩,fun cW d8=>?_⟩⟩
  refine xo (K:=K) (a:=a) (xs:=vs) (fun k=>V.str (aP (ah::bf fw g (ds.getD k .aT)))) (fun U=>∃z,U=[z,J (.ref o)]) (fb (by omega)) ⟨_,I⟩ d8 (bb dz) ?_ ?_
  ·rintro k x ao bL H1 ⟨z,rfl⟩ er R b1
   obtain⟨iG,kB,Ic⟩:=bh.get ds dV ao
   have e:ds.getD k .aT=iG:=by rw[dN,kB];rfl
   rw[e]at b1
   have hm:iG∈ds:=fE kB
   have aY:=A0 (List.mem_map_of_mem (f:=fun d=>ah::bf fw g d) hm)
   rw[d6]at aY
   refine⟨_,I,o,c.o 1,ak,_,_,I,er _ _ aH,T.cl,T.nO,ia ..,i,slot g,fG,fH,I,er _ _ eI,li,?_⟩
   refine⟨_,I,i,g,x,iG,I,I,cd.keep (fun b u _ e=>er b u e) g fv,hZ,ir,c3.same er iG Ic,fI _ hm,by omega,.inr ⟨_,_,rfl,rfl,jn ?_,?_⟩⟩
   .rw[vc,eG,eG];simp only[d6,List.length_nil];omega
   .rw[vc,ka];exact b1 _ ⟨_,I⟩
  ·have e:(List.range vs.length).map (fun k=>V.str (aP (ah::bf fw g (ds.getD k .aT))))=((ds.map fun d=>ah::bf fw g d).map aP).map V.str:=by
    rw[cM]
    apply List.ext_getElem
    .simp
    ·intro k ai aj
     have bE:k<ds.length:=by simpa using aj
     rw[j7,j7,j7,j7,List.getElem_range,dN,cp bE];rfl
   rw[e]
   refine⟨_,cW,_,I,I,bb aG,by rw[AZ];omega,.inr ⟨_,_,rfl,rfl,jn ?_,H,.refl (dg d8),?_⟩⟩
   .rw[rh,Bb,eG,eG];omega
   .rw[rh,Bb,ka];exact q
 |_=>cases az
theorem Vf(nb:dT mg)(T:na K (c.t 0))(F:dG K "written" "Record.written" Ae f fd)(lg:hq P w K mg base (2*n+4) "written" ["self","value"] (fW c) (jI has bc fw c n)):de P w K mg base dv (2*n+4+1) f fd ["self","value"] (jI has bc fw c (n+1) (.t 0)):=by
 refine F.fK U9 (fun bx A _ s H vs Q E ax h=>?_)
 obtain⟨o,cm,v,d,rfl,hs,dr,aL,di,hd,az,aD,q⟩:=h
 obtain⟨ns,fs,rfl⟩:=u4 hs
 obtain⟨_,ak,a1,a2,os,aH,_,_,ai,aj,fv⟩:=dr
 obtain⟨gr,i2,hZ⟩:=aL.two
 have ir:f7 fs<=n:=by rw[aM]at di;omega
 have nD:=eK.len fs fv
 have vR:=(lX gr).1
 rw[bw]at az
 rw[bf]at q aD
 have az:Jf (ej bc fs) d=ah:=az
 cases d with
 | tup ds =>
  obtain⟨a,vs,rfl,dz,dV,jl⟩:=hd
  have ma:=bh.len ds dV
  have az:ej bc fs ds=ah:=az
  have fu:ds.length=fs.length:=Classical.byContradiction fun aW=>by rw[A4 bc fs ds aW]at az;cases az
  rw[A5 bc fs ds fu]at az
  have fI:=e9.mp az
  have q:Q (.str (aP (gk fw fs ds))) H:=q
  have aD:(gk fw fs ds).length<=15000000:=aD
  rw[AP fw fs ds fu]at q aD
  refine⟨_,(aR (bB (hV PySem.F.plainAttrs_str PySem.F.slot_str_join PySem.F.type_str_join sY cT (al (ik ["form","part"] [] I (by decide+kernel) trivial (Mf I nb.Ju (al (ed (ab 0) I) (al (ab 1) aB))) (fun _ _ _ _ _=>(pI I (jB (d7 (i:=0) (show(["form","part"]:List ae).Nodup by decide+kernel)) (jB (d7 (i:=1) (show(["form","part"]:List ae).Nodup by decide+kernel)) px)))) (fun _ _ _ _ _=>hu) (fun _ _ _ _ _=>(ij lg ax (ab 0) (al (ab 1) aB) (hk:=by omega)))) aB)))),?_⟩
  try dsimp only[c4,c5,c6,c7]
  refine⟨I,_,I,o,c.t 0,ak,_,_,I,aH,T.cl,T.kZ,mP _ _ _ _ pN,_,I,a2,a,_,_,I,bb aj,bI dz,fun cW d8=>?_⟩
  refine LA (fun k=>V.str (aP (bf fw (fs.getD k (.bare 0)) (ds.getD k .aT)))) (fun U=>∃cP cL,U=[cP,cL]) (by rw[cw];omega) ⟨_,_,I⟩ d8 (bb aj) (bI dz) ?_ ?_
  ·rintro k x y ao aU bL H1 kN ⟨cP,cL,rfl⟩ er mC R b1
   rw[eL]at ao
   obtain⟨oX,yo,rfl⟩:=Uf.mp ao
   obtain⟨cm,pT,rK⟩:=eK.get fs fv yo
   obtain⟨iG,kB,oR⟩:=bh.get ds dV aU
   obtain⟨mJ,vM⟩:=hZ.get pT
   have aS:fs.getD k (.bare 0)=cm:=by rw[dN,pT];rfl
   have aV:ds.getD k .aT=iG:=by rw[dN,kB];rfl
   have hk:k∈List.range fs.length:=List.mem_range.mpr (g5.mp pT).1
   have rS:=fI k hk
   have aY:=A0 (List.mem_map_of_mem (f:=fun i=>bf fw (fs.getD i (.bare 0)) (ds.getD i .aT)) hk)
   rw[aS,aV]at b1 rS aY
   have o4:=er.trans (dg (o:=df.tup [V.ref oX,y]) mC)
   obtain⟨fG,fH,eI,li⟩:=cd.written cm (cd.keep (fun b u _ e=>o4 b u e) cm rK)
   refine⟨kN,_,I,bI aG,I,_,_,I,_,_,I,I,?_⟩
   refine⟨_,I,oX,slot cm,fG,fH,I,eI,li,?_⟩
   exact⟨_,I,oX,cm,y,iG,I,I,cd.keep (fun b u _ e=>o4 b u e) cm rK,mJ,by omega,c3.same o4 iG oR,rS,by omega,b1 _ _ ⟨_,_,rfl⟩ (dx _)⟩
  ·intro H' mM oB
   have e:(List.range (min (os.map V.ref).length vs.length)).map (fun k=>V.str (aP (bf fw (fs.getD k (.bare 0)) (ds.getD k .aT))))=(((List.range fs.length).map fun k=>bf fw (fs.getD k (.bare 0)) (ds.getD k .aT)).map aP).map V.str:=by
    rw[cw,ma,nD,fu,Nat.min_self,gE,gE];rfl
   rw[e]at oB
   refine⟨_,cW,_,I,I,bb oB,by rw[AZ];omega,H,.refl mM,?_⟩
   rw[rh];exact q
 |_=>cases az
noncomputable def sees(l:List Bool)(t:Bool)(j:Nat):List Bool:=(l.map (xor t)).drop j
theorem sX{s:List Bool}(h:(r++s) <+: sees l t j):s <+: sees l t (j+r.length):=by
 obtain⟨z,h⟩:=h
 refine⟨z,?_⟩
 unfold sees at h ⊢
 rw[<-List.drop_drop,<-h,gD,List.drop_left]
theorem qe{s:List Bool}(h:(r++s) <+: sees l t j):r <+: sees l t j:=(List.prefix_append r s).trans h
theorem sU{b:Bool}(h:(b::r) <+: sees l t j):∃jR,l[j]?=J jR/\xor t jR=b:=by
 obtain⟨z,h⟩:=h
 have bg:(sees l t j)[0]?=J b:=by rw[<-h];rfl
 unfold sees at bg
 rw[List.getElem?_drop,Nat.add_zero,eL]at bg
 obtain⟨jR,aS,aV⟩:=Uf.mp bg
 exact⟨jR,aS,aV⟩
theorem rn(h:r <+: sees l t j)(b2:j<=l.length):j+r.length<=l.length:=by
 have:=h.length_le
 unfold sees at this
 rw[je,cw]at this
 omega
theorem Yf(h:(r.map (!·)) <+: sees l t j):r <+: sees l (!t) j:=by
 obtain⟨z,h⟩:=h
 refine⟨z.map (!·),?_⟩
 unfold sees at h ⊢
 have:=congrArg (List.map (!·)) h
 rw[fo,gE,List.map_drop,gE]at this
 have e:(fun x:Bool=>!x) ∘ (fun x=>!x)=id:=by funext x;cases x<;>rfl
 have aV:(fun x:Bool=>!x) ∘ (xor t)=xor (!t):=by funext x;cases x<;>cases t<;>rfl
 rw[e,List.map_id,aV]at this
 exact this
theorem Fo(h:r <+: sees l t j):((l.drop j).take r.length).map (xor t)=r:=by
 obtain⟨z,h⟩:=h
 unfold sees at h
 rw[List.map_take,List.map_drop,<-h,List.take_left]
theorem cd.draw{c:eQ}(f:ba){o:af}(h:cd c X H f o):∃ak fs,H o=J (.ins (fW c (slot f)) ak fs)/\fs.lookup (ae.ofString "draw")=aw :=
 cd.ins (m:=ae.ofString "draw") (by decide+kernel) (by decide+kernel) (by decide+kernel) (by decide+kernel) (by decide+kernel) (by decide+kernel) f h
theorem dM.alloc{X:fU}(m:dM p H H')(e:H' p=J o)(h:∀x,x∈X->∃o,H x=J o):∀x,x∈X->∃o,H' x=J o:=fun x ao=>by
 by_cases z:x=p
 .exact⟨o,by rw[z];exact e⟩
 ·obtain⟨u,cC⟩:=h x ao
  exact⟨u,m.k x u z cC⟩
theorem cd.kY{c:eQ}(m:dM p H H')(f:ba){o:af}(h:cd c [p] H f o):cd c [p] H' f o:=cd.keep (fun b u n e=>m.k b u (fun z=>n (d5.mpr z)) e) f h
inductive PF(has:e7->Bool)(bc:D->Bool)(fw:D->List Bool)(c:eQ)(C:af)(n:Nat)(i:e7)(vs:List V)(H:aq)(Q:bJ)(E:cN):Prop where
 |mk (o p ak:af) (f:ba) (d:D) (l:List Bool) (j:Nat) (t e:Bool) (X:fU) (bg:vs=[.ref o,.ref p]) (ai:slot f=i) (aj:cd c [p] H f o) (bE:lJ has f) (cQ:aM f<=n) (eN:H p=J (e5 C ak l j t e)) (jj:l.length<=16000000) (nt:j<=l.length) (nu:p∈X) (oA:(∀x,x∈X->∃o,H x=J o)) (G1:bw bc f d=ah) (x4:bf fw f d <+: sees l t j) (mB:∀v H',dM p H H'->c8 X H' d v->H' p=J (e5 C ak l (j+(bf fw f d).length) t e)->Q v H'):PF has bc fw c C n i vs H Q E
def km(has:e7->Bool)(bc:D->Bool)(fw:D->List Bool)(c:eQ)(C:af)(n:Nat)(i:e7):cD:=fun vs H Q E=>PF has bc fw c C n i vs H Q E
theorem dM.step{C ak:af}{j':Nat}{e t' e':Bool}(h:H p=J (e5 C ak l j t e)):dM p H (upd H p (e5 C ak l j' t' e')):=dM.move h
theorem X0(F:dG K "draw" "Nothing.draw" zL f fd):de P w K mg base dv 1 f fd ["self","source"] (km has bc fw c C n (.b 0)):=by
 refine F.fK Vx (fun bx A _ s H vs Q E ax h=>?_)
 obtain⟨o,p,ak,cm,d,l,j,t,e,X,rfl,hs,dr,aL,di,dk,aD,b2,eB,dJ,az,dt,q⟩:=h
 have:=ng hs
 subst this
 rw[bf]at q
 rw[bw]at az
 cases d with
 |aT=>exact⟨_,(aR (bB qv)),H,.refl (dx _),q _ _ (dM.refl _ _) I dk⟩
 |_=>cases az
theorem SQ(ff:fY K C)(F:dG K "draw" "Truth.draw" Ao f fd)(gY:hb P w K mg base 1 C "draw" ["self"] (o5 C)):de P w K mg base dv 3 f fd ["self","source"] (km has bc fw c C n (.b 1)):=by
 refine F.fK Wa (fun bx A _ s H vs Q E ax h=>?_)
 obtain⟨o,p,ak,cm,d,l,j,t,e,X,rfl,hs,dr,aL,di,dk,aD,b2,eB,dJ,az,dt,q⟩:=h
 have:=ng hs
 subst this
 rw[bf]at q dt
 rw[bw]at az
 cases d with
 |aQ b =>
  have dt:[b] <+: sees l t j:=dt
  obtain⟨jR,gJ,gK⟩:=sU dt
  refine⟨_,(aR (bB (fO c2 (jA gY ff ax (ab 1)) aC))),?_⟩
  try dsimp only[c4,c5,c6,c7]
  refine⟨_,I,p,ak,_,I,dk,ly _ _ _ _ (by decide+kernel) (by decide+kernel) (by decide+kernel),?_⟩
  refine⟨p,ak,l,j,t,e,jR,I,⟨_,dk⟩,aD,gJ,?_⟩
  have M:=dM.step (j':=j+1) (t':=t) (e':=e) dk
  rw[gK]
  refine⟨I,_,M.sub aG,?_⟩
  have gh:decide (V.int ((b.toNat:Nat):Int)=V.int 1)=b:=by cases b<;>rfl
  rw[gh]
  exact q _ _ M I aG
 |_=>cases az
theorem T8(T:uX K c.s)(F:dG K "draw" "Span.draw" Aw f fd)(n7:bq P w K mg base 2 "draw_fixed" ["source","most"] (y5 C)):de P w K mg base dv 4 f fd ["self","source"] (km has bc fw c C n .s):=by
 refine F.fK WD (fun bx A _ s H vs Q E ax h=>?_)
 obtain⟨o,p,ak,cm,d,l,j,t,e,X,rfl,hs,dr,aL,di,dk,aD,b2,eB,dJ,az,dt,q⟩:=h
 obtain⟨a,b,rfl⟩:=FX hs
 obtain⟨_,kc,aH⟩:=dr
 rw[bf]at q dt
 rw[bw]at az
 cases d with
 |int v =>
  have az:a<=v/\v<=b:=hg az
  have dt:dj (v-a).toNat (aE (b-a).toNat) <+: sees l t j:=dt
  have q:∀(w:V)(H':aq),dM p H H'->c8 X H' (.int v) w->H' p=J (e5 C ak l (j+(dj (v-a).toNat (aE (b-a).toNat)).length) t e)->Q w H':=q
  rw[iV]at q
  have aS:((v-a).toNat:Int)=v-a:=Int.toNat_of_nonneg (by omega)
  have aV:((b-a).toNat:Int)=b-a:=Int.toNat_of_nonneg (by omega)
  have qK:=rn dt b2
  have oP:=Fo dt
  rw[iV]at qK oP
  have M:=dM.step (j':=j+aE (b-a).toNat) (t':=t) (e':=e) dk
  refine⟨_,(aR (bB (aN eb (ed (ab 0) I) (b6 n7 ax (al (ab 1) (al (aN gj (ed (ab 0) I) (ed (ab 0) I)) aB)))))),?_⟩
  try dsimp only[c4,c5,c6,c7]
  refine⟨_,I,o,c.s,kc,_,_,I,aH,T.cl,T.pU,ia ..,_,I,_,I,o,c.s,kc,_,_,I,aH,T.cl,T.CD,mP _ _ _ _ Hz,_,I,o,c.s,kc,_,_,I,aH,T.cl,T.pU,ia ..,_,_,I,I,p,ak,l,j,(v-a).toNat,(b-a).toNat,t,e,by rw[aV];rfl,dk,aD,by omega,qK,oP,.inl ⟨_,_,rfl,rfl,_,M.sub aG,?_⟩⟩
  exact q _ _ M (by show V.int _=V.int _;congr 1;omega) aG
 |_=>cases az
theorem YT(ff:fY K C)(T:kL K (c.o 2))(F:dG K "draw" "Turned.draw" zS f fd)(lR:hb P w K mg base 1 C "turn" ["self"] (zc C))(lM:hq P w K mg base (2*n+4) "draw" ["self","source"] (fW c) (km has bc fw c C n)):de P w K mg base dv (2*n+4+1) f fd ["self","source"] (km has bc fw c C (n+1) (.o 2)):=by
 refine F.fK Km (fun bx A _ s H vs Q E ax h=>?_)
 obtain⟨o,p,ak,cm,d,l,j,t,e,X,rfl,hs,dr,aL,di,dk,aD,b2,eB,dJ,az,dt,q⟩:=h
 obtain⟨g,rfl⟩:=qd hs
 obtain⟨nP,kc,i,aH,fv⟩:=dr
 have hZ:=aL.one
 have ir:aM g<=n:=by rw[aM]at di;omega
 rw[bw]at az
 rw[bf]at q dt
 have az:bw bc g d=ah:=az
 have dt:(bf fw g d).map (!·) <+: sees l t j:=dt
 have q:∀(w:V)(H':aq),dM p H H'->c8 X H' d w->H' p=J (e5 C ak l (j+((bf fw g d).map (!·)).length) t e)->Q w H':=q
 rw[cw]at q
 have op:o≠p:=fun z=>nP (d5.mpr z)
 have gA:=dM.step (j':=j) (t':=!t) (e':=e) dk
 have rL:=cd.kY gA g fv
 obtain⟨fG,fH,eI,li⟩:=cd.draw g rL
 refine⟨_,(aI (iW (jA lR ff ax (ab 1) (hk:=by omega)))
  (aI (bO 2 Km.bo (ij lM ax (ed (ab 0) rfl) (al (ab 1) aB) (hk:=by omega)))
  (aI (iW (jA lR ff ax (ab 1) (hk:=by omega)))
  (aR (bB (ab 2)))))),?_⟩
 try dsimp only[c4,c5,c6,c7]
 refine⟨_,I,p,ak,_,I,dk,ly _ _ _ _ (by decide+kernel) (by decide+kernel) (by decide+kernel),p,ak,l,j,t,e,0,I,dk,?_⟩
 refine⟨_,I,o,c.o 2,kc,_,_,I,gA.k _ _ op aH,T.cl,T.nO,ia ..,i,slot g,fG,fH,I,eI,li,?_⟩
 refine⟨_,I,i,p,ak,g,d,l,j,!t,e,X,I,I,rL,hZ,ir,aG,aD,b2,eB,dM.alloc gA aG dJ,az,Yf dt,fun v av M2 dh gT=>?_⟩
 have ju:=dM.step (j':=j+(bf fw g d).length) (t':=t) (e':=e) gT
 refine⟨_,I,p,ak,_,I,gT,ly _ _ _ _ (by decide+kernel) (by decide+kernel) (by decide+kernel),p,ak,l,_,!t,e,0,I,gT,?_⟩
 rw[Bool.not_not]
 have M:=(gA.trans M2).trans ju
 exact⟨_,I,_,M.sub aG,q _ _ M (c8.keep (fun b u n e=>ju.k b u (fun z=>n (by rw[z];exact eB)) e) d dh) aG⟩
theorem dM.Pl{lv:af}{ws:List V}(bg:H lv=aw)(m:dM p H H1)(ai:H1 lv=J (.lst vs)):dM p H (upd H1 lv (.lst ws)) :=
 ⟨fun b u n e=>by rw[bK (fun z=>by rw[z,bg]at e;cases e)];exact m.k b u n e,fun cl=>xp ai (m.c cl)⟩
theorem AL(ds:List α)(k:Nat)(f:α->List Bool):(ds.map f).flatten=((ds.take k).map f).flatten++((ds.drop k).map f).flatten:=by
 rw[<-List.flatten_append,<-fo,List.take_append_drop]
theorem T9(nb:dT mg)(pR:gX mg "MOST_VALUES" (.int 60))(ff:fY K C)(T:kL K (c.o 1))(F:dG K "draw" "Many.draw" Az f fd)(gY:hb P w K mg base 1 C "draw" ["self"] (o5 C))(lQ:hb P w K mg base 1 C "refuse" ["self"] ua)(lM:hq P w K mg base (2*n+4) "draw" ["self","source"] (fW c) (km has bc fw c C n)):de P w K mg base dv (2*n+4+1) f fd ["self","source"] (km has bc fw c C (n+1) (.o 1)):=by
 refine F.fK Kx (fun bx A _ s H vs Q E ax h=>?_)
 obtain⟨o,p,ak,cm,d,l,j,t,e,X,rfl,hs,dr,aL,di,dk,aD,b2,eB,dJ,az,dt,q⟩:=h
 obtain⟨g,rfl⟩:=qd hs
 obtain⟨nP,kc,i,aH,fv⟩:=dr
 have hZ:=aL.one
 have ir:aM g<=n:=by rw[aM]at di;omega
 rw[bw]at az
 rw[bf]at q dt
 have az:tK (bw bc g) d=ah:=az
 cases d with
 | lst ds =>
  have az:(decide (ds.length<=60)&&ds.all (bw bc g))=ah:=az
  obtain⟨BQ,fI⟩:=mr.mp az
  have BQ:=hg BQ
  have fI:=e9.mp fI
  have dt:((ds.map fun d=>ah::bf fw g d).flatten++[aF]) <+: sees l t j:=dt
  have q:∀(w:V)(H':aq),dM p H H'->c8 X H' (.lst ds) w->H' p=J (e5 C ak l (j+((ds.map fun d=>ah::bf fw g d).flatten++[aF]).length) t e)->Q w H':=q
  have op:o≠p:=fun z=>nP (d5.mpr z)
  refine⟨_,(aI (bO 2 Kx.bo (h6 aB))
  (aI (ro h2.never (b0 c2 (jA gY ff ax (ab 1) (hk:=by omega)) aC)
   (aI (cE (b0 c2 (b9 du rfl nb.dn dq (al (ab 2) aB)) (lV pR)) (aR (iW (jA lQ ff ax (ab 1) (hk:=by omega)))) cF)
   (aR (iW (hV PySem.F.plainAttrs_list PySem.F.slot_list_append PySem.F.type_list_append qo (ab 2) (al (ij lM ax (ed (ab 0) rfl) (al (ab 1) aB) (hk:=by omega)) aB))))))
  (aR (bB (ab 2))))),?_⟩
  try dsimp only[c4,c5,c6,c7]
  refine⟨UF _,fun lv tB=>?_⟩
  have mQ:p≠lv:=fun z=>by rw[<-z,dk]at tB;cases tB
  have adC:lv∉X:=fun z=>by obtain⟨u,cC⟩:=dJ lv z;rw[tB]at cC;cases cC
  have xa:dM p H (upd H lv (.lst [])):=⟨fun b u _ e=>dg tB b u e,fun cl=>uV cl tB trivial⟩
  refine⟨fun m U av=>∃(k:Nat)(vs:List V),k<=ds.length/\m=ds.length-k/\U=[J (.ref o),J (.ref p),J (.ref lv)]/\dM p H av/\av lv=J (.lst vs)/\bP (fU.s5 lv X) av (ds.take k) vs/\av p=J (e5 C ak l (j+(((ds.take k).map fun d=>ah::bf fw g d).flatten).length) t e),⟨ds.length,0,[],UF _,I,I,xa,aG,I,dg tB _ _ dk⟩,?_⟩
  rintro m U av ⟨k,vs,hk,rfl,rfl,M2,fQ,dh,gT⟩
  have i3:=dt
  rw[AL ds k,gD]at i3
  have i3:=sX i3
  have vN:=rn (qe (by have:=dt;rw[AL ds k,gD]at this;exact this)) b2
  generalize yh:j+(((ds.take k).map fun d=>ah::bf fw g d).flatten).length=ki at gT i3 vN
  refine⟨_,I,p,ak,_,I,gT,ly _ _ _ _ (by decide+kernel) (by decide+kernel) (by decide+kernel),?_⟩
  have ju:=dM.step (j':=ki+1) (t':=t) (e':=e) gT
  have jl:=bh.len _ (bP.at _ dh)
  rcases g4 k ds.length with z|z
  ·have kT:ds.drop k=ds[k]::ds.drop (k+1):=nc z
   rw[kT,fD,j8,List.cons_append,List.cons_append]at i3
   obtain⟨jR,gJ,gK⟩:=sU i3
   refine⟨p,ak,l,ki,t,e,jR,I,⟨_,gT⟩,aD,gJ,?_⟩
   rw[gK]
   refine⟨I,_,I,e3 ⟨_,fun _ _ h=>h,?_⟩⟩
   have l6:=ju.k _ _ (eF mQ) fQ
   have pS:bP (fU.s5 lv X) _ (ds.take k) vs:=bP.keep (fun b u nb e=>ju.k b u (fun z=>nb (fU.dd (by rw[z];exact eB))) e) _ dh
   have qg:=M2.trans ju
   have tl:upd av p (e5 C ak l (ki+1) t e) p=_:=aG
   generalize upd av p (e5 C ak l (ki+1) t e)=bQ at ju l6 pS qg tl ⊢
   have oP:(ds.take k).length=k:=by rw[ht];omega
   refine⟨_,I,_,_,I,.inl ⟨_,bb l6,I⟩,I,_,I,fx (by intro z;have:=V.int.inj z;omega) ?_⟩
   have ND:=cd.kY qg g fv
   obtain⟨fG,fH,eI,li⟩:=cd.draw g ND
   have HW:(bf fw g ds[k]++(((ds.drop (k+1)).map fun d=>ah::bf fw g d).flatten++[aF])) <+: sees l t (ki+1):=by
    rw[<-gD]
    exact sX (r:=[ah]) i3
   have yi:=rn (qe (r:=[ah]) i3) vN
   rw[ku]at yi
   refine⟨_,I,.inl ⟨I,_,bb l6⟩,?_⟩
   refine⟨_,I,o,c.o 1,kc,_,_,I,qg.k _ _ op aH,T.cl,T.nO,ia ..,i,slot g,fG,fH,I,eI,li,?_⟩
   refine⟨_,I,i,p,ak,g,ds[k],l,ki+1,t,e,fU.s5 lv X,I,I,ND,hZ,ir,tl,aD,yi,fU.dd eB,?_,fI _ (List.getElem_mem z),qe HW,fun v fZ qh rQ rM=>?_⟩
   ·intro x ao
    rcases ao with rfl|ao
    .exact⟨_,l6⟩
    .exact dM.alloc qg tl dJ x ao
   have Oc:=qh.k _ _ (eF mQ) l6
   have Sm:=qg.trans qh
   refine⟨lv,_,_,I,I,Oc,fB (show vs.length<100000 by omega) (by decide),?_⟩
   refine⟨ds.length-(k+1),by omega,k+1,vs++[v],by omega,rfl,rfl,dM.Pl tB Sm Oc,aG,?_,?_⟩
   ·rw[<-List.take_append_getElem z]
    refine bP.keep (fun b u nb e=>by rw[bK (fun z=>nb (by rw[z];exact fU.hd))];exact e) _ (bP.snoc rQ _ ?_)
    exact bP.keep (fun b u nb e=>qh.k b u (fun z=>nb (fU.dd (by rw[z];exact eB))) e) _ pS
   ·rw[bK mQ,rM]
    have xQ:ki+1+(bf fw g ds[k]).length=j+(((ds.take (k+1)).map fun d=>ah::bf fw g d).flatten).length:=by
     rw[<-List.take_append_getElem z,fo,List.flatten_append,dX]
     simp only[fD,List.map_nil,j8,List.flatten_nil,List.append_nil,d6]
     omega
    rw[xQ]
  ·have vP:k=ds.length:=by omega
   subst vP
   rw[List.drop_length,List.map_nil,List.flatten_nil,List.nil_append]at i3
   rw[List.take_length]at yh dh jl
   obtain⟨jR,gJ,gK⟩:=sU i3
   refine⟨p,ak,l,ki,t,e,jR,I,⟨_,gT⟩,aD,gJ,?_⟩
   rw[gK]
   refine⟨I,_,I,dW ?_⟩
   have M:=M2.trans ju
   refine⟨_,I,_,M.sub aG,q _ _ M ⟨lv,vs,I,adC,?_,?_,by omega⟩ ?_⟩
   .rw[bK (eF mQ)];exact fQ
   .exact bP.keep (fun b u nb e=>ju.k b u (fun z=>nb (by rw[z];exact eB)) e) _ (bP.weak (fun x ao=>fU.dd ao) _ dh)
   ·rw[aG,dX,ku,<-yh]
    congr 2
 |_=>cases az
theorem uU{K:bM}{a:af}{D:af}(Inv:Nat->List V->aq->Prop)(S:St->Prop)(bz:xs.length<=100000)(bg:S eV)
  (aD:∀i aA av,Inv i aA av->cK K av a xs) (ai:Inv 0 [] (upd H D (.lst [])))
  (aM:∀i x,xs[i]?=J x->∀aA bL H1,S bL->Inv i aA H1->H1 D=J (.lst aA)->aA.length=i->∀R:St->V->aq->Prop,(∀bu y bQ,S bu->bQ D=J (.lst aA)->Inv (i+1) (aA++[y]) (upd bQ D (.lst (aA++[y])))->R bu y bQ)->g x bL H1 fun bu av=>cI bu av fun y bQ=>R bu y bQ)
  (bj:∀(aA:List V)(H':aq),aA.length=xs.length->H' D=J (.lst aA)->Inv xs.length aA H'->Q (.ref D) H') :
  lO (pv K a) g pY cI Q eV H D:=by
 refine⟨fun i m bL av=>i<=xs.length/\m=xs.length-i/\S bL/\∃aA:List V,aA.length=i/\av D=J (.lst aA)/\Inv i aA av,⟨xs.length,UF _,I,bg,[],I,aG,ai⟩,?_⟩
 rintro i m bL av ⟨ay,rfl,aj,aA,aU,iZ,cG⟩
 have fQ:=aD i aA av cG
 rcases g4 i xs.length with z|z
 ·refine .inr ⟨⟨xs,xs[i],fQ,cp z⟩,?_⟩
  rintro x bQ ⟨rfl,ao⟩
  have ao:=ao xs fQ
  refine aM i x ao aA bL _ aj cG iZ aU (fun bu y d9=>∃zs bY,d9 D=J (.lst zs)/\zs.length<cj/\bY<xs.length-i/\(i+1<=xs.length/\bY=xs.length-(i+1)/\S bu/\∃ws:List V,ws.length=i+1/\upd d9 D (.lst (zs++[y])) D=J (.lst ws)/\Inv (i+1) ws (upd d9 D (.lst (zs++[y]))))) fun bu y d9 fS G4 Ha=>?_
  exact⟨aA,xs.length-(i+1),G4,fB (show aA.length<100000 by omega) (by decide),by omega,by omega,rfl,fS,aA++[y],by rw[dX,aU];rfl,aG,Ha⟩
 ·have e:i=xs.length:=by omega
  subst e
  exact .inl ⟨⟨xs,fQ,b8 _⟩,bj aA av aU iZ cG⟩
theorem YU(nb:dT mg)(T:na K (c.t 0))(F:dG K "draw" "Record.draw" zX f fd)(lM:hq P w K mg base (2*n+4) "draw" ["self","source"] (fW c) (km has bc fw c C n)):de P w K mg base dv (2*n+4+1) f fd ["self","source"] (km has bc fw c C (n+1) (.t 0)):=by
 refine F.fK VR (fun bx A _ s H vs Q E ax h=>?_)
 obtain⟨o,p,ak,cm,d,l,j,t,e,X,rfl,hs,dr,aL,di,dk,aD,b2,eB,dJ,az,dt,q⟩:=h
 obtain⟨ns,fs,rfl⟩:=u4 hs
 obtain⟨nP,kc,a1,a2,os,aH,eC,dc,ai,aj,oC⟩:=dr
 obtain⟨gr,i2,hZ⟩:=aL.two
 have ir:f7 fs<=n:=by rw[aM]at di;omega
 have nD:=eK.len fs oC
 have vR:=(lX gr).1
 rw[bw]at az
 rw[bf]at q dt
 cases d with
 | tup ds =>
  have az:ej bc fs ds=ah:=az
  have ip:ds.length=fs.length:=by
   rcases Nat.decEq ds.length fs.length with z|z
   .rw[A4 bc fs ds z]at az;cases az
   .exact z
  rw[A5 bc fs ds ip]at az
  have fI:=e9.mp az
  have dt:gk fw fs ds <+: sees l t j:=dt
  have q:∀(w:V)(H':aq),dM p H H'->c8 X H' (.tup ds) w->H' p=J (e5 C ak l (j+(gk fw fs ds).length) t e)->Q w H':=q
  rw[AP fw fs ds ip]at dt q
  have op:o≠p:=fun z=>nP (d5.mpr z)
  have ZC:a2≠p:=fun z=>dc (d5.mpr z)
  have BG:∀{i:Nat}{x:D},ds[i]?=J x->ds.getD i .aT=x:=fun h=>by rw[dN,h];rfl
  have Gx:∀{i:Nat}{x:ba},fs[i]?=J x->fs.getD i (.bare 0)=x:=fun h=>by rw[dN,h];rfl
  obtain⟨pl,gx⟩:∃pl:Nat->Nat,pl=fun i=>j+(((List.range i).map fun i=>bf fw (fs.getD i (.bare 0)) (ds.getD i .aT)).flatten).length:=⟨_,rfl⟩
  have aeW:∀i,pl (i+1)=pl i+(bf fw (fs.getD i (.bare 0)) (ds.getD i .aT)).length:=fun i=>by
   rw[gx]
   show j+_=j+_+_
   rw[List.range_succ,fo,List.flatten_append,dX]
   simp only[fD,List.map_nil,j8,List.flatten_nil,List.append_nil]
   omega
  have ahb:∀i,i<fs.length->bf fw (fs.getD i (.bare 0)) (ds.getD i .aT) <+: sees l t (pl i)/\pl i<=l.length:=fun i ay=>by
   have h:=dt
   rw[AL (List.range fs.length) i]at h
   have iY:(List.range fs.length).take i=List.range i:=by rw[List.take_range,Nat.min_eq_left (by omega)]
   have kT:(List.range fs.length).drop i=i::(List.range fs.length).drop (i+1):=by
    rw[nc (by rw[kQ];exact ay),List.getElem_range]
   rw[iY,kT,fD,j8]at h
   have aj:=rn (qe h) b2
   have bE:=qe (sX h)
   rw[gx]
   exact⟨bE,aj⟩
  refine⟨_,(aR (bB (mw Ku I nb.q1 ql (al (ik ["form"] [(1,"source")] I (by decide+kernel) ⟨I,.inl I,trivial⟩ (h0 (ed (ab 0) I)) (fun _ _ _ _ _=>(d7 (i:=0) (show(["form","source"]:List ae).Nodup by decide+kernel))) (fun _ _ _ _ _=>hu) (fun _ _ _ _ _=>(ij lM ax (ab 0) (al (ab 1) aB) (hk:=by omega)))) aB)))),?_⟩
  try dsimp only[c4,c5,c6,c7]
  refine .inl ⟨_,I,o,c.t 0,kc,_,_,I,aH,T.cl,T.kZ,mP _ _ _ _ pN,a2,I,⟨_,bb aj⟩,fun cW d8=>?_⟩
  have IB:p≠cW:=fun z=>by rw[<-z,dk]at d8;cases d8
  have aiM:cW∉X:=fun z=>by obtain⟨u,cC⟩:=dJ cW z;rw[d8]at cC;cases cC
  refine uU (K:=K) (a:=a2) (xs:=os.map V.ref) (fun i aA av=>dM p H av/\bP (fU.s5 cW X) av (ds.take i) aA/\av p=J (e5 C ak l (pl i) t e)) (fun U=>∃z,U=[z,J (.ref p)]) (by rw[cw];omega) ⟨_,I⟩ ?_ ?_ ?_ ?_
  ·rintro i aA av ⟨m,_⟩
   exact bb (m.k _ _ ZC aj)
  .exact⟨⟨fun b u _ e=>dg d8 b u e,fun cl=>uV cl d8 trivial⟩,I,by rw[bK IB,dk,gx];rfl⟩
  ·rintro i x ao aA bL H1 ⟨z,rfl⟩ ⟨fj,i0,tk⟩ kA kh R b1
   rw[eL]at ao
   obtain⟨O7,acD,rfl⟩:=Uf.mp ao
   obtain⟨BP,Hw,aby⟩:=eK.get fs oC acD
   obtain⟨mJ,vM⟩:=hZ.get Hw
   have ay:i<fs.length:=(g5.mp Hw).1
   have abS:ds[i]?=J ds[i]:=cp (by omega)
   obtain⟨Ot,acL⟩:=ahb i ay
   have N3:=fI i (List.mem_range.mpr ay)
   have oN:=aeW i
   rw[Gx Hw,BG abS]at Ot N3 oN
   have NC:=cd.kY fj BP aby
   obtain⟨fG,fH,eI,li⟩:=cd.draw BP NC
   refine⟨_,I,O7,slot BP,fG,fH,I,eI,li,?_⟩
   refine⟨_,I,O7,p,ak,BP,ds[i],l,pl i,t,e,fU.s5 cW X,I,I,NC,mJ,by omega,tk,aD,acL,fU.dd eB,?_,N3,Ot,fun v fZ qh rQ rM=>?_⟩
   ·intro x ao
    rcases ao with rfl|ao
    .exact⟨_,kA⟩
    .exact dM.alloc fj tk dJ x ao
   have x5:=qh.k _ _ (eF IB) kA
   refine b1 _ _ _ ⟨_,I⟩ x5 ⟨dM.Pl d8 (fj.trans qh) x5,?_,?_⟩
   ·rw[<-List.take_append_getElem (by omega)]
    refine bP.keep (fun b u nb e=>by rw[bK (fun z=>nb (by rw[z];exact fU.hd))];exact e) _ (bP.snoc rQ _ ?_)
    exact bP.keep (fun b u nb e=>qh.k b u (fun z=>nb (fU.dd (by rw[z];exact eB))) e) _ i0
   .rw[bK IB,rM,oN]
  ·rintro aA av kh kA ⟨kD,dh,gT⟩
   rw[cw]at kh dh gT
   rw[UV (by omega)]at dh
   refine⟨cW,aA,I,.inl ⟨bb kA,fun kN mC=>?_⟩⟩
   have Sx:kN∉X:=fun z=>by obtain⟨u,cC⟩:=dM.alloc kD gT dJ kN z;rw[mC]at cC;cases cC
   have Pd:p≠kN:=fun z=>by rw[<-z,gT]at mC;cases mC
   have OR:dM p H (upd av kN (.tup aA)):=kD.ext (Ext.tup mC)
   refine⟨_,OR.sub (by rw[bK Pd];exact gT),q _ _ OR ⟨kN,aA,I,Sx,aG,bP.same (dg mC) (bP.weak (fun x ao=>fU.dd ao) _ dh),by omega⟩ ?_⟩
   rw[bK Pd,gT,nD,gx]
 |_=>cases az
theorem X1(nb:dT mg)(pQ:gX mg "LONGEST_TEXT" (.int 200))(ff:fY K C)(T:sG K c.l)(F:dG K "draw" "Letters.draw" zO f fd)(gY:hb P w K mg base 1 C "draw" ["self"] (o5 C))(lQ:hb P w K mg base 1 C "refuse" ["self"] ua)(n7:bq P w K mg base 2 "draw_fixed" ["source","most"] (y5 C)):de P w K mg base dv 4 f fd ["self","source"] (km has bc fw c C n .l):=by
 refine F.fK Es (fun bx A _ s H vs Q E ax h=>?_)
 obtain⟨o,p,ak,cm,d,l,j,t,e,X,rfl,hs,dr,aL,di,dk,aD,b2,eB,dJ,az,dt,q⟩:=h
 obtain⟨cb,rfl⟩:=FY hs
 obtain⟨nP,kc,aH⟩:=dr
 rw[bw]at az
 rw[bf]at q dt
 cases d with
 | str w =>
  have az:(decide (w.length<=200)&&i6 w cb)=ah:=az
  obtain⟨vx,hm⟩:=mr.mp az
  have vx:=hg vx
  have tD:oz cb=ah/\cb.length<=60:=by have:=aL.1;rw[mR]at this;exact this
  obtain⟨cs,oI⟩:∃cs,cs=w.cps.toList:=⟨_,rfl⟩
  have mE:cs.length=w.length:=by rw[oI];exact iB
  have dt:((w.cps.toList.map fun c=>ah::dj (cb.cps.toList.idxOf c) (aE (cb.length-1))).flatten++[aF]) <+: sees l t j:=dt
  have q:∀(v:V)(H':aq),dM p H H'->c8 X H' (.str w) v->H' p=J (e5 C ak l (j+((w.cps.toList.map fun c=>ah::dj (cb.cps.toList.idxOf c) (aE (cb.length-1))).flatten++[aF]).length) t e)->Q v H':=q
  rw[<-oI]at dt q
  have qM:∀ch,ch∈cs->ch∈cb.cps.toList:=fun ch h=>hg (e9.mp hm ch (by rw[<-oI];exact h))
  have op:o≠p:=fun z=>nP (d5.mpr z)
  refine⟨_,(aI (bO 2 Es.bo cT)
  (aI (ro h2.never (b0 c2 (jA gY ff ax (ab 1)) aC)
   (aI (cE (b0 c2 (b9 du rfl nb.dn dq (al (ab 2) aB)) (lV pQ)) (aR (iW (jA lQ ff ax (ab 1)))) cF)
   (aR (bO 2 Es.bo (aN eb (ab 2) (bG bH (ed (ab 0) rfl) (b6 n7 ax (al (ab 1) (al (aN gj (b9 du rfl nb.dn dq (al (ed (ab 0) rfl) aB)) aC) aB)))))))))
  (aR (bB (ab 2))))),?_⟩
  try dsimp only[c4,c5,c6,c7]
  refine⟨fun m U av=>∃k:Nat,k<=cs.length/\m=cs.length-k/\U=[J (.ref o),J (.ref p),J (.str ⟨(cs.take k).toArray⟩)]/\dM p H av/\av p=J (e5 C ak l (j+(((cs.take k).map fun c=>ah::dj (cb.cps.toList.idxOf c) (aE (cb.length-1))).flatten).length) t e),⟨cs.length,0,UF _,I,by rw[List.take_zero];rfl,dM.refl _ _,dk⟩,?_⟩
  rintro m U av ⟨k,hk,rfl,rfl,M2,gT⟩
  have i3:=dt
  rw[AL cs k,gD]at i3
  have vN:=rn (qe i3) b2
  have i3:=sX i3
  generalize yh:j+(((cs.take k).map fun c=>ah::dj (cb.cps.toList.idxOf c) (aE (cb.length-1))).flatten).length=ki at gT i3 vN
  refine⟨_,I,p,ak,_,I,gT,ly _ _ _ _ (by decide+kernel) (by decide+kernel) (by decide+kernel),?_⟩
  have ju:=dM.step (j':=ki+1) (t':=t) (e':=e) gT
  rcases g4 k cs.length with z|z
  ·have kT:cs.drop k=cs[k]::cs.drop (k+1):=nc z
   rw[kT,fD,j8,List.cons_append,List.cons_append]at i3
   obtain⟨jR,gJ,gK⟩:=sU i3
   refine⟨p,ak,l,ki,t,e,jR,I,⟨_,gT⟩,aD,gJ,?_⟩
   rw[gK]
   refine⟨I,_,I,e3 ⟨_,fun _ _ h=>h,?_⟩⟩
   have qg:=M2.trans ju
   have tl:upd av p (e5 C ak l (ki+1) t e) p=_:=aG
   generalize upd av p (e5 C ak l (ki+1) t e)=bQ at ju qg tl ⊢
   have oP:(⟨(cs.take k).toArray⟩:ae).length=k:=by show(cs.take k).toArray.size=k;rw[eo,ht];omega
   have HW:(dj (cb.cps.toList.idxOf cs[k]) (aE (cb.length-1))++(((cs.drop (k+1)).map fun c=>ah::dj (cb.cps.toList.idxOf c) (aE (cb.length-1))).flatten++[aF])) <+: sees l t (ki+1):=by
    rw[<-gD]
    exact sX (r:=[ah]) i3
   have yi:=rn (qe (r:=[ah]) i3) vN
   rw[ku]at yi
   have vG:=qe HW
   have qK:=rn vG yi
   have f7:=Fo vG
   rw[iV]at qK f7
   have h9:cb.cps.toList.idxOf cs[k]<cb.length:=by
    have:=List.idxOf_lt_length_iff.mpr (qM _ (List.getElem_mem z))
    rwa [iB]at this
   have qh:=dM.step (j':=ki+1+aE (cb.length-1)) (t':=t) (e':=e) tl
   have aV:(cb.length:Int)-1=((cb.length-1:Nat):Int):=by omega
   have Oj:=qg.k _ _ op aH
   have jk:ey cb.cps.toList ((cb.cps.toList.idxOf cs[k]:Nat):Int)=J cs[k]:=by
    refine cB ?_
    rw[cp (by rw[iB];exact h9),List.getElem_idxOf]
   refine⟨_,I,_,_,I,⟨fb (by omega),I⟩,I,_,I,fx (by intro z;have:=V.int.inj z;omega) ?_⟩
   refine⟨_,I,_,I,o,c.l,kc,_,_,I,Oj,T.cl,T.md,ia ..,?_⟩
   refine⟨_,I,_,I,o,c.l,kc,_,_,I,Oj,T.cl,T.md,ia ..,_,_,I,⟨fb (by omega),I⟩,_,_,I,I,p,ak,l,ki+1,cb.cps.toList.idxOf cs[k],cb.length-1,t,e,by rw[<-aV];rfl,tl,aD,by omega,qK,f7,?_⟩
   refine .inr ⟨_,_,cs[k],I,I,fb (by omega),jk,.inr ⟨_,_,I,I,fb (by rw[oP];exact dE (Nat.add_le_add (show k<=300 by omega) (b8 1)) (by decide)),?_⟩⟩
   refine⟨cs.length-(k+1),by omega,k+1,by omega,rfl,?_,qg.trans qh,?_⟩
   ·have es:(⟨(cs.take k).toArray⟩:ae)++(⟨#[cs[k]]⟩:ae)=⟨(cs.take (k+1)).toArray⟩:=by
     rw[<-List.take_append_getElem z]
     apply vb
     rw[vf]
    rw[es];rfl
   ·rw[aG]
    have xQ:ki+1+aE (cb.length-1)=j+(((cs.take (k+1)).map fun c=>ah::dj (cb.cps.toList.idxOf c) (aE (cb.length-1))).flatten).length:=by
     rw[<-List.take_append_getElem z,fo,List.flatten_append,dX]
     simp only[fD,List.map_nil,j8,List.flatten_nil,List.append_nil,d6,iV]
     omega
    rw[xQ]
  ·have vP:k=cs.length:=by omega
   subst vP
   rw[List.drop_length,List.map_nil,List.flatten_nil,List.nil_append]at i3
   rw[List.take_length]at yh
   obtain⟨jR,gJ,gK⟩:=sU i3
   refine⟨p,ak,l,ki,t,e,jR,I,⟨_,gT⟩,aD,gJ,?_⟩
   rw[gK]
   refine⟨I,_,I,dW ?_⟩
   have M:=M2.trans ju
   refine⟨_,I,_,M.sub aG,q _ _ M ⟨?_,by omega⟩ ?_⟩
   .rw[List.take_length,oI]
   ·rw[aG,dX,ku,<-yh]
    congr 2
 |_=>cases az
noncomputable def idxs(s t:ae):List Nat:=t.cps.toList.map fun c=>s.cps.toList.idxOf c
inductive Qm(C:af)(vs:List V)(H:aq)(Q:bJ)(E:cN):Prop where
 |mk (o ak:af) (s t:ae) (bg:vs=[.ref o,.str t]) (ai:H o=J (.ins C ak [("signs",.str s)])) (aj:i6 t s=ah) (bE:t.length<=200) (cQ:∀r,H r=aw->Q (.ref r) (upd H r (.lst ((idxs s t).map fun k=>V.int ((k:Nat):Int))))):Qm C vs H Q E
def I2(C:af):cD:=fun vs H Q E=>Qm C vs H Q E
theorem Vg(T:sG K C)(F:dG K "places" "Letters.places" Af f fd):de P w K mg base dv 1 f fd ["self","text"] (I2 C):=by
 refine F.fK Va (fun bx A _ s H vs Q E ax h=>?_)
 obtain⟨o,ak,cb,t,rfl,aH,hm,aD,q⟩:=h
 refine⟨_,(aR (bB (ik ["sign"] [(0,"self")] I (by decide+kernel) ⟨I,.inl I,trivial⟩ (h0 (ab 1)) (fun _ _ _ _ _=>(d7 (i:=0) (show(["sign","self"]:List ae).Nodup by decide+kernel))) (fun _ _ _ _ _=>hu) (fun _ _ _ _ _=>(hV PySem.F.plainAttrs_str PySem.F.slot_str_index PySem.F.type_str_index Fj (ed (ab 1) rfl) (al (ab 0) aB)))))),?_⟩
 try dsimp only[c4,c5,c6,c7]
 refine .inr ⟨_,I,_,I,fun D dB=>?_⟩
 refine A8 (fun c=>V.int ((cb.cps.toList.idxOf c:Nat):Int)) (fun U=>∃z,U=[z,J (.ref o)]) (fb (by show t.length<=_;omega)) ⟨_,I⟩ dB ?_ ?_
 ·rintro ch hc bL H1 ⟨z,rfl⟩ er R b1
  refine⟨_,I,o,C,ak,_,_,I,er _ _ aH,T.cl,T.md,ia ..,?_⟩
  exact⟨I,_,I,cb,ch,I,I,hg (e9.mp hm ch hc),b1 _ ⟨_,I⟩⟩
 ·refine⟨_,.new dB (dg dB) aG trivial,?_⟩
  have q:=q D dB
  unfold idxs at q
  rw[gE]at q
  exact q
theorem U7(nb:dT mg)(T:sG K c.l)(F:dG K "written" "Letters.written" Wp f fd)(ff:fY K c.l)(xc:hb P w K mg base 1 c.l "places" ["self","text"] (I2 c.l))(n8:bq P w K mg base 2 "fixed_row" ["n","most"] y6):de P w K mg base dv 3 f fd ["self","value"] (jI has bc fw c n .l):=by
 refine F.fK Kd (fun bx A _ s H vs Q E ax h=>?_)
 obtain⟨o,cm,v,d,rfl,hs,dr,aL,di,hd,az,aD,q⟩:=h
 obtain⟨cb,rfl⟩:=FY hs
 obtain⟨_,ak,aH⟩:=dr
 rw[bw]at az
 rw[bf]at q aD
 cases d with
 | str t =>
  obtain⟨rfl,_⟩:=hd
  have az:(decide (t.length<=200)&&i6 t cb)=ah:=az
  obtain⟨vx,hm⟩:=mr.mp az
  have vx:=hg vx
  have tD:oz cb=ah/\cb.length<=60:=by have:=aL.1;rw[mR]at this;exact this
  refine⟨_,(aI (bO 2 Kd.bo (aN gj (b9 du I nb.dn dq (al (ed (ab 0) I) aB)) aC))
  (aR (bB (aN eb (hV PySem.F.plainAttrs_str PySem.F.slot_str_join PySem.F.type_str_join sY cT (al (ik ["place"] [(2,"most")] rfl (by decide+kernel) ⟨rfl,.inl rfl,trivial⟩ (h0 (xw xc ff ax (ab 0) (al (ab 1) aB))) (fun _ _ _ _ _=>(d7 (i:=0) (show(["place","most"]:List ae).Nodup by decide+kernel))) (fun _ _ _ _ _=>hu) (fun _ _ _ _ _=>(aN eb cT (b6 n8 ax (al (ab 0) (al (ab 1) aB)))))) aB)) cT)))),?_⟩
  try dsimp only[c4,c5,c6,c7]
  have q:Q (.str (aP ((t.cps.toList.map fun c=>ah::dj (cb.cps.toList.idxOf c) (aE (cb.length-1))).flatten++[aF]))) H:=q
  have aD:((t.cps.toList.map fun c=>ah::dj (cb.cps.toList.idxOf c) (aE (cb.length-1))).flatten++[aF]).length<=15000000:=aD
  rw[dX]at aD
  refine⟨_,I,o,c.l,ak,_,_,I,aH,T.cl,T.md,ia ..,_,_,I,⟨fb (by omega),I⟩,_,_,I,I,?_⟩
  have aey:List.lookup (ae.ofString "places") [(ae.ofString "signs",V.str cb)]=aw:=by
   unfold List.lookup
   rw[show(ae.ofString "places" == ae.ofString "signs")=aF by decide+kernel]
   rfl
  refine⟨I,.inl ⟨_,I,o,ak,_,I,aH,aey,_,I,o,ak,cb,t,I,aH,hm,vx,fun r fJ=>?_⟩⟩
  have ajJ:(idxs cb t).length=t.length:=by unfold idxs;rw[cw];exact iB
  refine⟨r,I,⟨_,bb aG⟩,fun cW d8=>?_⟩
  refine xo (K:=K) (a:=r) (xs:=(idxs cb t).map fun k=>V.int ((k:Nat):Int)) (fun k=>V.str (aP (ah::dj ((idxs cb t).getD k 0) (aE (cb.length-1))))) (fun U=>∃z,U=[z,J (V.int ((cb.length:Int)-1))]) (fb (by rw[cw];omega)) ⟨_,I⟩ d8 (bb aG) ?_ ?_
  ·rintro k x ao bL H1 ⟨z,rfl⟩ er R b1
   rw[eL]at ao
   obtain⟨oU,tx,rfl⟩:=Uf.mp ao
   have e:(idxs cb t).getD k 0=oU:=by rw[dN,tx];rfl
   rw[e]at b1
   have HB:=tx
   unfold idxs at HB
   rw[eL]at HB
   obtain⟨ch,nA,rfl⟩:=Uf.mp HB
   have eX:ch∈t.cps.toList:=fE nA
   have oI:ch∈cb.cps.toList:=hg (e9.mp hm ch eX)
   have h9:cb.cps.toList.idxOf ch<cb.length:=by
    have:=List.idxOf_lt_length_iff.mpr oI
    rwa [iB]at this
   have aY:=A0 (List.mem_map_of_mem (f:=fun c=>ah::dj (cb.cps.toList.idxOf c) (aE (cb.length-1))) eX)
   rw[d6,iV]at aY
   have aV:(cb.length:Int)-1=((cb.length-1:Nat):Int):=by omega
   refine⟨_,I,_,I,cb.cps.toList.idxOf ch,cb.length-1,by rw[<-aV];rfl,by omega,by omega,.inr ⟨_,_,rfl,rfl,jn ?_,?_⟩⟩
   .rw[vc,eG,eG,iV];simp only[d6,List.length_nil];omega
   .rw[vc,ka];exact b1 _ ⟨_,I⟩
  ·have e:(List.range ((idxs cb t).map fun k=>V.int ((k:Nat):Int)).length).map (fun k=>V.str (aP (ah::dj ((idxs cb t).getD k 0) (aE (cb.length-1)))))=((t.cps.toList.map fun c=>ah::dj (cb.cps.toList.idxOf c) (aE (cb.length-1))).map aP).map V.str:=by
    rw[cw]
    apply List.ext_getElem
    .unfold idxs;simp
    ·intro k ai aj
     have bE:k<t.cps.toList.length:=by simpa using aj
     have gh:(idxs cb t)[k]?=J (cb.cps.toList.idxOf t.cps.toList[k]):=by unfold idxs;rw[eL,cp bE];rfl
     rw[j7,j7,j7,j7,List.getElem_range,dN,gh];rfl
   rw[e]
   have y3:=(dg (o:=df.lst ((idxs cb t).map fun k=>V.int ((k:Nat):Int))) fJ).trans (dg (o:=df.lst (((t.cps.toList.map fun c=>ah::dj (cb.cps.toList.idxOf c) (aE (cb.length-1))).map aP).map V.str)) d8)
   refine⟨_,cW,_,I,I,bb aG,by rw[AZ];omega,.inr ⟨_,_,rfl,rfl,jn ?_,H,.refl y3,?_⟩⟩
   .rw[rh,Bb,eG,eG];omega
   .rw[rh,Bb,ka];exact q
 |_=>cases az
noncomputable def bV:D->Bool
 |.tup [.int p,.int q]=>decide (0<q/\Int.gcd p q=1/\p.natAbs<=10^38/\q<=10^38)
 |_=>aF
theorem rq{bc:D->Bool}:∀(fs:List ba)(ns:List ae)(n:ae)(x:D),ns.length=fs.length->ke bc fs ns n x=ah->n∈ns
 |[],ns,n,x,_,h=>by rw[ke]at h;cases h
 |f::fs,[],n,x,aD,h=>by cases aD
 | f::fs,m::ns,n,x,aD,h=>by
  rw[ke]at h
  by_cases z:m=n
  .subst z;exact gF ..
  ·have h:(if J m=J n then _ else ke bc fs ns n x)=ah:=h
   rw[if_neg (fun e=>z (e8 e))]at h
   exact en _ (rq fs ns n x (by simpa using aD) h)
theorem rr{bc:D->Bool}{x:D}:∀(fs:List ba)(ns:List ae)(n:ae),n∈ns->ns.length=fs.length->ke bc fs ns n x=bw bc (fs.getD (ns.idxOf n) (.bare 0)) x
 |[],[],n,h,_=>by cases h
 |f::fs,[],n,h,_=>by cases h
 |[],m::ns,n,_,h=>by cases h
 | f::fs,m::ns,n,h,aD=>by
  rw[ke]
  show(if J m=J n then _ else ke bc fs ns n x)=_
  by_cases z:m=n
  ·subst z
   rw[if_pos rfl,List.idxOf_cons_self];rfl
  .rw[if_neg (fun e=>z (e8 e)),rr fs ns n ((c9.mp h).resolve_left (eF z)) (by simpa using aD),List.idxOf_cons,beq_false_of_ne z];rfl
theorem eK.ge{c:eQ}{X:List af}{H:aq}:∀(fs:List ba){os:List af}{i:Nat}{f:ba},eK c X H fs os->fs[i]?=J f->∃o,os[i]?=J o/\cd c X H f o
 |[],os,i,f,h,e=>by cases e
 |g::fs,os,0,f,h,e=>by
  obtain⟨o',r,rfl,q,bX⟩:=h
  cases e
  exact⟨_,I,q⟩
 |g::fs,os,i+1,f,h,e=>by
  obtain⟨o',r,rfl,q,bX⟩:=h
  obtain⟨v,ai,aj⟩:=eK.ge (os:=r) fs bX (show fs[i]?=J f from e)
  exact⟨v,ai,aj⟩
theorem Cz(val:Nat->ae):∀n i,i<n->val i∈gz val n
 |0,i,h=>by omega
 | n+1,i,h=>by
  unfold gz
  by_cases z:i=n
  ·subst z
   split
   .assumption
   .exact mq _ (d5.mpr I)
  ·have:=Cz val n i (by omega)
   split
   .exact this
   .exact List.mem_append_left _ this
theorem Fx(val:Nat->ae):∀n,(gz val n).length=n->∀i j,i<j->j<n->val i≠val j
 |0,_,i,j,_,h=>by omega
 | n+1,h,i,j,HA,b2=>by
  unfold gz at h
  have hle:=xB val n
  by_cases z:val n∈gz val n
  .rw[if_pos z]at h;omega
  ·rw[if_neg z,dX,ku]at h
   by_cases aiJ:j=n
   ·subst aiJ
    exact fun e=>z (by rw[<-e];exact Cz val j i HA)
   .exact Fx val n (by omega) i j HA (by omega)
theorem lp:2<=cj:=by decide
theorem w8{n:ae}(h:lC ns=ah)(e:ns[i]?=J n):ns.idxOf n=i:=by
 unfold lC at h
 simp only[gZ,iR]at h
 have hd:=h.1.2.2
 have ay:i<ns.length:=by
  rcases g4 i ns.length with z|z
  .exact z
  .rw[u0 z]at e;cases e
 have aW:ns[i]=n:=by rw[cp ay]at e;exact e8 e
 have hm:n∈ns:=by rw[<-aW];exact List.getElem_mem ay
 have hk:=og hm
 have vP:ns[ns.idxOf n]=n:=List.getElem_idxOf hk
 have g:∀k(hk:k<ns.length),ns.getD k ae.empty=ns[k]:=fun k hk=>by rw[dN,cp hk];rfl
 rcases Nat.lt_trichotomy (ns.idxOf n) i with z|z|z
 .exact absurd (by rw[g _ hk,g _ ay,vP,aW]) (Fx _ _ hd _ _ z ay)
 .exact z
 .exact absurd (by rw[g _ hk,g _ ay,vP,aW]) (Fx _ _ hd _ _ z hk)
theorem r3{K:bM}{l:List V}{x:V}(h:H p=J (.lst l)\/H p=J (.tup l))(e:l[j]?=J x)(q:Q x H):(IG K (.ref p) (.int ((j:Nat):Int)) H Q\/II K (.ref p) (.int ((j:Nat):Int)) H Q)\/IH (.ref p) (.int ((j:Nat):Int)) H Q :=
 h.elim (fun l0 =>.inl (.inl ⟨_,_,_,_,rfl,rfl,bb l0,cB e,q⟩)) (fun ez =>.inl (.inr ⟨_,_,_,_,rfl,rfl,bI ez,cB e,q⟩))
theorem u5{fw:D->List Bool}{x:D}{M:Nat}:∀(fs:List ba)(ns:List ae)(k:Nat)(n:ae),n∈ns->ns.length=fs.length->mf fw fs ns k M n x=dj (k+ns.idxOf n) (aE M)++bf fw (fs.getD (ns.idxOf n) (.bare 0)) x
 |[],[],k,n,h,_=>by cases h
 |f::fs,[],k,n,h,_=>by cases h
 |[],m::ns,k,n,_,h=>by cases h
 | f::fs,m::ns,k,n,h,aD=>by
  rw[mf]
  show(if J m=J n then _ else mf fw fs ns (k+1) M n x)=_
  by_cases z:m=n
  ·subst z
   rw[if_pos rfl,List.idxOf_cons_self];rfl
  .rw[if_neg (fun e=>z (e8 e)),u5 fs ns (k+1) n ((c9.mp h).resolve_left (eF z)) (by simpa using aD),List.idxOf_cons,beq_false_of_ne z,show k+1+ns.idxOf n=k+(ns.idxOf n+1) by omega];rfl
theorem Vh(nb:dT mg)(T:na K (c.t 1))(F:dG K "written" "Choice.written" Ag f fd)(n8:bq P w K mg base 2 "fixed_row" ["n","most"] y6)(lg:hq P w K mg base (2*n+4) "written" ["self","value"] (fW c) (jI has bc fw c n)):de P w K mg base dv (2*n+4+1) f fd ["self","value"] (jI has bc fw c (n+1) (.t 1)):=by
 refine F.fK Ke (fun bx A _ s H vs Q E ax h=>?_)
 obtain⟨o,cm,v,d,rfl,hs,dr,aL,di,hd,iq,cM,q⟩:=h
 obtain⟨ns,fs,rfl⟩:=u4 hs
 obtain⟨_,ak,cU,cf,os,aH,_,_,g1,g2,fv⟩:=dr
 obtain⟨gr,i2,hZ⟩:=aL.two
 have ir:f7 fs<=n:=by rw[aM]at di;omega
 rw[bw,if_neg (by decide)]at iq
 unfold s4 at iq
 split at iq
 ·rename_i m x
  have hm:=rq fs ns _ _ i2 iq
  rw[rr fs ns _ hm i2]at iq
  obtain⟨t,_,rfl,e,⟨_,_,rfl,⟨rfl,_⟩,nZ,_,rfl,ao,rfl⟩,_⟩:=hd
  have g6:bf fw (.two 1 ns fs) (.tup [.str m,x])=dj (ns.idxOf m) (aE (fs.length-1))++bf fw (fs.getD (ns.idxOf m) (.bare 0)) x:=by
   rw[bf,if_neg (by decide)]
   show mf fw fs ns 0 _ m x=_
   rw[u5 fs ns 0 m hm i2,Nat.zero_add]
  rw[g6]at cM q
  have hk:=og hm
  have yk:ns[ns.idxOf m]?=J m:=by rw[cp hk,List.getElem_idxOf hk]
  have yj:ns.idxOf m<fs.length:=by omega
  have az:=cp yj
  rw[dN,az]at iq cM q
  obtain⟨oW,mH,th⟩:=eK.ge fs fv az
  obtain⟨mJ,vM⟩:=hZ.get az
  obtain⟨fG,fH,eI,li⟩:=cd.written _ th
  have a0:∀(x:V)(r:List V),ey (x::r) 0=J x:=fun x r=>cB (j:=0) rfl
  have a1:∀(x y:V)(r:List V),ey (x::y::r) 1=J y:=fun x y r=>cB (j:=1) rfl
  have vR:=(lX gr).1
  refine⟨_,(aI (bO 2 Ke.bo (hV PySem.F.plainAttrs_list PySem.F.slot_list_index PySem.F.type_list_index xr (ed (ab 0) I) (al (bG bH (ab 1) aC) aB)))
  (aR (bB (aN eb (b6 n8 ax (al (ab 2) (al (aN gj (b9 du rfl nb.dn dq (al (ed (ab 0) rfl) aB)) aC) aB)) (hk:=by omega)) (ij lg ax (bG bH (ed (ab 0) rfl) (ab 2)) (al (bG bH (ab 1) aC) aB) (hk:=by omega)))))),?_⟩
  try dsimp only[c4,c5,c6,c7]
  refine⟨_,I,o,c.t 1,ak,_,_,I,aH,T.cl,T.r6,ia ..,.inl ⟨I,_,bb g1⟩,_,I,.inl (.inr ⟨_,_,_,_,I,I,bI e,a0 _ _,cU,ns,m,ns.idxOf m,I,I,g1,yk,(fun j b2 hw=>by have:=w8 gr hw;omega),by omega,?_⟩)⟩
  have kC:(((ns.map V.str).length:Nat):Int)-1=((fs.length-1:Nat):Int):=by rw[cw];omega
  have ag:aE (fs.length-1)<=16000000:=by
   have:=dE (dX ▸ Nat.le_add_right _ _) cM
   rw[iV]at this
   omega
  refine⟨_,I,_,I,o,c.t 1,ak,_,_,I,aH,T.cl,T.r6,ia ..,_,_,I,.inl ⟨_,bb g1,I⟩,_,_,I,I,ns.idxOf m,fs.length-1,by rw[<-kC];rfl,by omega,ag,?_⟩
  refine⟨_,I,o,c.t 1,ak,_,_,I,aH,T.cl,T.kZ,mP _ _ _ _ pN,_,I,r3 (.inl g2) (show(os.map V.ref)[ns.idxOf m]?=J (V.ref oW) by rw[eL,mH];rfl) ⟨oW,slot _,fG,fH,rfl,eI,li,_,rfl,.inl (.inr ⟨_,_,_,_,rfl,rfl,bI e,a1 _ _ _,oW,_,nZ,x,rfl,rfl,th,mJ,by omega,ao,iq,?_,?_⟩)⟩⟩
  ·rw[dX]at cM
   exact dE (Nat.le_add_left _ _) cM
  ·refine .inr ⟨_,_,I,I,?_,H,.refl (dx _),?_⟩
   ·rw[eG,eG,<-dX]
    exact jn (dE cM (by decide))
   ·rw[<-ka]at q
    exact q
 .cases iq
theorem UM:∀(n:Nat){p q:Int},q.toNat<=n->0<=q->(0<q\/0<=p)->e0 p q∣p/\e0 p q∣q/\0<=e0 p q:=by
 intro n
 induction n with
 |zero =>
  intro p q bg ai aj
  obtain rfl:q=0:=by omega
  rw[xE]
  exact⟨Int.dvd_refl _,Int.dvd_zero _,aj.elim (fun z=>by omega) id⟩
 | succ n bT =>
  intro p q bg ai aj
  by_cases bj:q=0
  ·subst bj
   rw[xE]
   exact⟨Int.dvd_refl _,Int.dvd_zero _,aj.elim (fun z=>by omega) id⟩
  ·have bj:0<q:=by omega
   rw[Bm bj]
   have k3:=hT p (Int.ne_of_gt bj)
   have cv:=h5 p bj
   obtain⟨hj,iF,s7⟩:=bT (p:=q) (q:=p%q) (by omega) k3 (.inr ai)
   refine⟨?_,hj,s7⟩
   have e:=Int.mul_ediv_add_emod p q
   have:e0 q (p%q)∣q*(p/q)+p%q:=Int.dvd_add (Int.dvd_mul_of_dvd_left hj) iF
   rwa [e]at this
theorem J9{p q:Int}(bj:0<q)(h:Int.gcd p q=1):e0 p q=1:=by
 obtain⟨hj,iF,s7⟩:=UM q.toNat (b8 _) (Int.le_of_lt bj) (.inl bj) (p:=p)
 have:=Int.dvd_coe_gcd hj iF
 rw[h]at this
 exact Int.eq_one_of_dvd_one s7 this
theorem SN:∀(n:Nat){p q:Int},q.toNat<=n->0<=q->q<p->e0 p q=1->Tail (fh p q)/\cX (fh p q)=(p,q):=by
 have base:∀{p:Int},e0 p 0=1->Tail (fh p 0)/\cX (fh p 0)=(p,0):=fun{p}h=>by
  rw[xE]at h
  subst h
  rw[ru]
  exact⟨⟨(fun x ao=>nomatch ao),(fun z=>absurd I z)⟩,I⟩
 intro n
 induction n with
 |zero =>
  intro p q bg ai _ hc
  obtain rfl:q=0:=by omega
  exact base hc
 | succ n bT =>
  intro p q bg ai ajD hc
  by_cases bj:q=0
  .subst bj;exact base hc
  have bj:0<q:=by omega
  rw[Bm bj]at hc
  have k3:=hT p (Int.ne_of_gt bj)
  have cv:=h5 p bj
  have e:=Int.mul_ediv_add_emod p q
  have t3:1<=p/q:=Int.le_ediv_of_mul_le bj (by omega)
  obtain⟨t,f⟩:=bT (p:=q) (q:=p%q) (by omega) k3 cv hc
  rw[m4 bj]
  refine⟨⟨fun x ao=>?_,fun z=>?_⟩,?_⟩
  ·rcases c9.mp ao with y|y
   .rw[y];exact t3
   .exact t.1 x y
  ·by_cases ax:fh q (p%q)=[]
   ·have Cm:p%q=0:=by
     by_cases y:p%q=0
     .exact y
     .rw[m4 (by omega)]at ax;cases ax
    rw[Cm,xE]at hc
    subst hc
    have:(p/1::fh 1 (p%1)).getLast z=p/1:=by simp only[ax,List.getLast_singleton]
    rw[this,Int.ediv_one];omega
   .rw[List.getLast_cons ax];exact t.2 ax
  ·rw[cX,f]
   show(p/q*q+p%q,q)=(p,q)
   rw[Int.mul_comm,e]
theorem L4{p q:Int}(bj:0<q)(hc:e0 p q=1):Good (fh p q)/\cX (fh p q)=(p,q):=by
 rw[Bm bj]at hc
 have k3:=hT p (Int.ne_of_gt bj)
 have cv:=h5 p bj
 obtain⟨t,f⟩:=SN _ (b8 _) k3 cv hc
 rw[m4 bj]
 refine⟨t,?_⟩
 rw[cX,f]
 show(p/q*q+p%q,q)=(p,q)
 rw[Int.mul_comm,Int.mul_ediv_add_emod]
theorem Ml:∀(k:Nat){p q:Int},0<=q->q<2^k->(fh p q).length<=2*k+1:=by
 intro k
 induction k with
 |zero =>
  intro p q bg ai
  have:q=0:=by omega
  subst this
  rw[ru];exact UF _
 | succ k bT =>
  intro p q bg ai
  by_cases bj:q=0
  .subst bj;rw[ru];exact UF _
  ·have bj:0<q:=by omega
   rw[m4 bj,d6]
   have k3:=hT p (Int.ne_of_gt bj)
   have cv:=h5 p bj
   generalize p%q=r at k3 cv
   by_cases ax:r=0
   .subst ax;rw[ru];simp
   ·have ax:0<r:=by omega
    rw[m4 ax,d6]
    have t0:=hT q (Int.ne_of_gt ax)
    have t1:=h5 q ax
    have gs:=Int.mul_ediv_add_emod q r
    have t3:1<=q/r:=Int.le_ediv_of_mul_le ax (by omega)
    have aj4:r*1<=r*(q/r):=Int.mul_le_mul_of_nonneg_left t3 (by omega)
    have e:(2:Int)^(k+1)=2^k*2:=Int.pow_succ ..
    have:=bT (p:=r) (q:=q%r) t0 (by omega)
    omega
theorem L3{B:Int}:∀(n:Nat){p q:Int},q.toNat<=n->0<=q->-B<=p->p<=B->q<=B->∀x∈fh p q,-B<=x/\x<=B:=by
 intro n
 induction n with
 |zero =>
  intro p q bg ai _ _ _ x ao
  have:q=0:=by omega
  subst this
  rw[ru]at ao;cases ao
 | succ n bT =>
  intro p q bg ai aj bE cQ x ao
  by_cases bj:q=0
  .subst bj;rw[ru]at ao;cases ao
  ·have bj:0<q:=by omega
   rw[m4 bj]at ao
   rcases c9.mp ao with z|z
   ·subst z
    constructor
    ·refine Int.le_ediv_of_mul_le bj ?_
     have : -B*q<=-B*1:=Int.mul_le_mul_of_nonpos_left (by omega) (by omega)
     omega
    ·refine Int.ediv_le_of_le_mul bj ?_
     have:B*1<=B*q:=Int.mul_le_mul_of_nonneg_left (by omega) (by omega)
     omega
   ·have k3:=hT p (Int.ne_of_gt bj)
    have cv:=h5 p bj
    exact bT (by omega) k3 (by omega) cQ (by omega) x z
def Dx(x y:Int):Prop:=x.natAbs<2^390/\y.natAbs<2^390
theorem Dx.ok{p q:Int}(h:Dx p q)(bj:0<q):(fh p q).length<=10000/\∀x∈fh p q,x.natAbs<2^1000:=by
 obtain⟨ai,aj⟩:=h
 have e:((2^390:Nat):Int)=(2:Int)^390:=by rw[Int.natCast_pow];rfl
 have mL:q<2^390:=by omega
 refine⟨dE (Ml 390 (Int.le_of_lt bj) mL) (by decide),fun x ao=>?_⟩
 have:=L3 (B:=2^390) q.toNat (b8 _) (Int.le_of_lt bj) (by omega) (by omega) (by omega) x ao
 exact Nat.lt_of_le_of_lt (m:=2^390) (by omega) (Nat.pow_lt_pow_right (by decide) (by decide))
theorem AK{d:D}(h:bV d=ah):∃p q:Int,d=.tup [.int p,.int q]/\0<q/\e0 p q=1/\Dx p q/\(fh p q).length<=300/\m6 (fh p q):=by
 unfold bV at h
 split at h
 ·rename_i p q
  obtain⟨ai,aj,bE,cQ⟩:=hg h
  have gG:(10:Nat)^38<2^127:=by decide
  have eZ:(10:Int)^38<2^127:=by decide
  have aiT:(2:Int)^127<2^254:=by decide
  refine⟨p,q,I,ai,J9 ai aj,⟨?_,?_⟩,?_,?_⟩
  .exact Nat.lt_of_le_of_lt bE (by decide)
  .exact Nat.lt_of_le_of_lt (m:=10^38) (by omega) (by decide)
  .exact dE (Ml 127 (Int.le_of_lt ai) (by omega)) (by decide)
  ·have hs:=L3 (B:=10^38) q.toNat (b8 _) (Int.le_of_lt ai) (p:=p) (by omega) (by omega) cQ
   obtain⟨t,_⟩:=L4 ai (J9 ai aj)
   refine⟨fun x ao=>?_,fun x ao=>?_⟩
   ·have:=hs x (List.mem_of_mem_take ao)
    unfold hW;omega
   ·have:=hs x (List.mem_of_mem_drop ao)
    rw[m4 ai]at t ao
    have:=t.1 x ao
    unfold hQ;omega
 .cases h
theorem Xn(nb:dT mg)(F:dG K "fits" "Fraction.fits" zF f fd)(m3:bq P w K mg base 1 "is_number" ["value"] y8)(wX:bq P w K mg base 3 "has_fraction_row" ["fraction"] IW):de P w K mg base dv 4 f fd ["self","value"] (jZ has bV c n (.b 3)):=by
 refine F.fK Vm (fun bx A _ s H vs Q E ax h=>?_)
 obtain⟨o,cm,v,d,rfl,hs,dr,aL,di,hd,az,q⟩:=h
 have:=ng hs
 subst this
 rw[xA]at az
 have az:bV d=ah:=by cases d<;>exact az
 obtain⟨p,jH,rfl,ai,aj,bE,cQ,eN⟩:=AK az
 refine⟨_,(aI (cE (gc.pt (j6 (jP (hi (b9 iU I nb.i4 iT (al (ab 1) (al (iX (v :=.ty "tuple") I nb.q1 ql I) aB))))) (lq (b0 qR (b9 du I nb.dn dq (al (ab 1) aB)) aC)))) (aR (bB jO)) cF)
  (aR (bB (jg (b6 m3 ax (al (bG bH (ab 1) aC) aB)) (jg (b6 m3 ax (al (bG bH (ab 1) aC) aB)) (jQ (b6 wX ax (al (ab 1) aB)))))))),_,rfl,.inl ⟨_,_,_,_,rfl,hd.ty,hN K _ (by decide),_,rfl,?_⟩⟩
 obtain⟨a,vs,rfl,dz,⟨_,_,rfl,rfl,_,_,rfl,rfl,rfl⟩,jl⟩:=hd
 have a0:∀(x:V)(r:List V),ey (x::r) 0=J x:=fun x r=>cB (j:=0) rfl
 have a1:∀(x y:V)(r:List V),ey (x::y::r) 1=J y:=fun x y r=>cB (j:=1) rfl
 refine dW ⟨_,I,_,_,I,.inr ⟨_,bI dz,I⟩,I,_,I,yA I ?_⟩
 refine⟨_,I,.inl (.inr ⟨_,_,_,_,I,I,bI dz,a0 _ _,_,.int p,I,I,ah,I,e3 ?_⟩)⟩
 refine⟨_,I,.inl (.inr ⟨_,_,_,_,I,I,bI dz,a1 _ _ _,_,.int jH,I,I,ah,I,e3 ?_⟩)⟩
 refine⟨_,I,a,p,jH,I,dz,fun bj=>⟨dE (bE.ok bj).1 (by decide),(bE.ok bj).2⟩,H,.refl (dx _),?_⟩
 rw[eu ⟨ai,aj,eN⟩];exact q
noncomputable def bW:D->List Bool
 |.tup [.int p,.int q]=>jD (fh p q)
 |_=>[]
theorem E8{d:D}(h:bV d=ah):∃s,Good s/\s.length<=1000/\m6 s/\d=.tup [.int (cX s).1,.int (cX s).2]/\bW d=jD s:=by
 obtain⟨p,q,rfl,ai,aj,bE,cQ,eN⟩:=AK h
 obtain⟨g,e⟩:=L4 ai aj
 exact⟨fh p q,g,dE cQ (by decide),eN,by rw[e],rfl⟩
theorem U4(F:dG K "written" "Fraction.written" Aa f fd)(q9:bq P w K mg base 1 "steps_of" ["fraction"] C6)(wZ:bq P w K mg base 4 "row_of_steps" ["steps"] I3):de P w K mg base dv 5 f fd ["self","value"] (jI has bV bW c n (.b 3)):=by
 refine F.fK U2 (fun bx A _ s H vs Q E ax h=>?_)
 obtain⟨o,cm,v,d,rfl,hs,dr,aL,di,hd,az,aD,q⟩:=h
 have:=ng hs
 subst this
 rw[xA]at az
 have az:bV d=ah:=by cases d<;>exact az
 obtain⟨p,jH,rfl,ai,aj,bE,cQ,eN⟩:=AK az
 rw[bf]at q
 obtain⟨a,vs,rfl,dz,⟨_,_,rfl,rfl,_,_,rfl,rfl,rfl⟩,jl⟩:=hd
 refine⟨_,(aR (bB (b6 wZ ax (al (b6 q9 ax (al (ab 1) aB)) aB)))),?_⟩
 try dsimp only[c4,c5,c6,c7]
 refine⟨_,I,a,p,jH,I,dz,Int.le_of_lt ai,dE (bE.ok ai).1 (by decide),(bE.ok ai).2,fun r fJ=>?_⟩
 exact⟨r,_,I,aG,by rw[m4 ai];exact lx _ _,by omega,eN,H,.refl (dg fJ),q⟩
theorem YL(nb:dT mg)(T:na K (c.t 1))(F:dG K "fits" "Choice.fits" zY f fd)(lb:hq P w K mg base (2*n+4) "fits" ["self","value"] (fW c) (jZ has bc c n)):de P w K mg base dv (2*n+4+1) f fd ["self","value"] (jZ has bc c (n+1) (.t 1)):=by
 refine F.fK VT (fun bx A _ s H vs Q E ax h=>?_)
 obtain⟨o,cm,v,d,rfl,hs,dr,aL,di,hd,az,q⟩:=h
 obtain⟨ns,fs,rfl⟩:=u4 hs
 obtain⟨_,ak,cU,cf,os,aH,_,_,g1,g2,fv⟩:=dr
 obtain⟨gr,i2,hZ⟩:=aL.two
 have ir:f7 fs<=n:=by rw[aM]at di;omega
 have vR:=(lX gr).1
 rw[bw,if_neg (by decide)]at az
 refine⟨_,(aI (cE (gc.pt (j6 (jP (hi (b9 iU I nb.i4 iT (al (ab 1) (al (iX (v :=.ty "tuple") I nb.q1 ql I) aB))))) (j6 (b0 qR (b9 du I nb.dn dq (al (ab 1) aB)) aC) (lq (Bc (Yq (wm ax)) (bG bH (ab 1) aC) (ed (ab 0) I) (by with_unfolding_all rfl)))))) (aR (bB jO)) cF)
  (aR (bB (ij lb ax (bG bH (ed (ab 0) rfl) (hV PySem.F.plainAttrs_list PySem.F.slot_list_index PySem.F.type_list_index xr (ed (ab 0) rfl) (al (bG bH (ab 1) aC) aB))) (al (bG bH (ab 1) aC) aB) (hk:=by omega))))),_,rfl,.inl ⟨_,_,_,_,rfl,hd.ty,hN K d (by decide),_,rfl,?_⟩⟩
 unfold s4 at az
 split at az
 ·rename_i m x
  obtain⟨a,vs,rfl,dz,⟨v0,_,rfl,bg,nZ,_,rfl,ao,rfl⟩,jl⟩:=hd
  have hm:=rq fs ns m x i2 az
  have a0:∀(x:V)(r:List V),ey (x::r) 0=J x:=fun x r=>cB (j:=0) rfl
  have a1:∀(x y:V)(r:List V),ey (x::y::r) 1=J y:=fun x y r=>cB (j:=1) rfl
  refine dW ⟨_,I,_,_,I,.inr ⟨_,bI dz,I⟩,I,_,I,yA I ?_⟩
  refine⟨_,I,.inl (.inr ⟨_,_,_,_,I,I,bI dz,a0 _ _,_,I,o,c.t 1,ak,_,_,I,aH,T.cl,T.r6,ia ..,cU,ns,.str m,I,bb g1,bg,_,I,?_⟩)⟩
  obtain⟨rfl,_⟩:=bg
  have eI:inD ns (.str m)=ah:=List.any_eq_true.mpr ⟨m,hm,by simp⟩
  rw[eI]
  have hk:=og hm
  have yk:ns[ns.idxOf m]?=J m:=by rw[cp hk,List.getElem_idxOf hk]
  have yj:ns.idxOf m<fs.length:=by omega
  have aX:=cp yj
  rw[rr fs ns m hm i2,dN,aX]at az
  obtain⟨oW,mH,th⟩:=eK.ge fs fv aX
  obtain⟨mJ,vM⟩:=hZ.get aX
  obtain⟨fG,fH,aan,li⟩:=cd.fits _ th
  refine dW ⟨_,I,o,c.t 1,ak,_,_,I,aH,T.cl,T.kZ,mP _ _ _ _ pN,_,I,o,c.t 1,ak,_,_,I,aH,T.cl,T.r6,ia ..,.inl ⟨I,_,bb g1⟩,_,I,.inl (.inr ⟨_,_,_,_,I,I,bI dz,a0 _ _,cU,ns,m,ns.idxOf m,I,I,g1,yk,(fun j b2 hw=>by have:=w8 gr hw;omega),by omega,?_⟩)⟩
  exact r3 (.inl g2) (show(os.map V.ref)[ns.idxOf m]?=J (V.ref oW) by rw[eL,mH];rfl) ⟨oW,slot _,fG,fH,rfl,aan,li,_,rfl,.inl (.inr ⟨_,_,_,_,rfl,rfl,bI dz,a1 _ _ _,oW,_,nZ,x,rfl,rfl,th,mJ,by omega,ao,az,H,.refl (dx _),q⟩)⟩
 .cases az
theorem SR(ff:fY K C)(T:kL K (c.o 0))(F:dG K "draw" "Maybe.draw" Ar f fd)(gY:hb P w K mg base 1 C "draw" ["self"] (o5 C))(lM:hq P w K mg base (2*n+4) "draw" ["self","source"] (fW c) (km has bc fw c C n)):de P w K mg base dv (2*n+4+1) f fd ["self","source"] (km has bc fw c C (n+1) (.o 0)):=by
 refine F.fK We (fun bx A _ s H vs Q E ax h=>?_)
 obtain⟨o,p,ak,cm,d,l,j,t,e,X,rfl,hs,dr,aL,di,dk,aD,b2,eB,dJ,az,dt,q⟩:=h
 obtain⟨g,rfl⟩:=qd hs
 obtain⟨nP,kc,i,aH,fv⟩:=dr
 have hZ:=aL.one
 have ir:aM g<=n:=by rw[aM]at di;omega
 have op:o≠p:=fun z=>nP (d5.mpr z)
 rw[bw]at az
 rw[bf]at q dt
 replace az:nK (bw bc g) d=ah:=az
 have gA:=dM.step (j':=j+1) (t':=t) (e':=e) dk
 have rL:=cd.kY gA g fv
 have fresh:∀{av:aq}{wi:df}{tt:af},dM p H av->av p=J wi->av tt=aw->tt∉X:=fun M aV gh z=>by
  obtain⟨O5,jC⟩:=dM.alloc M aV dJ _ z
  rw[gh]at jC;cases jC
 unfold nK at az
 split at az
 ·have dt:[aF] <+: sees l t j:=dt
  obtain⟨jR,gJ,gK⟩:=sU dt
  refine⟨_,(aI (cE (b0 c2 (jA gY ff ax (ab 1) (hk:=by omega)) aC) (aR (bB (jf aB))) cF)
  (aR (bB (jf (al (ij lM ax (ed (ab 0) rfl) (al (ab 1) aB) (hk:=by omega)) aB))))),?_⟩
  try dsimp only[c4,c5,c6,c7]
  refine⟨_,I,p,ak,_,I,dk,ly _ _ _ _ (by decide+kernel) (by decide+kernel) (by decide+kernel),p,ak,l,j,t,e,jR,I,⟨_,dk⟩,aD,gJ,?_⟩
  rw[gK]
  refine⟨I,_,I,iK I ⟨UF _,fun tt rZ=>?_⟩⟩
  have E:=Ext.tup (xs:=[]) rZ
  have M:=gA.ext E
  exact⟨_,M.sub (E.s _ _ aG),q _ _ M ⟨tt,[],I,fresh gA aG rZ,aG,I,by simp⟩ (E.s _ _ aG)⟩
 ·rename_i x
  have dt:(ah::bf fw g x) <+: sees l t j:=dt
  obtain⟨jR,gJ,gK⟩:=sU dt
  have fJ:=sX (r:=[ah]) dt
  obtain⟨fG,fH,eI,li⟩:=cd.draw g rL
  have Oa:j+1<=l.length:=by have:=(g5.mp gJ).1;omega
  refine⟨_,(aI (cE (b0 c2 (jA gY ff ax (ab 1) (hk:=by omega)) aC) (aR (bB (jf aB))) cF)
  (aR (bB (jf (al (ij lM ax (ed (ab 0) rfl) (al (ab 1) aB) (hk:=by omega)) aB))))),?_⟩
  try dsimp only[c4,c5,c6,c7]
  refine⟨_,I,p,ak,_,I,dk,ly _ _ _ _ (by decide+kernel) (by decide+kernel) (by decide+kernel),p,ak,l,j,t,e,jR,I,⟨_,dk⟩,aD,gJ,?_⟩
  rw[gK]
  refine⟨I,_,I,fx (by decide) ⟨_,I,o,c.o 0,kc,_,_,I,gA.k _ _ op aH,T.cl,T.nO,ia ..,i,slot g,fG,fH,I,eI,li,_,I,i,p,ak,g,x,l,j+1,t,e,X,I,I,rL,hZ,ir,aG,aD,Oa,eB,dM.alloc gA aG dJ,az,fJ,fun v av M2 dh gT=>⟨Bl,fun tt rZ=>?_⟩⟩⟩
  have E:=Ext.tup (xs:=[v]) rZ
  have M:=(gA.trans M2).ext E
  refine⟨_,M.sub (E.s _ _ gT),q _ _ M ⟨tt,[v],I,fresh (gA.trans M2) gT rZ,aG,⟨v,[],I,dh.same E.s,I⟩,by simp⟩ ?_⟩
  rw[E.s _ _ gT]
  show J (e5 C ak l (j+1+(bf fw g x).length) t e)=J (e5 C ak l (j+((bf fw g x).length+1)) t e)
  rw[show j+1+(bf fw g x).length=j+((bf fw g x).length+1) by omega]
 .cases az
theorem YV(nb:dT mg)(T:na K (c.t 1))(F:dG K "draw" "Choice.draw" zZ f fd)(n7:bq P w K mg base 2 "draw_fixed" ["source","most"] (y5 C))(lM:hq P w K mg base (2*n+4) "draw" ["self","source"] (fW c) (km has bc fw c C n)):de P w K mg base dv (2*n+4+1) f fd ["self","source"] (km has bc fw c C (n+1) (.t 1)):=by
 refine F.fK Kn (fun bx A _ s H vs Q E ax h=>?_)
 obtain⟨o,p,ak,cm,d,l,j,t,e,X,rfl,hs,dr,aL,di,dk,aD,b2,eB,dJ,az,dt,q⟩:=h
 obtain⟨ns,fs,rfl⟩:=u4 hs
 obtain⟨nP,kc,cU,cf,os,aH,aeE,aeF,g1,g2,fv⟩:=dr
 obtain⟨gr,i2,hZ⟩:=aL.two
 have ir:f7 fs<=n:=by rw[aM]at di;omega
 have ne:∀{b:af},b∉[p]->b≠p:=fun h z=>h (d5.mpr z)
 rw[bw,if_neg (by decide)]at az
 unfold s4 at az
 split at az
 ·rename_i m x
  have hm:=rq fs ns _ _ i2 az
  rw[rr fs ns _ hm i2]at az
  have hk:=og hm
  have yk:ns[ns.idxOf m]?=J m:=by rw[cp hk,List.getElem_idxOf hk]
  have yj:ns.idxOf m<fs.length:=by omega
  have nB:=cp yj
  have g6:bf fw (.two 1 ns fs) (.tup [.str m,x])=dj (ns.idxOf m) (aE (fs.length-1))++bf fw fs[ns.idxOf m] x:=by
   rw[bf,if_neg (by decide)]
   show mf fw fs ns 0 _ m x=_
   rw[u5 fs ns 0 m hm i2,Nat.zero_add,dN,nB];rfl
  rw[dN,nB]at az
  rw[g6]at dt q
  have HQ:=qe dt
  have fJ:=sX dt
  have qK:=rn HQ b2
  have oP:=Fo HQ
  rw[iV]at qK oP fJ
  rw[dX,iV]at q
  have gA:=dM.step (j':=j+aE (fs.length-1)) (t':=t) (e':=e) dk
  obtain⟨oW,mH,th⟩:=eK.ge fs fv nB
  have rL:=cd.kY gA _ th
  obtain⟨mJ,vM⟩:=hZ.get nB
  obtain⟨fG,fH,eI,li⟩:=cd.draw _ rL
  have oM:m.length<=100000:=dE ((lX gr).2 m hm) (by decide)
  have kC:(((ns.map V.str).length:Nat):Int)-1=((fs.length-1:Nat):Int):=by rw[cw];omega
  refine⟨_,(aI (bO 2 Kn.bo (b6 n7 ax (al (ab 1) (al (aN gj (b9 du I nb.dn dq (al (ed (ab 0) I) aB)) aC) aB)) (hk:=by omega)))
  (aR (bB (jf (al (bG bH (ed (ab 0) rfl) (ab 2)) (al (ij lM ax (bG bH (ed (ab 0) rfl) (ab 2)) (al (ab 1) aB) (hk:=by omega)) aB)))))),?_⟩
  try dsimp only[c4,c5,c6,c7]
  refine⟨_,I,_,I,o,c.t 1,kc,_,_,I,aH,T.cl,T.r6,ia ..,_,_,I,.inl ⟨_,bb g1,I⟩,_,_,I,I,p,ak,l,j,ns.idxOf m,fs.length-1,t,e,by rw[<-kC];rfl,dk,aD,by omega,qK,oP,?_⟩
  refine⟨_,I,o,c.t 1,kc,_,_,I,gA.k _ _ (ne nP) aH,T.cl,T.r6,ia ..,_,I,r3 (.inl (gA.k _ _ (ne aeE) g1)) (show(ns.map V.str)[ns.idxOf m]?=J (V.str m) by rw[eL,yk];rfl) ⟨_,rfl,o,c.t 1,kc,_,_,rfl,gA.k _ _ (ne nP) aH,T.cl,T.kZ,mP _ _ _ _ pN,_,rfl,r3 (.inl (gA.k _ _ (ne aeF) g2)) (show(os.map V.ref)[ns.idxOf m]?=J (V.ref oW) by rw[eL,mH];rfl) ⟨oW,slot _,fG,fH,rfl,eI,li,_,rfl,oW,p,ak,_,x,l,j+aE (fs.length-1),t,e,X,rfl,rfl,rL,mJ,by omega,aG,aD,qK,eB,dM.alloc gA aG dJ,az,fJ,fun v av M2 dh gT=>⟨lp,fun tt rZ=>?_⟩⟩⟩⟩
  have M:=gA.trans M2
  have E:=Ext.tup (xs:=[V.str m,v]) rZ
  have ab9:tt∉X:=fun z=>by
   obtain⟨O5,jC⟩:=dM.alloc M gT dJ _ z
   rw[rZ]at jC;cases jC
  refine⟨_,(M.ext E).sub (E.s _ _ gT),q _ _ (M.ext E) ⟨tt,_,I,ab9,aG,⟨_,_,I,⟨I,oM⟩,v,[],I,dh.same E.s,I⟩,by simp⟩ ?_⟩
  rw[E.s _ _ gT,Nat.add_assoc]
 .cases az
inductive PI(C:af)(vs:List V)(H:aq)(Q:bJ)(E:cN):Prop where
 |mk (p ak:af) (l:List Bool) (i:Nat) (s:List Int) (t b5:Bool) (bg:vs=[.ref p]) (ai:H p=J (e5 C ak l i t b5)) (aj:l.length<=16000000) (bE:i<=l.length) (cQ:Good s) (eN:s.length<=1000) (jj:m6 s) (nt:jD s <+: (l.map (xor t)).drop i) (nu:∀r,H r=aw->Q (.ref r) (upd (upd H p (e5 C ak l (i+(jD s).length) t b5)) r (.tup [.int (cX s).1,.int (cX s).2]))):PI C vs H Q E
def IU(C:af):cD:=fun vs H Q E=>PI C vs H Q E
theorem LO(h:m6 s):∀x∈s,x.natAbs<2^1000:=by
 intro x ao
 obtain⟨i,ay,rfl⟩:=List.mem_iff_getElem.mp ao
 have z:=h.at (cp ay)
 refine fB (m:=2^256) ?_ (Nat.pow_le_pow_right (by decide) (by decide))
 split at z
 .unfold hW at z;omega
 .unfold hQ at z;omega
theorem KP{b:List Bool}(h:a++b <+: L.drop i):b <+: L.drop (i+a.length):=by
 obtain⟨u,e⟩:=h
 refine⟨u,?_⟩
 rw[<-List.drop_drop,<-e,gD,List.drop_left]
theorem MI(h:a <+: L.drop i)(ay:i<=L.length):i+a.length<=L.length:=by
 have:=h.length_le
 rw[je]at this
 omega
theorem K3{x:Int}(h:s[j]?=J x):s.take (j+1)=s.take j++[x]:=by rw[jy,h];rfl
structure lT(H av:aq)(p r:af)(o u:df):Prop where
 aY:av p=J o
 ax:av r=J u
 hs:∀b v,b≠p->H b=J v->av b=J v
theorem lT.t6{r:af}{u o':df}(h:lT H av p r o u)(n:r≠p):lT H (upd av p o') p r o' u:=⟨aG,by rw[bK n];exact h.ax,fun b v ag e=>by rw[bK ag];exact h.hs b v ag e⟩
theorem lT.ahd{r:af}{u u':df}(h:lT H av p r o u)(n:r≠p)(ax:H r=aw):lT H (upd av r u') p r o u':=⟨by rw[bK (eF n)];exact h.aY,aG,fun b v ag e=>by rw[bK (f5 e ax)];exact h.hs b v ag e⟩
theorem lT.free{r b:af}{u:df}(h:lT H av p r o u)(e:av b=aw):H b=aw:=by
 cases q:H b with
 |none=>rfl
 |some v =>
  by_cases ag:b=p
  .subst ag;rw[h.aY]at e;cases e
  .rw[h.hs b v ag q]at e;cases e
inductive QV(C:af)(vs:List V)(H:aq)(Q:bJ)(E:cN):Prop where
 |mk (p ak:af) (z:ae) (i:Int) (t e:Bool) (u v:Int) (bg:vs=[.ref p,.int v]) (ai:H p=J (.ins C ak (gf z i t e u))) (aj:Q .aT (upd H p (.ins C ak (gf z i t e v)))):QV C vs H Q E
def QU(C:af):cD:=fun vs H Q E=>QV C vs H Q E
theorem TI(T:uY K C)(F:dG K "wish" "Source.wish" zT f fd):de P w K mg base dv 1 f fd ["self","sign"] (QU C):=by
 refine F.ok VM (fun vs H Q E h=>?_) (fun bx A _ s H vs Q E ax h=>?_)
 .obtain⟨p,ak,z,i,t,e,u,v,rfl,_⟩:=h;rfl
 obtain⟨p,ak,z,i,t,e,u,v,rfl,aY,q⟩:=h
 refine⟨_,(aR (iE (ab 0) (ab 1) I)),?_⟩
 try dsimp only[c4,c5,c6,c7]
 refine⟨_,I,_,I,p,C,ak,_,I,aY,T.cl,T.CF,(by show 5<1000;decide),?_⟩
 rw[KY]
 exact q
theorem Vp(nb:dT mg)(ff:fY K C)(F:d1 K mg "draw_fraction" Et ["source"] f fd)(gY:hb P w K mg base 1 C "draw" ["self"] (o5 C))(lR:hb P w K mg base 1 C "turn" ["self"] (zc C))(zJ:hb P w K mg base 1 C "wish" ["self","sign"] (QU C))(lQ:hb P w K mg base 1 C "refuse" ["self"] ua)(q8:bq P w K mg base 4 "draw_whole" ["source"] (CZ C))(sr:bq P w K mg base 3 "draw_count" ["source"] (IT C))
  (ux:bq P w K mg base 1 "are_steps" ["steps"] IQ) (DD:bq P w K mg base 2 "fraction_of" ["steps"] PR):bq P w K mg base 5 "draw_fraction" ["source"] (IU C):=by
 refine F.eO Kh (fun bx A _ s H vs Q E ax h=>?_)
 obtain⟨p,ak,l,i,s,t,b5,rfl,aY,aD,ay,aX,tE,b1,hc,q⟩:=h
 refine⟨_,(aI (bO 1 Kh.bo (h6 (al (b6 q8 ax (al (ab 0) aB)) aB)))
  (aI (ro h2.never (b0 c2 (jA gY ff ax (ab 0)) aC)
   (aI (iW (jA lR ff ax (ab 0)))
   (aI (iW (xw zJ ff ax (ab 0) (al aC aB)))
   (aI (iW (hV PySem.F.plainAttrs_list PySem.F.slot_list_append PySem.F.type_list_append qo (ab 1) (al (aN eb (b6 sr ax (al (ab 0) aB)) aC) aB)))
   (aR (cE (b0 c2 (bG bH (ab 1) (lB ll aC)) aC) (aR (iW (xw zJ ff ax (ab 0) (al aC aB)))) cF))))))
  (aI (cE (jP (hi (b6 ux ax (al (ab 1) aB)))) (aR (iW (jA lQ ff ax (ab 0)))) cF)
  (aI (cE (b0 c2 (aN dI (b9 du rfl nb.dn dq (al (ab 1) aB)) aC) aC) (aR (iW (jA lR ff ax (ab 0)))) cF)
  (aR (bB (b6 DD ax (al (ab 1) aB)))))))),?_⟩
 try dsimp only[c4,c5,c6,c7]
 have O4:∀(z:ae)(i:Int)(t e:Bool){u:Int},(gf z i t e u).lookup ("wish":ae)=aw:=fun _ _ _ _=>ly _ _ _ _ (by decide+kernel) (by decide+kernel) (by decide+kernel)
 have nm:∀(z:ae)(i:Int)(t e:Bool){u:Int},(gf z i t e u).lookup ("draw":ae)=aw:=fun _ _ _ _=>ly _ _ _ _ (by decide+kernel) (by decide+kernel) (by decide+kernel)
 have tP:∀(z:ae)(i:Int)(t e:Bool){u:Int},(gf z i t e u).lookup ("turn":ae)=aw:=fun _ _ _ _=>ly _ _ _ _ (by decide+kernel) (by decide+kernel) (by decide+kernel)
 obtain⟨a,es,rfl⟩:=List.exists_cons_of_ne_nil aX.ne
 have aJ:=b1.1 a (d5.mpr rfl)
 have l5:gP a++more es <+: (l.map (xor t)).drop i:=hc
 have Of:(l.map (xor t)).length=l.length:=cw ..
 refine⟨_,I,p,ak,l,i,a,t,b5,I,aY,aD,ay,aJ,⟨_,(gD ..).symm.trans l5.choose_spec⟩,(by show 1<=cj;decide),fun r fJ=>?_⟩
 have nG:r≠p:=fun z=>by rw[z,aG]at fJ;cases fJ
 have Oq:H r=aw:=by rw[bK nG]at fJ;exact fJ
 have pA:lT H (upd (upd H p (e5 C ak l (i+(gP a).length) t b5)) r (.lst [V.int a])) p r (e5 C ak l (i+(gP a).length) t b5) (.lst [V.int a]):=⟨by rw[bK (eF nG)];exact aG,aG,fun b v ag e=>by rw[bK (f5 e Oq),bK ag];exact e⟩
 obtain⟨s,hs⟩:∃s,s=a::es:=⟨_,rfl⟩
 have qN:0<s.length:=by rw[hs];exact Nat.succ_pos _
 have jE:(jD s).length=(gP a).length+(more es).length:=by rw[hs];exact dX
 rw[<-hs]at aX tE b1 q
 refine⟨fun m U av=>∃(j aa:Nat)(T:Bool)(u:Int),1<=j/\j<=s.length/\m=s.length-j/\U=[J (.ref p),J (.ref r)]/\lT H av p r (zd C ak l aa T b5 u) (.lst ((s.take j).map V.int))/\more (s.drop j) <+: (l.map (xor T)).drop aa/\aa<=l.length/\aa+(more (s.drop j)).length=i+(jD s).length/\T=(t ^^ odd (j+1)),
  ⟨s.length-1,1,i+(gP a).length,t,0,b8 _,qN,rfl,rfl,?_,?_,?_,?_,?_⟩,?_⟩
 .rw[hs];exact pA
 .rw[hs];exact KP l5
 .have:=MI (a:=gP a) ⟨_,(gD ..).symm.trans l5.choose_spec⟩ (by rw[Of];exact ay);rw[Of]at this;exact this
 .rw[jE];subst hs;show i+(gP a).length+(more es).length=_;omega
 .cases t<;>rfl
 rintro m U av ⟨j,aa,T,u,Oa,vN,rfl,rfl,S,qO,fv,cM,bZ⟩
 have Oe:(l.map (xor T)).length=l.length:=cw ..
 rcases g4 j s.length with b2|b2
 ·
  have Cp:s[j]?=J (s[j]'b2):=cp b2
  have gi:=b1.at Cp
  rw[if_neg (by omega)]at gi
  have kT:s.drop j=s[j]'b2::s.drop (j+1):=nc b2
  generalize s[j]'b2=b at Cp gi kT
  rw[kT]at qO cM
  obtain⟨gJ,gK,tp⟩:=A3 qO
  rw[Oe]at gJ
  obtain⟨bit,vG,yb⟩:=get_map (l:=l) (t:=T) (i:=aa) gJ
  rw[gK]at yb
  have ya:=Ko tp
  rw[List.map_drop,KD]at ya
  have ajb:=gi.1
  have ajc:=gi.2
  obtain⟨n,aW⟩:∃n:Nat,n=(b-1).toNat:=⟨_,rfl⟩
  rw[<-aW]at ya
  refine⟨_,I,p,ak,_,I,S.aY,nm ..,p,ak,l,aa,T,b5,bit,I,⟨_,S.aY⟩,aD,vG,I,_,I,?_⟩
  rw[<-yb]
  refine iK I ⟨fun cg H'=>∃bY,bY<s.length-j/\∃(j aa:Nat)(T:Bool)(u:Int),1<=j/\j<=s.length/\bY=s.length-j/\cg=[J (.ref p),J (.ref r)]/\lT H H' p r (zd C ak l aa T b5 u) (.lst ((s.take j).map V.int))/\more (s.drop j) <+: (l.map (xor T)).drop aa/\aa<=l.length/\aa+(more (s.drop j)).length=i+(jD s).length/\T=(t ^^ odd (j+1)),fun _ _ h=>h,?_⟩
  have fA:=S.t6 (o':=e5 C ak l (aa+1) T b5) nG
  refine⟨_,I,p,ak,_,I,fA.aY,tP ..,p,ak,l,_,_,_,_,I,fA.aY,?_⟩
  have d3:=fA.t6 (o':=e5 C ak l (aa+1) (!T) b5) nG
  refine⟨_,I,p,ak,_,I,d3.aY,O4 ..,p,ak,aP l,_,!T,b5,0,1,I,d3.aY,?_⟩
  have Eh:=d3.t6 (o':=zd C ak l (aa+1) (!T) b5 1) nG
  refine⟨_,I,.inl ⟨I,_,bb Eh.ax⟩,_,I,p,ak,l,aa+1,n,!T,b5,I,⟨_,Eh.aY⟩,aD,gJ,(by omega),⟨_,(gD ..).symm.trans ya.choose_spec⟩,.inl ⟨_,_,I,I,?_⟩⟩
  have pB:=Eh.t6 (o':=e5 C ak l (aa+1+(cnt n).length) (!T) b5) nG
  refine⟨_,_,_,I,I,pB.ax,(by rw[nJ,ht];exact fB (show min j s.length<100001 by omega) (wx (by decide))),?_⟩
  have m7:=pB.ahd (u' :=.lst ((s.take j).map V.int++[V.int ((n:Int)+1)])) nG Oq
  have eA:(n:Int)+1=b:=by omega
  have s8:(s.take j).map V.int++[V.int ((n:Int)+1)]=(s.take (j+1)).map V.int:=by rw[K3 Cp,fo,eA];rfl
  rw[s8]at m7
  have gx:=MI (a:=cnt n) ⟨_,(gD ..).symm.trans ya.choose_spec⟩ (by rw[cw];exact gJ)
  rw[cw]at gx
  have Np:∀(u:Int)(fZ:aq),lT H fZ p r (zd C ak l (aa+1+(cnt n).length) (!T) b5 u) (.lst ((s.take (j+1)).map V.int))->∃bY,bY<s.length-j/\∃(j aa:Nat)(T:Bool)(u:Int),1<=j/\j<=s.length/\bY=s.length-j/\[J (V.ref p),J (.ref r)]=[J (.ref p),J (.ref r)]/\lT H fZ p r (zd C ak l aa T b5 u) (.lst ((s.take j).map V.int))/\more (s.drop j) <+: (l.map (xor T)).drop aa/\aa<=l.length/\aa+(more (s.drop j)).length=i+(jD s).length/\T=(t ^^ odd (j+1)):=fun u fZ rM=>by
   refine⟨s.length-(j+1),by omega,j+1,aa+1+(cnt n).length,!T,u,by omega,by omega,rfl,rfl,rM,KP ya,gx,?_,?_⟩
   ·have Z4:(more (b::s.drop (j+1))).length=1+((cnt n).length+(more (s.drop (j+1))).length):=by
     rw[more,d6,cw,dX,<-aW];omega
    rw[Z4]at cM
    omega
   .rw[bZ,A1 (j+1)];cases t<;>cases odd (j+1)<;>rfl
  dsimp only
  rw[s8]
  have jU:s.take (j+1)≠[]:=by rw[K3 Cp];exact List.append_ne_nil_of_right_ne_nil _ (lx _ _)
  refine⟨_,I,_,I,.inl (.inl ⟨_,_,_,_,I,I,bb m7.ax,FC jU,I,_,I,?_⟩)⟩
  refine e2 (fun c=>?_) (fun c=>?_)
  ·refine⟨_,I,p,ak,_,I,m7.aY,O4 ..,p,ak,aP l,_,!T,b5,0,1,I,m7.aY,?_⟩
   exact Np 1 _ (m7.t6 nG)
  .exact Np 0 _ m7
 ·
  have hK:j=s.length:=by omega
  have kT:s.drop j=[]:=by rw[hK];exact List.drop_length ..
  have iY:s.take j=s:=by rw[hK];exact List.take_length ..
  rw[kT]at qO cM
  rw[iY]at S
  obtain⟨gJ,gK,tp⟩:=A3 qO
  rw[Oe]at gJ
  obtain⟨bit,vG,yb⟩:=get_map (l:=l) (t:=T) (i:=aa) gJ
  rw[gK]at yb
  refine⟨_,I,p,ak,_,I,S.aY,nm ..,p,ak,l,aa,T,b5,bit,I,⟨_,S.aY⟩,aD,vG,I,_,I,?_⟩
  rw[<-yb]
  refine fx (by decide) ?_
  have fA:=S.t6 (o':=e5 C ak l (aa+1) T b5) nG
  have Z6:aa+1=i+(jD s).length:=cM
  refine⟨_,I,r,s,I,fA.ax,by omega,_,rfl,?_⟩
  rw[(Lo s).mpr aX]
  refine dW ⟨_,I,_,_,I,.inl ⟨_,bb fA.ax,I⟩,_,_,I,I,(by show(0:Int)<2;decide),I,_,I,?_⟩
  rw[nJ]
  have ck:∀{bQ:aq},lT H bQ p r (e5 C ak l (aa+1) t b5) (.lst (s.map V.int))->∀dZ,bQ dZ=aw->kt H (upd bQ dZ (.tup [.int (cX s).1,.int (cX s).2])) (Q (.ref dZ)):=fun{bQ}pB dZ HR=>by
   have az:=pB.free HR
   have eC:p≠dZ:=fun z=>by rw[<-z,pB.aY]at HR;cases HR
   refine⟨_,Sub.Ie aY az (fun b u ag e=>by rw[bK (f5 e az)];exact pB.hs b u ag e) (by rw[bK eC];exact pB.aY) aG trivial,?_⟩
   rw[Z6]
   exact q dZ az
  refine e2 (fun c=>?_) (fun c=>?_)
  ·have ajg:s.length%2=0:=by have:=V.int.inj c;omega
   have ez:(!T)=t:=by
    rw[bZ,hK,A1]
    have:odd s.length=aF:=fC (by omega)
    rw[this];cases t<;>rfl
   refine⟨_,I,p,ak,_,I,fA.aY,tP ..,p,ak,l,_,_,_,_,I,fA.aY,?_⟩
   have d3:=fA.t6 (o':=e5 C ak l (aa+1) (!T) b5) nG
   refine⟨_,I,r,s,I,d3.ax,tE,LO b1,aX,?_⟩
   rw[ez]at d3
   rw[ez]
   exact ck d3
  ·have acC:s.length%2=1:=by
    have:¬s.length%2=0:=fun z=>c (congrArg V.int (by omega))
    omega
   have ez:T=t:=by
    rw[bZ,hK,A1]
    have:odd s.length=ah:=eu acC
    rw[this];cases t<;>rfl
   subst ez
   exact⟨_,I,r,s,I,fA.ax,tE,LO b1,aX,ck fA⟩
theorem SP(F:dG K "draw" "Whole.draw" Am f fd)(q8:bq P w K mg base 4 "draw_whole" ["source"] (CZ C)):de P w K mg base dv 5 f fd ["self","source"] (km has bc fw c C n (.b 2)):=by
 refine F.fK V8 (fun bx A _ s H vs Q E ax h=>?_)
 obtain⟨o,p,ak,cm,d,l,j,t,e,X,rfl,hs,dr,aL,di,dk,aD,b2,eB,dJ,az,dt,q⟩:=h
 have:=ng hs
 subst this
 rw[bf]at q dt
 rw[bw]at az
 cases d with
 |int v =>
  have az:hW v:=hg az
  have dt:gP v <+: sees l t j:=dt
  have M:=dM.step (j':=j+(gP v).length) (t':=t) (e':=e) dk
  refine⟨_,(aR (bB (b6 q8 ax (al (ab 1) aB)))),?_⟩
  try dsimp only[c4,c5,c6,c7]
  refine⟨_,I,p,ak,l,j,v,t,e,I,dk,aD,b2,az,dt,_,M.sub aG,?_⟩
  exact q _ _ M I aG
 |_=>cases az
theorem Xo(ab7:∀d,bc d=ah->∃s,Good s/\s.length<=1000/\m6 s/\d=.tup [.int (cX s).1,.int (cX s).2]/\fw d=jD s)(F:dG K "draw" "Fraction.draw" zG f fd)(wW:bq P w K mg base 5 "draw_fraction" ["source"] (IU C)):de P w K mg base dv 6 f fd ["self","source"] (km has bc fw c C n (.b 3)):=by
 refine F.fK Vn (fun bx A _ s H vs Q E ax h=>?_)
 obtain⟨o,p,ak,cm,d,l,j,t,e,X,rfl,hs,dr,aL,di,dk,aD,b2,eB,dJ,az,dt,q⟩:=h
 have:=ng hs
 subst this
 rw[bf]at q dt
 rw[bw]at az
 have az:bc d=ah:=by cases d<;>exact az
 have g6:Bt fw 3 d=fw d:=by cases d<;>rfl
 rw[g6]at q dt
 obtain⟨s,aX,tE,b1,rfl,kd⟩:=ab7 d az
 rw[kd]at q dt
 have gA:=dM.step (j':=j+(jD s).length) (t':=t) (e':=e) dk
 refine⟨_,(aR (bB (b6 wW ax (al (ab 1) aB)))),?_⟩
 try dsimp only[c4,c5,c6,c7]
 refine⟨_,I,p,ak,l,j,s,t,e,I,dk,aD,b2,aX,tE,b1,dt,fun r fJ=>?_⟩
 have nG:r≠p:=fun z=>by rw[z,dk]at fJ;cases fJ
 have E:=Ext.tup (xs:=[.int (cX s).1,.int (cX s).2]) (show upd H p (e5 C ak l (j+(jD s).length) t e) r=aw by rw[bK nG];exact fJ)
 have M:=gA.ext E
 have fresh:r∉X:=fun z=>by
  obtain⟨O5,jC⟩:=dJ _ z
  rw[fJ]at jC;cases jC
 exact⟨_,M.sub (E.s _ _ aG),q _ _ M ⟨r,[.int (cX s).1,.int (cX s).2],I,fresh,aG,⟨.int (cX s).1,[.int (cX s).2],I,I,⟨.int (cX s).2,[],I,I,I⟩⟩,by simp⟩ (E.s _ _ aG)⟩
noncomputable def wu{α:Type}(a0 a1 a2 a3 a4 a5 a6 a7 a8 a9 a10:α):e7->α
 |.b 0=>a0
 |.b 1=>a1
 |.b 2=>a2
 |.b _=>a3
 |.s=>a4
 |.l=>a5
 |.o 0=>a6
 |.o 1=>a7
 |.o _=>a8
 |.t 0=>a9
 |.t _=>a10
theorem sZ{p:e7->Prop}(bg:p (.b 0))(ai:p (.b 1))(aj:p (.b 2))(bE:p (.b 3))(cQ:p .s)(eN:p .l)(jj:p (.o 0))(nt:p (.o 1))(nu:p (.o 2))(oA:p (.t 0))(G1:p (.t 1)):∀i,p i
 |.b k=>by rcases vr k with rfl|rfl|rfl|rfl<;>assumption
 |.s=>cQ
 |.l=>eN
 |.o k=>by rcases rH k with rfl|rfl|rfl<;>assumption
 |.t k=>by rcases td k with rfl|rfl<;>assumption
def ri(K:bM)(c:eQ)(m:ae)(q:e7->ae)(st:e7->bD)(aK:List ae):Prop:=∀i,MethAt K (fW c i) m (q i) (st i) aK
theorem fp{K:bM}{C:af}{m:ae}{st:bD}{sp:cD}(M:MethAt K C m q st aK)(h:∀f fd,dG K m q st f fd->de P w K mg base dv k f fd aK sp):hb P w K mg base k C m aK sp/\fY K C:=by
 obtain⟨f,fd,G,ag,hm⟩:=M.ex
 exact⟨⟨f,fd,h f fd G,ag,hm⟩,M.cl⟩
structure z6(K:bM)(c:eQ):Prop where
 Jb:uX K c.s
 I9:sG K c.l
 qY:∀k,kL K (c.o k)
 ud:∀k,na K (c.t k)
noncomputable def hasAll:e7->Bool:=fun _=>ah
noncomputable def Gd:e7->ae:=wu "Nothing.fits" "Truth.fits" "Whole.fits" "Fraction.fits" "Span.fits" "Letters.fits" "Maybe.fits" "Many.fits" "Turned.fits" "Record.fits" "Choice.fits"
noncomputable def Gh:e7->bD:=wu zI An Al zF Av zN Aq Ay zR zW zY
noncomputable def Fu:e7->ae:=wu "Nothing.written" "Truth.written" "Whole.written" "Fraction.written" "Span.written" "Letters.written" "Maybe.written" "Many.written" "Turned.written" "Record.written" "Choice.written"
noncomputable def FA:e7->bD:=wu Ac zD zC Aa zH Wp zE zM Ad Ae Ag
noncomputable def Ge:e7->ae:=wu "Nothing.draw" "Truth.draw" "Whole.draw" "Fraction.draw" "Span.draw" "Letters.draw" "Maybe.draw" "Many.draw" "Turned.draw" "Record.draw" "Choice.draw"
noncomputable def Gi:e7->bD:=wu zL Ao Am zG Aw zO Ar Az zS zX zZ
theorem Y1(nb:dT mg)(L:z6 K c)(S:ri K c "fits" Gd Gh ["self","value"])(pR:gX mg "MOST_VALUES" (.int 60))(pQ:gX mg "LONGEST_TEXT" (.int 200))(m3:bq P w K mg base 1 "is_number" ["value"] y8)(su:bq P w K mg base 2 "has_whole_row" ["n"] IX)(n9:bq P w K mg base 1 "made_of" ["text","signs"] y9)(wX:bq P w K mg base 3 "has_fraction_row" ["fraction"] IW):∀n,hq P w K mg base (2*n+4) "fits" ["self","value"] (fW c) (jZ hasAll bV c n):=by
 intro n
 induction n with
 |zero=>exact fun i=>⟨Fw (S i) (fun vs H Q E z=>by obtain⟨o,f,_,_,_,_,_,_,h,_⟩:=z;have:=vh f;omega),(S i).cl⟩
 |succ n bT=>exact sZ (fp (S _) fun _ _ G=>(XX G).mono (by omega)) (fp (S _) fun _ _ G=>(Zz G).mono (by omega)) (fp (S _) fun _ _ G=>(Zy G m3 su).mono (by omega)) (fp (S _) fun _ _ G=>(Xn nb G m3 wX).mono (by omega)) (fp (S _) fun _ _ G=>(T1 L.Jb G m3).mono (by omega)) (fp (S _) fun _ _ G=>(XY nb pQ L.I9 G n9).mono (by omega)) (fp (S _) fun _ _ G=>(ZA nb (L.qY 0) G bT).mono (by omega)) (fp (S _) fun _ _ G=>(T2 nb pR (L.qY 1) G bT).mono (by omega)) (fp (S _) fun _ _ G=>(YJ (L.qY 2) G bT).mono (by omega)) (fp (S _) fun _ _ G=>(YK nb (L.ud 0) G bT).mono (by omega)) (fp (S _) fun _ _ G=>(YL nb (L.ud 1) G bT).mono (by omega))
theorem Xt(nb:dT mg)(L:z6 K c)(S:ri K c "written" Fu FA ["self","value"])(xc:hb P w K mg base 1 c.l "places" ["self","text"] (I2 c.l))(ra:bq P w K mg base 3 "whole_row" ["n"] AB)(n8:bq P w K mg base 2 "fixed_row" ["n","most"] y6)(oa:bq P w K mg base 1 "turned_row" ["row"] xm)(q9:bq P w K mg base 1 "steps_of" ["fraction"] C6)(wZ:bq P w K mg base 4 "row_of_steps" ["steps"] I3):∀n,hq P w K mg base (2*n+4) "written" ["self","value"] (fW c) (jI hasAll bV bW c n):=by
 intro n
 induction n with
 |zero=>exact fun i=>⟨Fw (S i) (fun vs H Q E z=>by obtain⟨o,f,_,_,_,_,_,_,h,_⟩:=z;have:=vh f;omega),(S i).cl⟩
 |succ n bT=>exact sZ (fp (S _) fun _ _ G=>(U6 G).mono (by omega)) (fp (S _) fun _ _ G=>(Vq G).mono (by omega)) (fp (S _) fun _ _ G=>(Vd G ra).mono (by omega)) (fp (S _) fun _ _ G=>(U4 G q9 wZ).mono (by omega)) (fp (S _) fun _ _ G=>(Zip L.Jb G n8).mono (by omega)) (fp (S _) fun _ _ G=>(U7 nb L.I9 G (S .l).cl xc n8).mono (by omega)) (fp (S _) fun _ _ G=>(Vr nb (L.qY 0) G bT).mono (by omega)) (fp (S _) fun _ _ G=>(VF nb (L.qY 1) G bT).mono (by omega)) (fp (S _) fun _ _ G=>(Ve (L.qY 2) G oa bT).mono (by omega)) (fp (S _) fun _ _ G=>(Vf nb (L.ud 0) G bT).mono (by omega)) (fp (S _) fun _ _ G=>(Vh nb (L.ud 1) G n8 bT).mono (by omega))
theorem S5{C:af}(nb:dT mg)(L:z6 K c)(S:ri K c "draw" Ge Gi ["self","source"])(ff:fY K C)(pR:gX mg "MOST_VALUES" (.int 60))(pQ:gX mg "LONGEST_TEXT" (.int 200))(gY:hb P w K mg base 1 C "draw" ["self"] (o5 C))(lR:hb P w K mg base 1 C "turn" ["self"] (zc C))(lQ:hb P w K mg base 1 C "refuse" ["self"] ua)(n7:bq P w K mg base 2 "draw_fixed" ["source","most"] (y5 C))(q8:bq P w K mg base 4 "draw_whole" ["source"] (CZ C))(wW:bq P w K mg base 5 "draw_fraction" ["source"] (IU C)):∀n,hq P w K mg base (2*n+4) "draw" ["self","source"] (fW c) (km hasAll bV bW c C n):=by
 intro n
 induction n with
 |zero=>exact fun i=>⟨Fw (S i) (fun vs H Q E z=>by obtain⟨o,_,_,f,_,_,_,_,_,_,_,_,_,_,h,_⟩:=z;have:=vh f;omega),(S i).cl⟩
 |succ n bT=>exact sZ (fp (S _) fun _ _ G=>(X0 G).mono (by omega)) (fp (S _) fun _ _ G=>(SQ ff G gY).mono (by omega)) (fp (S _) fun _ _ G=>(SP G q8).mono (by omega)) (fp (S _) fun _ _ G=>(Xo (fun _ h=>E8 h) G wW).mono (by omega)) (fp (S _) fun _ _ G=>(T8 L.Jb G n7).mono (by omega)) (fp (S _) fun _ _ G=>(X1 nb pQ ff L.I9 G gY lQ n7).mono (by omega)) (fp (S _) fun _ _ G=>(SR ff (L.qY 0) G gY bT).mono (by omega)) (fp (S _) fun _ _ G=>(T9 nb pR ff (L.qY 1) G gY lQ bT).mono (by omega)) (fp (S _) fun _ _ G=>(YT ff (L.qY 2) G lR bT).mono (by omega)) (fp (S _) fun _ _ G=>(YU nb (L.ud 0) G bT).mono (by omega)) (fp (S _) fun _ _ G=>(YV nb (L.ud 1) G n7 bT).mono (by omega))
def zb(has:e7->Bool)(bc:D->Bool)(fw:D->List Bool)(c:eQ)(n:Nat):cD:=fun vs H Q E=>∃i,jI has bc fw c n i vs H Q E
theorem WR(F:dG K "row" "Form.row" kR f fd)(lb:hq P w K mg base (2*n+4) "fits" ["self","value"] (fW c) (jZ has bc c n))(lg:hq P w K mg base (2*n+4) "written" ["self","value"] (fW c) (jI has bc fw c n)):de P w K mg base dv (2*n+4+1) f fd ["self","value"] (zb has bc fw c n):=by
 refine F.fK W8 (fun bx A _ s H vs Q E ax h=>?_)
 obtain⟨dp,o,cm,v,d,rfl,hs,dr,aL,di,hd,az,aD,q⟩:=h
 obtain⟨fG,fH,eI,li⟩:=cd.fits cm dr
 obtain⟨ZZ,aaW,hK,adN⟩:=cd.written cm dr
 refine⟨_,(aI (cE (jP (hi (ij lb ax (ab 0) (al (ab 1) aB) (hk:=by omega)))) (aR lz) cF)
  (aR (bB (ij lg ax (ab 0) (al (ab 1) aB) (hk:=by omega))))),?_⟩
 try dsimp only[c4,c5,c6,c7]
 refine⟨_,I,o,slot cm,fG,fH,I,eI,li,_,I,o,cm,v,d,I,I,dr,aL,di,hd,az,ah,I,?_⟩
 refine dW ⟨_,I,o,slot cm,ZZ,aaW,I,hK,adN,_,I,o,cm,v,d,I,I,dr,aL,di,hd,az,aD,H,.refl (dx _),q⟩
theorem cd.row{c:eQ}(f:ba){o:af}(h:cd c X H f o):∃ak fs,H o=J (.ins (fW c (slot f)) ak fs)/\fs.lookup (ae.ofString "row")=aw :=
 cd.ins (m:=ae.ofString "row") (by decide+kernel) (by decide+kernel) (by decide+kernel) (by decide+kernel) (by decide+kernel) (by decide+kernel) f h
theorem Ud(S:ri K c "row" (fun _=>"Form.row") (fun _=>kR) ["self","value"])(lb:hq P w K mg base (2*n+4) "fits" ["self","value"] (fW c) (jZ has bc c n))(lg:hq P w K mg base (2*n+4) "written" ["self","value"] (fW c) (jI has bc fw c n)):hq P w K mg base (2*n+5) "row" ["self","value"] (fW c) (fun _=>zb has bc fw c n):=fun i=>fp (S i) fun _ _ G=>WR G lb lg
theorem dM.new(x:Ext H H1)(bg:H p=aw)(m:dM p H1 av):Ext H av:=⟨fun b u e=>m.k b u (fun z=>by rw[z,bg]at e;cases e) (x.s b u e),fun cl=>m.c (x.c cl)⟩
theorem Dj{p:e1->Prop}{D:Ends}(T:e1)(h:p T)(g:∀(G:Prop)(cg:St),cg=U->(T D cg H->G)->G):∃T,p T/\T D U H:=g _ U rfl fun k=>⟨T,h,k⟩
theorem hO{JN:bM}{R:e1}{D:Ends}{w:V}{r:List V}(ao:U[i]?=J (J (.ref T)))(e:H T=J (.tup (w::r)))(h:R D (U.set j (J w)) H):kH (wB (lL (fun x y H Q=>(IG JN x y H Q\/II JN x y H Q)\/IH x y H Q) (o8 i) (lK (.int 0))) (vu j)) R D U H:=⟨_,ao,.inl (.inr ⟨_,_,_,_,rfl,rfl,bI e,cB (j:=0) rfl,h⟩)⟩
theorem fe{w:ae}{R:e1}{D:Ends}(ao:U[i]?=J (J (.str x)))(aW:¬V.str x=V.str w)(h:R D U H):kH (wC (qZ (lL qS (o8 i) (lK (.str w)))) S wD) R D U H:=⟨_,ao,rfl,_,rfl,fx aW h⟩
theorem j5{w:ae}{R:e1}{D:Ends}(ao:U[i]?=J (J (.str w)))(h:∀N:St->aq->Prop,S {D with nx:=N} U H):kH (wC (qZ (lL qS (o8 i) (lK (.str w)))) S wD) R D U H:=⟨_,ao,rfl,_,rfl,iK rfl (h _)⟩
theorem Jc{w:ae}{R:e1}{D:Ends}(ao:U[i]?=J (J (.str w)))(h:∀N:St->aq->Prop,(∀U H,R D U H->N U H)->S {D with nx:=N} U H):kH (wC (qZ (lL qS (o8 i) (lK (.str w)))) S wD) R D U H:=⟨_,ao,rfl,_,rfl,iK rfl (h _ fun _ _ z=>z)⟩
theorem Q5{w:ae}{R:e1}{D:Ends}(ao:U[i]?=J (J (.str x)))(hw:x=w\/x=ie)(h:∀N:St->aq->Prop,S {D with nx:=N} U H):kH (wC (Ja (qZ (lL qS (o8 i) (lK (.str w)))) (qZ (lL qS (o8 i) (lK (.str ie))))) S wD) R D U H:=by
 by_cases z:x=w
 .subst z;exact⟨_,ao,I,_,I,iK I (h _)⟩
 ·obtain rfl:=hw.resolve_left z
  exact⟨_,ao,I,_,I,fx (fun e=>z (V.str.inj e)) ⟨_,ao,I,_,I,iK I (h _)⟩⟩
theorem t8{w:ae}{R:e1}{D:Ends}(ao:U[i]?=J (J (.str x)))(aW:¬V.str x=V.str w)(kW:¬V.str x=V.str ie)(h:R D U H):kH (wC (Ja (qZ (lL qS (o8 i) (lK (.str w)))) (qZ (lL qS (o8 i) (lK (.str ie))))) S wD) R D U H:=⟨_,ao,rfl,_,rfl,fx aW ⟨_,ao,rfl,_,rfl,fx kW h⟩⟩
theorem fT{R:e1}{D:Ends}(h:∀N:St->aq->Prop,(∀U H,R D U H->N U H)->S {D with nx:=N} U H):kH S R D U H:=h _ fun _ _ z=>z
inductive Qh(vs:List V)(H:aq)(Q:bJ)(E:cN):Prop where
 |mk (c:Int) (bg:vs=[.int c]) (ai:∀n:Nat,n+1<2^255->Q (.int n) H):Qh  vs H Q E
def Qg:cD:=fun vs H Q E=>Qh  vs H Q E
theorem Y8(c:Int)(bg:c%5≠0)(ai:c%5≠1):∃M:Int,ey [V.int 5,V.int 40,V.int 1000] (c%5-2)=J (.int M)/\0<M/\M<=1000:=by
 have h:c%5-2=((0:Nat):Int)\/c%5-2=((1:Nat):Int)\/c%5-2=((2:Nat):Int):=by omega
 rcases h with h|h|h<;>rw[h]
 .exact⟨_,cB I,by decide,by decide⟩
 .exact⟨_,cB I,by decide,by decide⟩
 .exact⟨_,cB I,by decide,by decide⟩
theorem Uy{x:Int}(h:0<=x):∃n:Nat,x=n:=⟨x.toNat,by omega⟩
theorem Um(r:Int)(h:0<=r):(2:Int)<=1*2^(1+r).toNat:=by
 have e:(1+r).toNat=r.toNat+1:=by omega
 rw[e,Int.one_mul,Int.pow_succ]
 have:(0:Int)<2^r.toNat:=Int.pow_pos (by decide)
 omega
theorem Gv:(1:Int)*2^(255:Int).toNat=2^255:=by decide
theorem Xi(nb:dT mg)(F:d1 K mg "_law_near" Fg ["_law_cell"] f fd):bq P w K mg base 1 "_law_near" ["_law_cell"] Qg:=by
 refine F.eO KI (fun bx A _ s H vs Q E ax h=>?_)
 obtain⟨c,rfl,q⟩:=h
 refine⟨_,(aI (bO 1 KI.bo (aN hh (ab 0) aC))
  (aI (cE (b0 c2 (aN dI (ab 0) aC) aC) (aR (bB (aN dI (ab 1) (aN gj (aN Gf aC aC) aC)))) cF)
  (aI (cE (b0 c2 (aN dI (ab 0) aC) aC) (aR (bB (b9 (AV rfl) rfl nb.CA Bn (al (aN eb (aN gj (aN Gf aC (aN eb aC (aN dI (ab 1) aC))) aC) (aN dI (aN hh (ab 1) aC) aC)) (al (aN gj (aN Gf aC aC) aC) aB))))) cF)
  (aR (bB (aN dI (ab 1) (bG bH (h6 (al aC (al aC (al aC aB)))) (aN gj (aN dI (ab 0) aC) aC)))))))),?_⟩
 try dsimp only[c4,c5,c6,c7]
 have ck:∀(x:Int)(H':aq),0<=x->x+1<2^255->ef H H'->kt H H' (Q (.int x)):=fun x H' bg ai hs=>by
  obtain⟨n,rfl⟩:=Uy bg
  exact⟨H,.refl hs,q n (by omega)⟩
 refine⟨_,I,_,_,I,I,⟨by decide,by decide⟩,?_⟩
 refine⟨_,I,_,_,I,I,(by show(0:Int)<5;decide),I,_,I,?_⟩
 refine e2 (fun a=>?_) (fun a=>?_)
 ·have p:(0:Int)<2^255-1:=by decide
  refine⟨_,I,_,_,I,I,⟨by decide,by decide,by decide⟩,_,_,rfl,rfl,_,_,rfl,rfl,by(try dsimp only);rw[Gv];exact p,?_⟩
  try dsimp only
  rw[Gv]
  refine ck _ _ (hT _ (by decide)) ?_ (dx _)
  have:=h5 (c/5) p
  omega
 ·refine⟨_,I,_,_,I,I,(by show(0:Int)<5;decide),I,_,I,?_⟩
  refine e2 (fun b=>?_) (fun b=>?_)
  ·refine⟨_,I,_,_,I,I,(by show(0:Int)<255;decide),.inl ⟨_,_,I,I,?_⟩⟩
   have k3:=hT (c/5) (show(255:Int)≠0 by decide)
   have cv:=h5 (c/5) (show(0:Int)<255 by decide)
   refine⟨_,_,I,I,⟨by omega,by omega,by decide⟩,_,_,rfl,rfl,?_⟩
   refine⟨_,I,_,_,I,I,⟨by decide,by decide⟩,_,_,rfl,rfl,(by show(0:Int)<3;decide),.inl ⟨_,_,rfl,rfl,?_⟩⟩
   refine⟨_,_,I,I,⟨by decide,by decide,by decide⟩,_,_,rfl,rfl,_,_,rfl,?_⟩
   have g:=Um (c/5%255) k3
   have s0:=hT (c/5/255) (show(3:Int)≠0 by decide)
   dsimp only
   rw[Gv]
   have big:(2:Int)<=2^255:=by decide
   refine ck _ _ ?_ ?_ (dx _)
   .split<;>omega
   .split<;>omega
  ·obtain⟨M,x7,xa,gA⟩:=Y8 c (fun z=>a (congrArg V.int z)) (fun z=>b (congrArg V.int z))
   refine⟨_,I,(by show 3<=cj;decide),fun r dt=>⟨_,I,_,_,I,I,(by show(0:Int)<5;decide),_,_,I,I,.inl (.inl ⟨_,_,_,_,I,I,bb aG,x7,_,_,I,I,xa,?_⟩)⟩⟩
   have m0:=hT (c/5) (Int.ne_of_gt xa)
   have fj:=h5 (c/5) xa
   have big:(2:Int)+1000<=2^255:=by decide
   exact ck _ _ m0 (by omega) (dg dt)
inductive Qz(vs:List V)(H:aq)(Q:bJ)(E:cN):Prop where
 |mk (c:Int) (bg:vs=[.int c]) (ai:∀n:Int,hW n->Q (.int n) H):Qz  vs H Q E
def I4:cD:=fun vs H Q E=>Qz  vs H Q E
theorem Wj(F:d1 K mg "_law_signed" EP ["_law_cell"] f fd)(zw:bq P w K mg base 1 "_law_near" ["_law_cell"] Qg):bq P w K mg base 2 "_law_signed" ["_law_cell"] I4:=by
 refine F.eO V6 (fun bx A _ s H vs Q E ax h=>?_)
 obtain⟨c,rfl,q⟩:=h
 refine⟨_,(aI (cE (b0 c2 (aN dI (ab 0) aC) aC) (aR (bB (aN gj (lB ll aC) (b6 zw ax (al (aN hh (ab 0) aC) aB))))) cF)
  (aR (bB (b6 zw ax (al (aN hh (ab 0) aC) aB))))),?_⟩
 try dsimp only[c4,c5,c6,c7]
 refine⟨_,I,_,_,I,I,(by show(0:Int)<2;decide),I,_,I,?_⟩
 refine e2 (fun a=>?_) (fun a=>?_)
 .refine⟨_,I,_,I,_,_,I,I,⟨by decide,by decide⟩,_,rfl,fun n aW=>⟨_,_,rfl,rfl,H,.refl (dx _),q _ ⟨?_,?_⟩⟩⟩<;>omega
 .refine⟨_,I,_,_,I,I,⟨by decide,by decide⟩,_,rfl,fun n aW=>⟨H,.refl (dx _),q _ ⟨?_,?_⟩⟩⟩<;>omega
theorem u9(f:α->V)(xs:List α)(c m:Int)(hm:m=xs.length)(h:0<xs.length):∃n,n∈xs/\ey (xs.map f) (c%m)=J (f n):=by
 subst hm
 have ai:=hT c (b:=(xs.length:Int)) (by omega)
 have aj:=h5 c (b:=(xs.length:Int)) (by omega)
 obtain⟨k,hk⟩:=Int.eq_ofNat_of_zero_le ai
 rw[hk]
 have qJ:k<xs.length:=by omega
 exact⟨xs[k],List.getElem_mem qJ,cB (by rw[eL,cp qJ];rfl)⟩
theorem iD(c:Int)(n:Nat)(h:0<n):∃k:Nat,k<n/\c%((n:Nat):Int)=((k:Nat):Int):=by
 have ai:=hT c (b:=(n:Int)) (by omega)
 have aj:=h5 c (b:=(n:Int)) (by omega)
 obtain⟨k,hk⟩:=Int.eq_ofNat_of_zero_le ai
 exact⟨k,by omega,hk⟩
inductive Qo(K:bM)(vs:List V)(H:aq)(Q:bJ)(E:cN):Prop where
 |mk (a:af) (ns:List Int) (bg:vs=[.ref a]) (ai:cK K H a (ns.map V.int)) (aj:ns.length<=63) (bE:∀(p:af)(ms:List Int),H p=aw->ms.length<=90->Q (.ref p) (upd H p (.lst (ms.map V.int)))):Qo K vs H Q E
def Qn(K:bM):cD:=fun vs H Q E=>Qo K vs H Q E
theorem Xh(nb:dT mg)(F:d1 K mg "_law_pool" Fe ["_law_script"] f fd):bq P w K mg base 1 "_law_pool" ["_law_script"] (Qn K):=by
 refine F.eO sM (fun bx A _ s H vs Q E ax h=>?_)
 obtain⟨a,ns,rfl,dk,aD,q⟩:=h
 refine⟨_,(aI (bO 1 sM.bo (h6 aB))
  (aI (kK h2.never rfl (lY rfl nb.k4 (al (aN k0 aC (b9 (AV rfl) rfl nb.CA Bn (al aC (al (b9 du rfl nb.dn dq (al (ab 0) aB)) aB)))) aB)) (d7 (i:=2) sM.bo rfl (by exact Or.inl I))
   (aI (bO 3 sM.bo (aN eb (bG bH (ab 0) (aN dI (ab 2) (b9 (AV rfl) rfl nb.CA Bn (al aC (al (b9 du rfl nb.dn dq (al (ab 0) aB)) aB))))) (aN k0 (aN hh (ab 2) (b9 du rfl nb.dn dq (al (ab 0) aB))) (aN eb (aN k0 (aN k0 (ab 2) (ab 2)) aC) aC))))
   (aI (cE (b0 c2 (aN dI (aN hh (bG bH (ab 0) aC) aC) aC) aC) (aI (bO 3 sM.bo (aN dI (aN eb (aN eb (aN k0 (ab 3) aC) (aN k0 (ab 2) aC)) aC) aC))
    (aI (bO 3 sM.bo (aN dI (aN k0 (ab 3) (ab 3)) aC))
    (aR (bO 3 sM.bo (aN eb (aN k0 (ab 3) aC) (aN dI (aN k0 (ab 3) (ab 3)) aC)))))) cF)
   (aR (iW (hV PySem.F.plainAttrs_list PySem.F.slot_list_append PySem.F.type_list_append qo (ab 1) (al (ab 3) aB)))))))
  (aR (bB (ab 1))))),?_⟩
 try dsimp only[c4,c5,c6,c7]
 refine⟨UF _,fun p aY=>?_⟩
 have s0:=dg (o:=df.lst []) aY
 refine⟨_,I,_,_,I,.inl ⟨_,s0.seq dk,I⟩,_,_,I,.inl ⟨_,_,I,I,.inl ⟨by decide,by decide⟩,?_⟩⟩
 rw[cw]
 refine⟨_,I,?_,?_,?_⟩
 .split<;>omega
 .split<;>omega
 have b5:(90*(if((ns.length:Nat):Int)<1 then((ns.length:Nat):Int)else 1)).toNat=if ns.length=0 then 0 else 90:=by split<;>split<;>omega
 rw[b5]
 refine pC (fun i U av=>∃(ms:List Int)(cP cL:Option V),U=[J (.ref a),J (.ref p),cP,cL]/\ms.length=i/\av=upd H p (.lst (ms.map V.int))) ?_ ?_ ?_
 .exact⟨[],aw,aw,I,I,I⟩
 ·rintro i U av ay ⟨ms,cP,cL,rfl,hm,rfl⟩
  have qN:ns.length≠0:=fun z=>by rw[if_pos z]at ay;omega
  rw[if_neg qN]at ay
  have hs:=(dg (o:=df.lst (ms.map V.int)) aY).seq dk
  obtain⟨k,hk,kU⟩:=iD (0+((i:Nat):Int)) (min 63 ns.length) (by omega)
  have qJ:k<ns.length:=by omega
  have jk:ey (ns.map V.int) ((k:Nat):Int)=J (.int ns[k]):=cB (by rw[eL,cp qJ];rfl)
  have abI:ey (ns.map V.int) 0=J (.int ns[0]):=cB (j:=0) (by rw[eL,cp (by omega)];rfl)
  have em:(if(((ns.map V.int).length:Nat):Int)<63 then(((ns.map V.int).length:Nat):Int)else 63)=((min 63 ns.length:Nat):Int):=by rw[cw];split<;>omega
  have hj:=Int.ediv_nonneg (a:=0+((i:Nat):Int)) (b:=(((ns.map V.int).length:Nat):Int)) (by omega) (by omega)
  have iF:=Int.ediv_le_self (a:=0+((i:Nat):Int)) (((ns.map V.int).length:Nat):Int) (by omega)
  have lm:(((ns.map V.int).length:Nat):Int)=((ns.length:Nat):Int):=by rw[cw]
  refine⟨_,I,_,I,_,I,_,_,I,.inl ⟨_,hs,I⟩,_,_,I,_,_,I,I,(by rw[em];omega),.inl (.inl ⟨_,_,_,_,I,I,hs,(by rw[em,kU];exact jk),?_⟩)⟩
  refine⟨_,I,_,I,_,_,I,.inl ⟨_,hs,I⟩,_,_,I,I,⟨by omega,by omega⟩,?_⟩
  refine⟨_,I,_,I,.inl ⟨_,_,I,I,.inl ⟨by omega,by omega⟩,.inl ⟨_,_,rfl,rfl,.inr ⟨by decide,by decide⟩,.inl ⟨_,_,rfl,rfl,.inl ⟨_,_,rfl,rfl,.inl ⟨by omega,by omega⟩,.inl ⟨_,_,rfl,rfl,?_⟩⟩⟩⟩⟩⟩
  have ck:∀(n:Int)(cP:Option V),∃(OV:List Int)(cP cL:Option V),[J (V.ref a),J (V.ref p),J (V.int (0+((i:Nat):Int))),J (V.int n)]=[J (.ref a),J (.ref p),cP,cL]/\OV.length=i+1/\upd (upd H p (.lst (ms.map V.int))) p (.lst (ms.map V.int++[V.int n]))=upd H p (.lst (OV.map V.int)):=fun n cP =>
   ⟨ms++[n],_,_,rfl,by rw[dX,hm];rfl,by rw[fN,fo];rfl⟩
  have cM:(ms.map V.int).length<cj:=by rw[cw];exact fB (show ms.length<100000 by omega) (by decide)
  refine⟨_,I,.inl (.inl ⟨_,_,_,_,I,I,hs,abI,_,_,I,I,⟨by decide,by decide⟩,_,_,rfl,rfl,(by show(0:Int)<2;decide),rfl,_,rfl,e2 (fun fu=>?_) (fun fu=>?_)⟩)⟩
  ·refine⟨_,I,.inl ⟨_,_,I,I,.inr ⟨by decide,by decide⟩,_,rfl,.inl ⟨_,_,rfl,rfl,.inr ⟨by decide,by decide⟩,.inl ⟨_,_,rfl,rfl,.inl ⟨_,_,rfl,rfl,_,_,rfl,rfl,(by show(0:Int)<2147483629;decide),?_⟩⟩⟩⟩⟩
   dsimp only
   generalize dJ:((ns[k]+(0+((i:Nat):Int))/_*_)*48271+(0+((i:Nat):Int))*69621+11)=X
   have fj:=hT X (show(2147483629:Int)≠0 by decide)
   have kD:=h5 X (show(0:Int)<2147483629 by decide)
   generalize X%2147483629=m at fj kD ⊢
   refine⟨_,I,_,I,.inl ⟨_,_,I,I,.inl ⟨by omega,by omega⟩,_,_,rfl,rfl,(by show(0:Int)<2147483587;decide),?_⟩⟩
   dsimp only
   have yK:=hT (m*m) (show(2147483587:Int)≠0 by decide)
   have tJ:=h5 (m*m) (show(0:Int)<2147483587 by decide)
   generalize m*m%2147483587=v at yK tJ ⊢
   refine⟨_,I,.inl ⟨_,_,I,I,.inl ⟨by omega,by omega⟩,_,rfl,_,rfl,.inl ⟨_,_,rfl,rfl,.inl ⟨by omega,by omega⟩,_,_,rfl,rfl,(by show(0:Int)<2147483563;decide),.inl ⟨_,_,rfl,rfl,?_⟩⟩⟩⟩
   refine⟨_,I,.inl ⟨I,_,bb aG⟩,_,I,p,_,_,I,I,aG,cM,?_⟩
   exact ck _ aw
  ·refine⟨_,I,.inl ⟨I,_,bb aG⟩,_,I,p,_,_,I,I,aG,cM,?_⟩
   exact ck _ aw
 ·rintro U av ⟨ms,cP,cL,rfl,hm,rfl⟩
  refine⟨_,I,_,.new aY (dg aY) aG trivial,q p ms aY ?_⟩
  split at hm<;>omega
theorem ahc{n:Nat}(h:0<n):seqIndex? 0 n=J 0:=by
 obtain⟨j,ai,aj,_⟩:=Bj (xs:=List.range n) (i:=0) (v:=0) (cB (j:=0) (by rw[List.getElem?_range h]))
 rw[kQ]at ai
 rw[g5]at aj
 obtain⟨_,z⟩:=aj
 rw[List.getElem_range]at z
 rw[ai,z]
inductive Qj(vs:List V)(H:aq)(Q:bJ)(E:cN):Prop where
 |mk (p:_) (bg:vs=[.ref p]) (ai:m5 p H) (aj:∀(c:Int)(ns:List Int),ns.length<=90->Q (.int c) (upd H p (.lst (ns.map V.int)))):Qj  vs H Q E
def za:cD:=fun vs H Q E=>Qj  vs H Q E
noncomputable def pl(H:aq)(p:af):Nat:=match H p with|some (.lst vs)=>vs.length|_=>0
theorem s3(h:H p=J (.lst vs)):pl H p=vs.length:=by unfold pl;rw[h]
inductive Qi(vs:List V)(H:aq)(Q:bJ)(E:cN):Prop where
 |mk (p:_) (bg:vs=[.ref p]) (ai:m5 p H) (aj:∀(c:Int)(ns:List Int),ns.length<=90->(pl H p=ns.length+1\/pl H p=0/\ns=[]/\c=0)->Q (.int c) (upd H p (.lst (ns.map V.int)))):Qi  vs H Q E
def wy:cD:=fun vs H Q E=>Qi  vs H Q E
theorem WL(nb:dT mg)(F:d1 K mg "_law_next" Ff ["_law_pool_here"] f fd):bq P w K mg base 1 "_law_next" ["_law_pool_here"] wy:=by
 refine F.eO W6 (fun bx A _ s H vs Q E ax h=>?_)
 obtain⟨p,rfl,⟨ns,aY,aD⟩,q⟩:=h
 have hm:=s3 aY
 rw[cw]at hm
 refine⟨_,(aI (cE (b0 c2 (b9 du I nb.dn dq (al (ab 0) aB)) aC) (aR (bB aC)) cF)
  (aR (bB (hV PySem.F.plainAttrs_list PySem.F.slot_list_pop PySem.F.type_list_pop Zr (ab 0) (al aC aB))))),?_⟩
 try dsimp only[c4,c5,c6,c7]
 refine⟨_,I,_,_,I,.inl ⟨_,bb aY,I⟩,I,_,I,?_⟩
 rw[cw]
 cases ns with
 |nil =>
  refine iK I ?_
  have bg:=q 0 [] aD (.inr ⟨hm,rfl,rfl⟩)
  rw[AN aY]at bg
  exact⟨H,.refl (dx _),bg⟩
 |cons c r =>
  refine fx (fun z=>nomatch z) ?_
  refine⟨_,I,.inl ⟨I,_,bb aY⟩,p,_,0,0,.int c,I,I,aY,by decide,by decide,ahc (by rw[cw];exact Nat.succ_pos _),rfl,?_⟩
  have rV:r.length<=90:=dE (Nat.le_succ _) aD
  exact⟨_,(d2.pop ⟨_,aY,aD⟩ rV).sub,q c r rV (.inl hm)⟩
theorem bq.less{sp:cD}(h:bq P w K mg base k x aK sp)(i:∀vs H Q E,y4 vs H Q E->sp vs H Q E):bq P w K mg base k x aK y4:=by
 obtain⟨f,fd,F,r⟩:=h
 exact⟨f,fd,⟨fun vs H Q E q=>F.1 vs H Q E (i _ _ _ _ q),fun A outer s H args us vs Q E a b c d q=>F.2 A outer s H args us vs Q E a b c d (i _ _ _ _ q)⟩,r⟩
theorem Yy{E:cN}(h:za vs H Q E):wy vs H Q E:=by
 obtain⟨p,e,cG,q⟩:=h
 exact⟨p,e,cG,fun c ns aW _=>q c ns aW⟩
inductive QB(vs:List V)(H:aq)(Q:bJ)(E:cN):Prop where
 |mk (c:Int) (bg:vs=[.int c]) (ai:∀s:ae,oz s=ah->s.length<=60->Q (.str s) H):QB  vs H Q E
def QA:cD:=fun vs H Q E=>QB  vs H Q E
theorem WK(nb:dT mg)(F:d1 K mg "_law_signs" EZ ["_law_cell"] f fd):bq P w K mg base 1 "_law_signs" ["_law_cell"] QA:=by
 refine F.eO pE (fun bx A _ s H vs Q E ax h=>?_)
 obtain⟨c,rfl,q⟩:=h
 refine⟨_,(aI (bO 1 pE.bo cT)
  (aI (bO 2 pE.bo (aN eb aC (aN dI (ab 0) (bG bH (h6 (al aC (al aC (al aC (al aC aB))))) (aN dI (aN hh (ab 0) aC) aC)))))
  (aI (bO 3 pE.bo (aN hh (ab 0) aC))
  (aI (bO 4 pE.bo cT)
  (aI (kK h2.never rfl (lY rfl nb.k4 (al (ab 2) aB)) (d7 (i:=5) pE.bo rfl (by exact Or.inl I))
   (aI (bO 6 pE.bo (aN dI (ab 3) (b9 du rfl nb.dn dq (al (ab 1) aB))))
   (aI (bO 3 pE.bo (aN hh (ab 3) (b9 du rfl nb.dn dq (al (ab 1) aB))))
   (aI (bO 4 pE.bo (aN eb (ab 4) (bG bH (ab 1) (ab 6))))
   (aR (bO 1 pE.bo (aN eb (lA qW (ab 1) mu (kv (ab 6))) (lA qW (ab 1) (kv (aN eb (ab 6) aC)) mu))))))))
  (aR (bB (ab 4)))))))),?_⟩
 try dsimp only[c4,c5,c6,c7]
 refine⟨_,I,(by show 4<=cj;decide),fun g aX=>?_⟩
 obtain⟨x,ao,mO⟩:=u9 V.int [2,3,7,60] (c/60) 4 rfl (by show 0<4;decide)
 have vV:0<x/\x<=60:=by
  have:∀y∈([2,3,7,60]:List Int),0<y/\y<=60:=by decide
  exact this x ao
 refine⟨_,I,_,_,I,I,⟨by decide,by decide⟩,_,_,rfl,rfl,(by show(0:Int)<4;decide),.inl (.inl ⟨_,_,_,_,rfl,rfl,bb aG,mO,_,_,rfl,rfl,vV.1,.inl ⟨_,_,rfl,rfl,?_⟩⟩)⟩
 have v0:=hT c (show x≠0 by omega)
 have v1:=h5 c vV.1
 generalize c%x=m at v0 v1 ⊢
 obtain⟨n,rfl⟩:=Int.eq_ofNat_of_zero_le v0
 refine⟨_,I,_,_,I,I,⟨by decide,by decide⟩,?_⟩
 refine⟨_,I,_,I,by omega,by omega,?_⟩
 have b5:(1+((n:Nat):Int)).toNat=n+1:=by omega
 rw[b5]
 refine pC (fun i U av=>ef H av/\∃(rest found:ae)(num:Int)(cP cL fL:Option V),U=[J (.int c),J (.str rest),fL,J (.int num),J (.str found),cP,cL]/\rest.length=62-i/\found.length=i/\(found.cps.toList++rest.cps.toList).Perm qf.cps.toList) ?_ ?_ ?_
 ·refine⟨dg aX,qf,ae.ofString "",c/240,aw,aw,_,I,Ue,by decide+kernel,?_⟩
  rw[show(ae.ofString "").cps.toList=[] by decide+kernel]
  exact List.Perm.refl _
 ·rintro i U av ay ⟨hs,rest,found,num,cP,cL,fL,rfl,aD,az,aY⟩
  have yI:rest.length<=cj:=fb (by omega)
  obtain⟨k,hk,kU⟩:=iD num rest.length (by omega)
  obtain⟨cb,jk,aaj⟩:=Yc hk
  have gG:=Kv rest k (by omega)
  have eZ:=Kl rest (k+1) (by omega)
  refine⟨_,I,_,I,_,_,I,⟨yI,I⟩,_,_,I,I,(by omega),?_⟩
  dsimp only
  rw[kU]
  refine⟨_,I,_,I,_,_,I,⟨yI,I⟩,_,_,I,I,⟨by omega,by omega⟩,?_⟩
  refine⟨_,I,_,I,_,I,.inr ⟨_,_,_,I,I,yI,jk,.inr ⟨_,_,I,I,fb (by show _+1<=_;omega),?_⟩⟩⟩
  have aS:((k:Nat):Int)+1=((k+1:Nat):Int):=by omega
  refine⟨_,I,_,I,_,I,.inr ⟨_,I,yI,_,I,_,I,.inl ⟨_,_,I,I,_,I,.inr ⟨_,I,yI,.inr ⟨_,_,I,I,?_,?_⟩⟩⟩⟩⟩
  .rw[gG,aS,eZ];exact fb (by omega)
  ·rw[aS]
   refine⟨hs,_,_,_,_,_,_,I,?_,?_,?_⟩
   .rw[pH,gG,eZ];omega
   .rw[pH,az];rfl
   ·rw[vf,vf]
    exact(Yp aaj).trans aY
 ·rintro U av ⟨hs,rest,found,num,cP,cL,fL,rfl,aD,az,aY⟩
  exact⟨_,I,H,.refl hs,q _ (XU aY (by omega) (by omega)) (by omega)⟩
inductive Qe(vs:List V)(H:aq)(Q:bJ)(E:cN):Prop where
 |mk (c:Int) (m:Nat) (bg:vs=[.int c,.int ((m:Nat):Int)]) (ai:0<m) (aj:m<=20) (bE:∀(D:af)(ns:List ae),H D=aw->ns.length=m->lC ns=ah->Q (.ref D) (upd H D (.lst (ns.map V.str)))):Qe  vs H Q E
def C3:cD:=fun vs H Q E=>Qe  vs H Q E
theorem WM(nb:dT mg)(F:d1 K mg "_law_names" E0 ["_law_cell","_law_many"] f fd):bq P w K mg base 1 "_law_names" ["_law_cell","_law_many"] C3:=by
 refine F.eO oo (fun bx A _ s H vs Q E ax h=>?_)
 obtain⟨c,m,rfl,yl,hm,q⟩:=h
 refine⟨_,(aI (bO 2 oo.bo cT)
  (aI (bO 3 oo.bo (aN dI (ab 0) aC))
  (aI (bO 4 oo.bo (aN dI (aN hh (ab 0) aC) (aN eb (ab 3) aC)))
  (aI (bO 5 oo.bo (bG bH (h6 (al aC (al aC (al aC (al aC (al aC (al aC aB))))))) (aN dI (aN hh (aN hh (ab 0) aC) (aN eb (ab 3) aC)) aC)))
  (aI (bO 6 oo.bo (aN hh (aN hh (ab 0) aC) (aN eb (ab 3) aC)))
  (aI (bO 7 oo.bo (aN dI (ab 6) aC))
  (aI (bO 8 oo.bo cT)
  (aI (kK h2.never rfl (lY rfl nb.k4 (al (ab 3) aB)) (d7 (i:=9) oo.bo rfl (by first|exact Or.inl I|exact Or.inr I))
   (aI (bO 6 oo.bo (aN hh (ab 6) aC))
   (aR (bO 8 oo.bo (aN eb (ab 8) (bG bH (ab 2) (aN dI (ab 6) aC)))))))
  (aR (bB (ik ["_law_k"] [(8,"_law_stem"),(4,"_law_at"),(2,"_law_some"),(7,"_law_first"),(5,"_law_step")] rfl (by decide+kernel) ⟨rfl,.inl rfl,rfl,.inl rfl,rfl,.inl rfl,rfl,.inl rfl,rfl,.inl rfl,trivial⟩ (lY rfl nb.k4 (al (ab 1) aB)) (fun _ _ _ _ _=>(d7 (i:=0) (show(["_law_k","_law_stem","_law_at","_law_some","_law_first","_law_step"]:List ae).Nodup by decide+kernel))) (fun _ _ _ _ _=>hu) (fun _ _ _ _ _=>(aN eb (aN eb (lA qW (ab 1) mu (kv (ab 2))) (bG bH (ab 3) (aN dI (aN eb (ab 4) (aN k0 (ab 0) (ab 5))) aC))) (lA qW (ab 1) (kv (ab 2)) mu)))))))))))))),?_⟩
 try dsimp only[c4,c5,c6,c7]
 obtain⟨dD,gy,aaF⟩:=iD c 12 (by decide)
 have aaE:c%12=((dD:Nat):Int):=aaF
 obtain⟨a,aJ,Z7⟩:=iD (c/12) (dD+1) (by omega)
 have dz:c/12%(((dD:Nat):Int)+1)=((a:Nat):Int):=Z7
 refine⟨_,I,_,_,I,I,(by show(0:Int)<12;decide),?_⟩
 dsimp only
 rw[aaE]
 refine⟨_,I,_,_,I,I,⟨by decide,by decide⟩,_,rfl,.inl ⟨_,_,rfl,rfl,_,_,rfl,rfl,(by omega),?_⟩⟩
 dsimp only
 rw[dz]
 refine⟨(by show 6<=cj;decide),fun g aX=>?_⟩
 obtain⟨x,ao,mO⟩:=u9 V.int [1,3,5,7,9,11] (c/12/(((dD:Nat):Int)+1)) 6 rfl (by show 0<6;decide)
 have vV:0<x/\x<=11:=by
  have:∀y∈([1,3,5,7,9,11]:List Int),0<y/\y<=11:=by decide
  exact this x ao
 refine⟨_,I,_,_,I,I,⟨by decide,by decide⟩,_,rfl,.inl ⟨_,_,rfl,rfl,_,_,rfl,rfl,⟨by omega,by omega⟩,_,_,rfl,rfl,(by show(0:Int)<6;decide),.inl (.inl ⟨_,_,_,_,rfl,rfl,bb aG,mO,?_⟩)⟩⟩
 refine⟨_,I,_,_,I,I,⟨by decide,by decide⟩,_,rfl,.inl ⟨_,_,rfl,rfl,_,_,rfl,rfl,⟨by omega,by omega⟩,?_⟩⟩
 refine⟨_,I,_,_,I,I,(by show(0:Int)<26;decide),?_⟩
 refine⟨_,I,_,I,by omega,by omega,?_⟩
 have b5:(((dD:Nat):Int)).toNat=dD:=by omega
 rw[b5]
 have OK:ks.length<=cj:=by rw[Ga];exact fb (by decide)
 refine pC (fun i U av=>ef H av/\∃(o6:ae)(num fst:Int)(cP cL:Option V),U=[J (.int c),J (.int ((m:Nat):Int)),J (.str ks),cL,J (.int ((a:Nat):Int)),J (.int x),J (.int num),J (.int fst),J (.str o6),cP]/\o6.length=i/\mn i ks.cps.toList o6) ?_ ?_ ?_
 ·refine⟨dg aX,ae.ofString "",_,_,aw,_,I,by decide+kernel,by decide+kernel,fun c h=>?_⟩
  rw[show(ae.ofString "").cps.toList=[] by decide+kernel]at h
  cases h
 ·rintro i U av ay ⟨hs,o6,num,fst,cP,cL,rfl,aD,aM⟩
  obtain⟨k,hk,aao⟩:=iD (num/26) 26 (by decide)
  have kU:num/26%26=((k:Nat):Int):=aao
  obtain⟨cb,tD,jk⟩:=Uc (x:=ks) (k:=k) (by rw[Ga];exact hk)
  refine⟨_,I,_,_,I,I,⟨by decide,by decide⟩,?_⟩
  refine⟨_,I,_,I,_,I,_,_,I,I,(by show(0:Int)<26;decide),.inr ⟨_,_,_,I,I,OK,(by rw[kU];exact jk),.inr ⟨_,_,I,I,fb (by show _+1<=_;omega),?_⟩⟩⟩
  exact⟨hs,_,_,_,_,_,I,by rw[pH,aD];rfl,aM.app (mn.one tD)⟩
 ·rintro U av ⟨hs,o6,num,fst,cP,cL,rfl,aD,aM⟩
  have ls:o6.length<=cj:=fb (by omega)
  refine⟨_,I,_,I,by omega,by omega,fun D dB=>?_⟩
  have em:(((m:Nat):Int)).toNat=m:=by omega
  rw[em]
  have ajM:ks.cps.toList.length=26:=by rw[iB];exact Ga
  have gG:=Kv o6 a (by omega)
  have eZ:=Kl o6 a (by omega)
  let oU:Nat->Nat:=fun i=>((fst+(0+((i:Nat):Int))*x)%26).toNat
  have tx:∀i,oU i<26/\(fst+(0+((i:Nat):Int))*x)%26=((oU i:Nat):Int):=fun i=>by
   have ai:=hT (fst+(0+((i:Nat):Int))*x) (show(26:Int)≠0 by decide)
   have aj:=h5 (fst+(0+((i:Nat):Int))*x) (show(0:Int)<26 by decide)
   constructor
   ·show Int.toNat _<26
    omega
   ·show _=((Int.toNat _:Nat):Int)
    omega
  let CN:Nat->ae:=fun i=>(Txt.slice o6 aw (J ((a:Nat):Int))++⟨#[ks.cps.toList.getD (oU i) 0]⟩)++Txt.slice o6 (J ((a:Nat):Int)) aw
  refine FR m (fun i =>.int (0+((i:Nat):Int))) (fun i=>V.str (CN i)) (fun U=>∃z,U=[z,J (.str o6),J (.int ((a:Nat):Int)),J (.str ks),J (.int fst),J (.int x)]) (fb (by omega)) ⟨_,I⟩ ?_ ?_ ?_ ?_ ?_
  .intro i H1 ay;exact ay
  .intro H1;exact b8 _
  .rintro i H1 y bQ ay ⟨rfl,rfl⟩;exact⟨I,I⟩
  ·rintro i bL H1 ay ⟨z,rfl⟩ R b1
   obtain⟨hk,kU⟩:=tx i
   have jk:ey ks.cps.toList ((oU i:Nat):Int)=J (ks.cps.toList.getD (oU i) 0):=cB (by rw[dN,cp (by omega)];rfl)
   have aS:(⟨#[ks.cps.toList.getD (oU i) 0]⟩:ae).length=1:=rfl
   refine⟨_,I,_,I,_,I,.inr ⟨_,I,ls,?_⟩⟩
   refine⟨_,I,_,I,_,I,_,I,.inl ⟨_,_,I,I,.inr ⟨by omega,by omega⟩,.inl ⟨_,_,rfl,rfl,_,_,rfl,rfl,(by show(0:Int)<26;decide),.inr ⟨_,_,_,rfl,rfl,OK,(by rw[kU];exact jk),.inr ⟨_,_,rfl,rfl,fb (by omega),?_⟩⟩⟩⟩⟩
   refine⟨_,I,_,I,_,I,.inr ⟨_,I,ls,.inr ⟨_,_,I,I,fb (by rw[pH];omega),?_⟩⟩⟩
   exact b1 _ ⟨_,I⟩
  ·have e:(List.range m).map (fun i=>V.str (CN i))=((List.range m).map CN).map V.str:=by rw[gE];rfl
   rw[e]
   have vy:=hs.free dB
   refine⟨_,.new vy (hs.trans (dg dB)) aG trivial,q D ((List.range m).map CN) vy (by rw[cw,kQ]) ?_⟩
   refine WT (by rw[cw,kQ];omega) (by rw[cw,kQ];omega) ?_ ?_
   ·unfold List.Nodup
    rw[List.pairwise_iff_getElem]
    intro i j ay b2 HA
    rw[cw,kQ]at ay b2
    rw[j7,j7,List.getElem_range,List.getElem_range]
    intro cL
    have fL:=TO cL
    obtain⟨Cd,aap⟩:=tx i
    obtain⟨qJ,aaq⟩:=tx j
    rw[dN,dN,cp (by omega),cp (by omega)]at fL
    have mU:=(List.getElem_inj Y3).mp fL
    have:=Za (f:=fst) ao (show i<26 by omega) (show j<26 by omega) (by rw[aap,aaq,mU])
    omega
   ·intro n aW
    obtain⟨i,_,rfl⟩:=List.mem_map.mp aW
    obtain⟨hk,kU⟩:=tx i
    refine YD ⟨?_,?_⟩ ?_
    ·show(_++_:ae).length<=12
     rw[pH,pH,gG,eZ]
     show a+1+_<=12
     omega
    ·refine(((aM.slice aw (J ((a:Nat):Int))).app (mn.one ?_)).app (aM.slice (J ((a:Nat):Int)) aw)).s
     rw[dN,cp (by omega)]
     exact List.getElem_mem _
    ·show 0<(_++_:ae).length
     rw[pH,pH]
     show 0<_+1+_
     omega
noncomputable def si:ae:=ae.ofString "nothing"
noncomputable def uh:ae:=ae.ofString "truth"
noncomputable def ui:ae:=ae.ofString "whole"
noncomputable def sj:ae:=ae.ofString "span"
noncomputable def uf:ae:=ae.ofString "fraction"
noncomputable def ug:ae:=ae.ofString "letters"
noncomputable def Dl:ae:=ae.ofString "maybe"
noncomputable def Jn:ae:=ae.ofString "many"
noncomputable def Jo:ae:=ae.ofString "record"
noncomputable def Rg:ae:=ae.ofString "choice"
noncomputable def Jp:ae:=ae.ofString "turned"
def Simp(H:aq)(v:V):Prop:=∃T,v=.ref T/\((∃w,w∈[si,uh,ui,uf]/\H T=J (.tup [.str w]))\/(∃a b:Int,H T=J (.tup [.str sj,.int a,.int b])/\a<=b/\b-a<2^190/\a.natAbs<10^58/\b.natAbs<10^58)\/(∃s:ae,H T=J (.tup [.str ug,.str s])/\oz s=ah/\s.length<=60))
def mi(X:List af)(H:aq):Prop:=∀x,x∈X->∃l,H x=J (.lst l)
theorem mi.grow(h:mi X H)(g:d2 p H H'):mi X H':=fun x ao=>by
 by_cases z:x=p
 ·subst z
  obtain⟨ns,e,_⟩:=g.l
  exact⟨_,e⟩
 ·obtain⟨l,e⟩:=h x ao
  exact⟨l,g.k _ _ z e⟩
inductive QC(vs:List V)(H:aq)(Q:bJ)(E:cN):Prop where
 |mk (p:af) (way:Nat) (bg:vs=[.ref p,.int ((way:Nat):Int)]) (ai:way<6) (aj:m5 p H) (bE:∀v H',d2 p H H'->Simp H' v->Q v H'):QC  vs H Q E
def C5:cD:=fun vs H Q E=>QC  vs H Q E
theorem Wi(F:d1 K mg "_law_simple" EO ["_law_pool_here","_law_way"] f fd)(ig:bq P w K mg base 1 "_law_next" ["_law_pool_here"] za)(DK:bq P w K mg base 1 "_law_signs" ["_law_cell"] QA):bq P w K mg base 2 "_law_simple" ["_law_pool_here","_law_way"] C5:=by
 refine F.eO EB (fun bx A _ s H vs Q E ax h=>?_)
 obtain⟨p,way,rfl,hw,cG,q⟩:=h
 refine⟨_,(aI (cE (b0 c2 (ab 1) aC) (aI (bO 2 EB.bo (aN gj (aN dI (b6 ig ax (al (ab 0) aB)) (aN xH aC aC)) (aN xH aC aC)))
   (aI (bO 3 EB.bo (b6 ig ax (al (ab 0) aB)))
   (aR (bB (jf (al cT (al (ab 2) (al (aN eb (ab 2) (aN dI (aN hh (ab 3) aC) (bG bH (h6 (al aC (al aC (al aC (al (aN xH aC aC) aB))))) (aN dI (ab 3) aC)))) aB)))))))) cF)
  (aI (cE (b0 c2 (ab 1) aC) (aR (bB (jf (al cT (al (b6 DK ax (al (b6 ig ax (al (ab 0) aB)) aB)) aB))))) cF)
  (aR (bB (jf (al (bG bH (h6 (al cT (al cT (al cT (al cT (al cT aB)))))) (ab 1)) aB)))))),?_⟩
 try dsimp only[c4,c5,c6,c7]
 refine⟨_,I,I,_,I,e2 (fun hx=>?_) (fun hx=>?_)⟩
 ·refine⟨_,I,p,I,cG,fun rA eC l7=>?_⟩
  have cx:=d2.pop cG l7
  have wk:∀n:Int,n=57\/n=56->zt 10 n:=fun n aW=>by rcases aW with rfl|rfl<;>(refine⟨?_,?_,?_⟩<;>decide)
  have Pc:(0:Int)<10^Int.toNat 57:=by decide+kernel
  refine⟨_,_,I,I,wk _ (.inl I),_,_,I,I,Pc,_,_,I,I,wk _ (.inr I),_,_,I,I,?_⟩
  dsimp only
  have OL:∃low:Int,low=rA%10^Int.toNat 57-10^Int.toNat 56/\-(10^57)<=low/\low<=10^57:=by
   refine⟨_,I,?_⟩
   have a1:=hT rA (show(10:Int)^Int.toNat 57≠0 by decide+kernel)
   have a2:=h5 rA Pc
   rw[show Int.toNat 57=57 from rfl]at a1 a2 ⊢
   rw[show Int.toNat 56=56 from rfl]
   omega
  obtain⟨low,gp,ajO,ajP⟩:=OL
  rw[<-gp]
  clear gp
  refine⟨_,I,p,I,cx.l,fun c dc kg=>?_⟩
  have eh:=cx.trans (d2.pop cx.l kg)
  generalize upd (upd H p (.lst (eC.map V.int))) p (.lst (dc.map V.int))=av at eh ⊢
  refine⟨_,I,_,I,_,I,_,_,I,I,⟨by decide,by decide⟩,_,_,rfl,rfl,wk _ (.inl rfl),(by show 4<=cj;decide),fun g aX=>?_⟩
  obtain⟨x,ao,mO⟩:=u9 V.int [1,5,300,10^Int.toNat 57] c 4 rfl (by show 0<4;decide)
  obtain⟨vV,ajG,oQ⟩:0<x/\x<2^190/\x<=10^57:=by
   have:∀y∈([1,5,300,10^Int.toNat 57]:List Int),0<y/\y<2^190/\y<=10^57:=by decide+kernel
   exact this x ao
  refine⟨_,I,_,_,I,I,(by show(0:Int)<4;decide),.inl (.inl ⟨_,_,_,_,I,I,bb aG,mO,_,_,I,I,vV,.inl ⟨_,_,I,I,(by show 3<=cj;decide),fun T bZ=>?_⟩⟩)⟩
  have gG:=hT (c/4) (show x≠0 by omega)
  have eZ:=h5 (c/4) vV
  have fM:=(eh.ext (Ext.lst aX)).ext (Ext.tup (xs:=[V.str sj,.int low,.int (low+c/4%x)]) bZ)
  exact⟨_,fM.sub,q _ _ fM ⟨T,I,.inr (.inl ⟨low,_,aG,by omega,by omega,by omega,by omega⟩)⟩⟩
 ·refine⟨_,I,I,_,I,e2 (fun Bx=>?_) (fun Bx=>?_)⟩
  ·refine⟨_,I,p,I,cG,fun rA eC l7=>?_⟩
   have cx:=d2.pop cG l7
   refine⟨rA,I,fun cb aX aD=>⟨lp,fun T bZ=>?_⟩⟩
   have fM:=cx.ext (Ext.tup (xs:=[V.str ug,.str cb]) bZ)
   exact⟨_,fM.sub,q _ _ fM ⟨T,I,.inr (.inr ⟨cb,aG,aX,aD⟩)⟩⟩
  ·have ac4:way≠3/\way≠5:=⟨fun z=>hx (by rw[z];rfl),fun z=>Bx (by rw[z];rfl)⟩
   obtain⟨ie,ac5,yu⟩:∃ie,ie∈[si,uh,ui,uf]/\ey ([si,uh,ui,sj,uf].map V.str) ((way:Nat):Int)=J (.str ie):=by
    have:way=0\/way=1\/way=2\/way=4:=by omega
    rcases this with rfl|rfl|rfl|rfl
    .exact⟨si,by simp,cB (j:=0) rfl⟩
    .exact⟨uh,by simp,cB (j:=1) rfl⟩
    .exact⟨ui,by simp,cB (j:=2) rfl⟩
    .exact⟨uf,by simp,cB (j:=4) rfl⟩
   refine⟨(by show 5<=cj;decide),fun g aX=>⟨_,I,.inl (.inl ⟨_,_,_,_,I,I,bb aG,yu,(by show 1<=cj;decide),fun T bZ=>?_⟩)⟩⟩
   have fM:=((d2.refl cG).ext (Ext.lst aX)).ext (Ext.tup (xs:=[V.str ie]) bZ)
   exact⟨_,fM.sub,q _ _ fM ⟨T,I,.inl ⟨ie,ac5,aG⟩⟩⟩
mutual
noncomputable def dD:ba->Nat
 |.bare _=>1
 |.sp _ _=>1
 |.le _=>1
 |.one _ f=>dD f+1
 |.two _ _ fs=>j0 fs+1
noncomputable def j0:List ba->Nat
 |[]=>0
 |f::fs=>dD f+j0 fs
end
noncomputable def Jq(k:Fin 4):ae:=[si,uh,ui,uf].getD k.val si
noncomputable def pZ(k:Fin 3):ae:=[Dl,Jn,Jp].getD k.val Dl
noncomputable def sk(k:Fin 2):ae:=[Jo,Rg].getD k.val Jo
mutual
noncomputable def ep:ba->D
 |.bare k =>.tup [.str (Jq k)]
 |.sp a b =>.tup [.str sj,.int a,.int b]
 |.le s =>.tup [.str ug,.str s]
 |.one k f =>.tup [.str (pZ k),ep f]
 |.two k ns fs =>.tup [.str (sk k),.lst (hy fs ns)]
noncomputable def hy:List ba->List ae->List D
 |[],_=>[]
 |f::fs,ns =>.tup [.str (ns.headD ae.empty),ep f]::hy fs ns.tail
end
mutual
noncomputable def eJ:ba->Prop
 |.bare _=>True
 |.sp a b=>a<=b/\b-a<2^190/\a.natAbs<10^58/\b.natAbs<10^58
 |.le s=>oz s=ah/\s.length<=60
 |.one _ f=>eJ f
 |.two _ ns fs=>lC ns=ah/\ns.length=fs.length/\gU fs
noncomputable def gU:List ba->Prop
 |[]=>True
 |f::fs=>eJ f/\gU fs
end
theorem pw:∀(fs:List ba)(ns:List ae),(hy fs ns).length=fs.length
 |[],ns=>by rw[hy];rfl
 |f::fs,ns=>by rw[hy,d6,pw fs ns.tail,d6]
theorem Lu(n:ae)(f:ba):∀(fs:List ba)(ns:List ae),ns.length=fs.length->hy (fs++[f]) (ns++[n])=hy fs ns++[.tup [.str n,ep f]]
 |[],ns,h=>by
  obtain rfl:=List.eq_nil_of_length_eq_zero (by simpa using h)
  show hy [f] [n]=hy [] []++_
  rw[hy,hy,hy];rfl
 |g::fs,[],h=>by cases h
 |g::fs,m::ns,h=>by
  show hy (g::(fs++[f])) (m::(ns++[n]))=hy (g::fs) (m::ns)++_
  rw[hy,hy]
  show _::hy (fs++[f]) (ns++[n])=_::hy fs ns++_
  rw[Lu n f fs ns (by simpa using h)];rfl
theorem Lg{f:ba}(h:eJ f):∀{fs:List ba},gU fs->gU (fs++[f])
 |[],_=>by show gU [f];rw[gU,gU];exact⟨h,trivial⟩
 |g::fs,hs=>by
  rw[gU]at hs
  show gU (g::(fs++[f]))
  rw[gU]
  exact⟨hs.1,Lg h hs.2⟩
theorem L2{f:ba}{n:Nat}(h:aM f<=n):∀{fs:List ba},f7 fs<=n->f7 (fs++[f])<=n
 |[],_=>by show f7 [f]<=n;rw[f7,f7];omega
 |g::fs,hs=>by
  rw[f7]at hs
  show f7 (g::(fs++[f]))<=n
  rw[f7]
  have:=L2 h (fs:=fs) (by omega)
  omega
theorem FD(f:ba):∀fs:List ba,j0 (fs++[f])=j0 fs+dD f
 |[]=>by show j0 [f]=j0 []+_;simp only[j0];omega
 |g::fs=>by
  show j0 (g::(fs++[f]))=j0 (g::fs)+_
  rw[j0,j0,FD f fs];omega
theorem mi.no(dJ:mi X H)(e:H T=J (.tup xs)):T∉X:=fun z=>by obtain⟨l,h⟩:=dJ T z;rw[h]at e;cases e
theorem Ta:∀k:Fin 4,(Jq k).length<=100000:=by decide+kernel
theorem S9:∀k:Fin 3,(pZ k).length<=100000:=by decide+kernel
theorem Ma:∀k:Fin 2,(sk k).length<=100000:=by decide+kernel
theorem Uh:∀w,w∈[si,uh,ui,uf]->∃k,w=Jq k:=fun w h=>by
 rcases(show w=si\/w=uh\/w=ui\/w=uf by simpa using h)with rfl|rfl|rfl|rfl
 .exact⟨0,I⟩
 .exact⟨1,I⟩
 .exact⟨2,I⟩
 .exact⟨3,I⟩
theorem Simp.ak(dJ:mi X H)(h:Simp H v):∃f,c8 X H (ep f) v/\eJ f/\aM f=1/\dD f=1:=by
 obtain⟨T,rfl,⟨w,hw,e⟩|⟨a,b,e,h⟩|⟨s,e,ai,aj⟩⟩:=h
 ·obtain⟨k,rfl⟩:=Uh w hw
  exact⟨.bare k,by rw[ep];exact⟨T,_,I,dJ.no e,e,⟨_,_,I,⟨I,Ta k⟩,I⟩,by simp⟩,by rw[eJ];trivial,by rw[aM],by rw[dD]⟩
 .exact⟨.sp a b,by rw[ep];exact⟨T,_,I,dJ.no e,e,⟨_,_,I,⟨I,by decide+kernel⟩,_,_,rfl,rfl,_,_,rfl,rfl,rfl⟩,by simp⟩,by rw[eJ];exact h,by rw[aM],by rw[dD]⟩
 .exact⟨.le s,by rw[ep];exact⟨T,_,I,dJ.no e,e,⟨_,_,I,⟨I,by decide+kernel⟩,_,_,rfl,⟨rfl,by omega⟩,rfl⟩,by simp⟩,by rw[eJ];exact⟨ai,aj⟩,by rw[aM],by rw[dD]⟩
theorem c8.grow(aY:p∈X)(g:d2 p H H'){d:D}(h:c8 X H d v):c8 X H' d v :=
 c8.keep (fun b u nb e=>g.k b u (fun z=>nb (by rw[z];exact aY)) e) d h
structure En(X:List af)(H:aq)(f:ba)(v:V)(n m:Nat):Prop where
 d:c8 X H (ep f) v
 o:eJ f
 h:aM f<=n
 s:dD f<=m
inductive PQ(d:Nat)(vs:List V)(H:aq)(Q:bJ)(E:cN):Prop where
 |mk (p:af) (deep:Nat) (X:List af) (bg:vs=[.ref p,.int ((deep:Nat):Int)]) (ai:deep<d) (aj:m5 p H) (bE:p∈X) (cQ:mi X H) (eN:∀v H' f,d2 p H H'->En X H' f v (deep+1) (20*deep+1)->Q v H'):PQ d vs H Q E
def C0(d:Nat):cD:=fun vs H Q E=>PQ d vs H Q E
structure w4(X:List af)(l:af)(d m:Nat)(H:aq)(ns:List ae)(i:Nat)(fs:List ba)(vs:List V):Prop where
 ls:H l=J (.lst vs)
 ds:bP (l::X) H (hy fs (ns.take i)) vs
 ln:fs.length=i
 ok:gU fs
 aM:f7 fs<=d
 dD:j0 fs<=m
theorem w4.step{l:af}{e:Nat}{n:ae}{f:ba}{fs:List ba}(aa:w4 X l d m av ns i fs vs)(dJ:mi (l::X) av)(aY:p∈X)(nC:l≠p)(g:d2 p av H')(br:En (l::X) H' f v e k)(he:e<=d)(bZ:H' T=aw)(aW:ns[i]?=J n)(kg:n.length<=100):
  w4 X l d (m+k) (upd (upd H' T (.tup [.str n,v])) l (.lst (vs++[V.ref T]))) ns (i+1) (fs++[f]) (vs++[V.ref T])/\mi (l::X) (upd (upd H' T (.tup [.str n,v])) l (.lst (vs++[V.ref T])))/\
  (∀b u,b∉l::X->H' b=J u->upd (upd H' T (.tup [.str n,v])) l (.lst (vs++[V.ref T])) b=J u):=by
 have vF:=dJ.grow g
 have mc:∀b u,b∉l::X->H' b=J u->upd (upd H' T (.tup [.str n,v])) l (.lst (vs++[V.ref T])) b=J u:=fun b u nb e=>by
  rw[bK (fun z=>nb (by rw[z];exact gF ..)),bK (f5 e bZ)];exact e
 have OY:T∉l::X:=fun z=>by
  obtain⟨y,aU⟩:=vF T z
  rw[bZ]at aU;cases aU
 have aed:T≠l:=fun z=>OY (by rw[z];exact gF ..)
 have ay:i<ns.length:=by
  rcases g4 i ns.length with z|z
  .exact z
  .rw[u0 z]at aW;cases aW
 refine⟨⟨aG,?_,by rw[dX,aa.ln];rfl,Lg br.o aa.ok,L2 (by have:=br.h;omega) aa.aM,?_⟩,?_,mc⟩
 ·rw[jy,aW]
  show bP _ _ (hy (fs++[f]) (ns.take i++[n])) _
  rw[Lu n f fs _ (by rw[ht,aa.ln];omega)]
  have ez:upd (upd H' T (.tup [.str n,v])) l (.lst (vs++[V.ref T])) T=J (.tup [.str n,v]):=by rw[bK aed,aG]
  have hd:c8 (l::X) (upd (upd H' T (.tup [.str n,v])) l (.lst (vs++[V.ref T]))) (.tup [.str n,ep f]) (.ref T):=⟨T,_,rfl,OY,ez,⟨_,_,rfl,⟨rfl,by omega⟩,_,_,rfl,c8.keep mc _ br.d,rfl⟩,by simp⟩
  exact bP.snoc hd _ (bP.keep mc _ (bP.keep (fun b u nb e=>g.k b u (fun z=>nb (by rw[z];exact en _ aY)) e) _ aa.ds))
 .rw[FD];have:=br.s;have:=aa.dD;omega
 ·intro x ao
  by_cases z:x=l
  .subst z;exact⟨_,aG⟩
  ·obtain⟨y,aU⟩:=vF x ao
   exact⟨y,by rw[bK z,bK (f5 aU bZ)];exact aU⟩
set_option maxHeartbeats 4000000 in
theorem Vt(nb:dT mg)(F:d1 K mg "_law_form" AF ["_law_pool_here","_law_deep"] f fd)(ig:bq P w K mg base 1 "_law_next" ["_law_pool_here"] za)(p8:bq P w K mg base 1 "_law_names" ["_law_cell","_law_many"] C3)(uA:bq P w K mg base 2 "_law_simple" ["_law_pool_here","_law_way"] C5)
  (uy:bq P w K mg base (d+3) "_law_form" ["_law_pool_here","_law_deep"] (C0 d)):bq P w K mg base (d+3+1) "_law_form" ["_law_pool_here","_law_deep"] (C0 (d+1)):=by
 refine F.eO qr (fun bx A _ s H vs Q E ax h=>?_)
 obtain⟨p,deep,X,rfl,hd,cG,eB,dJ,q⟩:=h
 refine⟨_,(aI (bO 2 qr.bo (b6 ig ax (al (ab 0) aB) (hk:=by omega)))
  (aI (bO 3 qr.bo (aN dI (ab 2) aC))
  (aI (cE (b0 c2 (ab 1) aC) (aR (bO 3 qr.bo (aN dI (ab 2) aC))) cF)
  (aI (cE (b0 jm (ab 3) aC) (aR (bB (b6 uA ax (al (ab 0) (al (ab 3) aB)) (hk:=by omega)))) cF)
  (aI (cE (gc.pt (j6 (b0 c2 (ab 3) aC) (lq (b0 c2 (ab 3) aC)))) (aI (bO 4 qr.bo (aN eb aC (aN dI (aN hh (ab 2) aC) aC)))
   (Bd (cE (gc.pt (oq (b0 c2 (ab 1) aC) (od (b0 c2 (aN dI (aN hh (ab 2) aC) aC) aC)))) (aR (bO 4 qr.bo (aN eb aC (aN dI (aN hh (ab 2) aC) aC)))) cF)
   (aI (bO 5 qr.bo (b6 p8 ax (al (b6 ig ax (al (ab 0) aB) (hk:=by omega)) (al (ab 4) aB)) (hk:=by omega)))
   (aI (bO 6 qr.bo (h6 aB))
   (aI (kK h2.never rfl (lY rfl nb.k4 (al (ab 4) aB)) (d7 (i:=7) qr.bo rfl (by exact Or.inl I))
    (aR (iW (hV PySem.F.plainAttrs_list PySem.F.slot_list_append PySem.F.type_list_append qo (ab 6) (al (jf (al (bG bH (ab 5) (ab 7)) (al (b6 uy ax (al (ab 0) (al (aN k0 (aN gj (ab 1) aC) (mw qc rfl nb.nH nh (al (fO c2 (ab 7) (aN dI (aN hh (ab 2) aC) (ab 4))) aB))) aB)) (hk:=by omega)) aB))) aB)))))
   (aR (bB (jf (al (bG bH (h6 (al cT (al cT aB))) (aN gj (ab 3) aC)) (al (ab 6) aB)))))))))) cF)
  (aR (bB (jf (al (bG bH (h6 (al cT (al cT (al cT (al cT (al cT aB)))))) (aN gj (ab 3) aC)) (al (b6 uy ax (al (ab 0) (al (aN gj (ab 1) aC) aB)) (hk:=by omega)) aB)))))))))),?_⟩
 try dsimp only[c4,c5,c6,c7]
 refine⟨_,I,p,I,cG,fun c eC l7=>?_⟩
 have cx:=d2.pop cG l7
 generalize upd H p (.lst (eC.map V.int))=H1 at cx ⊢
 have Pq:∀way:Nat,way<6->C5 [.ref p,.int ((way:Nat):Int)] H1 (fun v H'=>kt H H' (Q v)) jd:=fun way hw=>⟨p,way,rfl,hw,cx.l,fun v H' g hs=>by
  obtain⟨f,ai,aj,bE,cQ⟩:=Simp.ak (dJ.grow (cx.trans g)) hs
  exact⟨_,(cx.trans g).sub,q v H' f (cx.trans g) ⟨ai,aj,by omega,by omega⟩⟩⟩
 obtain⟨hD,OA,aaJ⟩:=iD c 11 (by decide)
 have aaI:c%11=((hD:Nat):Int):=aaJ
 refine⟨_,I,_,_,I,I,(by show(0:Int)<11;decide),?_⟩
 dsimp only
 rw[aaI]
 refine⟨_,I,I,_,I,e2 (fun rA=>?_) (fun rA=>?_)⟩
 ·obtain⟨Rf,ac6,aaM⟩:=iD c 6 (by decide)
  have aaL:c%6=((Rf:Nat):Int):=aaM
  refine⟨_,I,_,_,I,I,(by show(0:Int)<6;decide),?_⟩
  dsimp only
  rw[aaL]
  exact⟨_,I,.inl ⟨_,_,I,I,_,I,iK (by omega) ⟨_,I,_,I,Pq Rf ac6⟩⟩⟩
 have aje:deep≠0:=fun z=>rA (by rw[z];rfl)
 refine⟨_,I,.inl ⟨_,_,I,I,_,I,e2 (fun ZM=>?_) (fun ZM=>?_)⟩⟩
 .exact⟨_,I,_,I,Pq hD (by omega)⟩
 refine⟨_,I,I,_,I,(fun(nv:(hD=8\/hD=9)->_)=>e2 (fun Gn=>nv (.inl (by have:=V.int.inj Gn;omega))) (fun Gn=>⟨_,I,I,_,I,e2 (fun Go=>nv (.inr (by have:=V.int.inj Go;omega))) (fun Go=>?_)⟩)) (fun ac7=>?_)⟩
 ·obtain⟨tJ,ajs,aaw⟩:=iD (c/11) 4 (by decide)
  have aav:c/11%4=((tJ:Nat):Int):=aaw
  have aS:(1:Int)+((tJ:Nat):Int)=((tJ+1:Nat):Int):=by omega
  refine⟨_,I,_,_,I,I,⟨by decide,by decide⟩,_,_,rfl,rfl,(by show(0:Int)<4;decide),.inl ⟨_,_,rfl,rfl,?_⟩⟩
  dsimp only
  rw[aav,aS]
  refine⟨fun cg H'=>H1=H'/\∃iw:Nat,0<iw/\iw<=20/\cg=[J (.ref p),J (.int ((deep:Nat):Int)),J (.int c),J (.int ((hD:Nat):Int)),J (.int ((iw:Nat):Int)),aw,aw,aw],?_,?_⟩
  ·refine⟨_,I,I,_,I,e2 (fun mb=>?_) (fun mb=>⟨I,tJ+1,by omega,by omega,rfl⟩)⟩
   refine⟨_,I,_,_,I,I,⟨by decide,by decide⟩,_,_,rfl,rfl,(by show(0:Int)<6;decide),rfl,_,rfl,e2 (fun mc=>?_) (fun mc=>⟨rfl,tJ+1,by omega,by omega,rfl⟩)⟩
   obtain⟨Cy,vw,aat⟩:=iD (c/264) 20 (by decide)
   have aas:c/264%20=((Cy:Nat):Int):=aat
   refine⟨_,I,_,_,I,I,⟨by decide,by decide⟩,_,_,rfl,rfl,(by show(0:Int)<20;decide),.inl ⟨_,_,rfl,rfl,rfl,Cy+1,by omega,by omega,?_⟩⟩
   dsimp only
   rw[aas,show(1:Int)+((Cy:Nat):Int)=((Cy+1:Nat):Int) by omega]
   rfl
  rintro bL aiN ⟨rfl,iw,yl,acr,rfl⟩
  refine⟨_,I,p,I,cx.l,fun f6 dc kg=>⟨_,I,f6,iw,I,yl,acr,fun D ns dB i2 gr=>?_⟩⟩
  have eh:=cx.trans (d2.pop cx.l kg)
  have fM:=eh.ext (Ext.lst (xs:=ns.map V.str) dB)
  refine⟨UF _,fun l aD=>?_⟩
  have w0:=Ext.lst (xs:=[]) aD
  have kq:=fM.ext w0
  have lG:H l=aw:=fM.free aD
  have vy:H D=aw:=eh.free dB
  have nC:l≠p:=fM.ne aD
  have G5:D≠l:=fun z=>by rw[<-z,aG]at aD;cases aD
  have rW:l∉X:=fun z=>by obtain⟨y,aU⟩:=dJ l z;rw[lG]at aU;cases aU
  have vz:D∉l::X:=fun z=>by
   rcases c9.mp z with z|z
   .exact G5 z
   .obtain⟨y,aU⟩:=dJ D z;rw[vy]at aU;cases aU
  have iZ:upd (upd (upd H1 p (.lst (dc.map V.int))) D (.lst (ns.map V.str))) l (.lst []) D=J (.lst (ns.map V.str)):=w0.s _ _ aG
  have ti:=aG (H:=upd (upd H1 p (.lst (dc.map V.int))) D (.lst (ns.map V.str))) (a:=l) (o:=df.lst [])
  generalize upd (upd (upd H1 p (.lst (dc.map V.int))) D (.lst (ns.map V.str))) l (.lst [])=fZ at kq iZ ti ⊢
  obtain⟨dY,HC,GB⟩:=iD (c/264) iw yl
  refine⟨_,I,_,I,by omega,by omega,?_⟩
  have b5:(((iw:Nat):Int)).toNat=iw:=by omega
  rw[b5]
  refine pC (fun i U av=>d2 p H av/\mi (l::X) av/\av D=J (.lst (ns.map V.str))/\∃fs vs z,U=[J (.ref p),J (.int ((deep:Nat):Int)),J (.int c),J (.int ((hD:Nat):Int)),J (.int ((iw:Nat):Int)),J (.ref D),J (.ref l),z]/\w4 X l deep (i+if dY<i then 20*(deep-1)else 0) av ns i fs vs) ?_ ?_ ?_
  ·refine⟨kq,?_,iZ,[],[],aw,I,⟨ti,by rw[List.take_zero,hy];rfl,rfl,by rw[gU];trivial,by rw[f7];omega,by rw[j0];omega⟩⟩
   intro x ao
   rcases c9.mp ao with z|z
   .subst z;exact⟨_,ti⟩
   .exact(dJ.grow kq) x z
  ·rintro i U av ay ⟨g2,lD,gS,fs,vs,z,rfl,aa⟩
   have gi:i<ns.length:=by omega
   have ym:ns[i]?=J ns[i]:=cp gi
   have jk:ey (ns.map V.str) (0+((i:Nat):Int))=J (.str ns[i]):=by rw[Int.zero_add];exact cB (by rw[eL,ym];rfl)
   refine⟨_,I,.inl ⟨I,_,bb aa.ls⟩,_,I,_,I,.inl (.inl ⟨_,_,_,_,I,I,bb gS,jk,?_⟩)⟩
   refine⟨_,I,_,I,_,_,I,I,_,I,_,I,_,_,I,I,⟨by decide,by decide⟩,_,rfl,_,_,rfl,rfl,(by omega),rfl,.inl (.inr ⟨_,rfl,?_⟩)⟩
   have GA:decide (V.int (0+((i:Nat):Int))=V.int (c/264%((iw:Nat):Int)))=decide (i=dY):=by
    rw[GB];exact decide_eq_decide.mpr ⟨fun h=>by have:=V.int.inj h;omega,fun h=>by rw[h,Int.zero_add]⟩
   rw[GA]
   obtain⟨kz,Ho,abW,ev,Hp⟩:∃kz:Nat,kz<d/\kz+1<=deep/\(((deep:Nat):Int)-1)*(if decide (i=dY)=ah then 1 else 0)=((kz:Nat):Int)/\(kz=if i=dY then deep-1 else 0):=⟨if i=dY then deep-1 else 0,by split<;>omega,by split<;>omega,by by_cases z:i=dY<;>simp only[z,decide_true,decide_false,if_true,if_false]<;>simp<;>omega,rfl⟩
   refine .inl ⟨_,_,I,I,.inr (by split<;>exact⟨by decide,by decide⟩),p,kz,l::X,(by rw[<-ev];rfl),Ho,g2.l,en _ eB,lD,fun part bQ abl g3 HO=>⟨lp,fun T bZ=>?_⟩⟩
   have l6:bQ l=J (.lst vs):=g3.k _ _ nC aa.ls
   have pq:=Ext.tup (xs:=[V.str ns[i],part]) bZ
   have cM:vs.length=i:=by
    rw[bh.len _ (bP.at _ aa.ds),pw,aa.ln]
   refine⟨l,_,_,I,I,pq.s _ _ l6,(by rw[cM];exact fB (show i<100000 by omega) (by decide)),?_⟩
   obtain⟨h3,uE,i5⟩:=aa.step lD eB nC g3 HO abW bZ ym (by have:=(lX gr).2 _ (List.getElem_mem gi);omega)
   refine⟨((g2.trans g3).ext pq).set lG (pq.s _ _ l6) nC,uE,i5 _ _ vz (g3.k _ _ (fun z=>vz (by rw[z];exact en _ eB)) gS),_,_,_,I,⟨h3.ls,h3.ds,h3.ln,h3.ok,h3.aM,?_⟩⟩
   refine dE h3.dD ?_
   rw[Hp]
   by_cases z:i=dY
   .rw[if_pos z,if_neg (by omega),if_pos (by omega)];omega
   ·rw[if_neg z]
    by_cases cL:dY<i
    .rw[if_pos cL,if_pos (by omega)];omega
    .rw[if_neg cL];omega
  ·rintro U av ⟨g2,lD,gS,fs,vs,z,rfl,aa⟩
   obtain⟨ww,yu⟩:∃ww:Fin 2,ey ([Jo,Rg].map V.str) (((hD:Nat):Int)-8)=J (.str (sk ww)):=by
    rcases ac7 with rfl|rfl
    .exact⟨0,cB (j:=0) I⟩
    .exact⟨1,cB (j:=1) I⟩
   refine⟨lp,fun g aX=>⟨_,I,_,_,I,I,.inl (.inl ⟨_,_,_,_,I,I,bb aG,yu,_,I,lp,fun T bZ=>?_⟩)⟩⟩
   have sy:=(Ext.lst aX).trans (Ext.tup (xs:=[V.str (sk ww),V.ref l]) bZ)
   have oy:=g2.ext sy
   have Iv:ns.take iw=ns:=UV (by omega)
   have dV:=aa.ds
   rw[Iv]at dV
   have jl:vs.length=iw:=by rw[bh.len _ (bP.at _ aa.ds),pw,aa.ln]
   have hA:T∉X:=(dJ.grow oy).no aG
   refine⟨_,oy.sub,q _ _ (.two ww ns fs) oy ⟨?_,?_,?_,?_⟩⟩
   ·rw[ep]
    exact⟨T,_,I,hA,aG,⟨_,_,I,⟨I,Ma ww⟩,_,_,I,⟨l,vs,I,rW,sy.s _ _ aa.ls,bP.weak (fun y aU=>en _ aU) _ (bP.same sy.s dV),by omega⟩,rfl⟩,by simp⟩
   .rw[eJ];exact⟨gr,by rw[aa.ln,i2],aa.ok⟩
   .rw[aM];have:=aa.aM;omega
   ·rw[dD]
    have:=aa.dD
    rw[if_pos HC]at this
    omega
 have hw:hD=6\/hD=7\/hD=10:=by
  have nu:hD≠8:=fun z=>Gn (by rw[z];rfl)
  have oA:hD≠9:=fun z=>Go (by rw[z];rfl)
  omega
 obtain⟨ww,yu⟩:∃ww:Fin 3,ey ([Dl,Jn,ae.ofString "",ae.ofString "",Jp].map V.str) (((hD:Nat):Int)-6)=J (.str (pZ ww)):=by
  rcases hw with rfl|rfl|rfl
  .exact⟨0,cB (j:=0) I⟩
  .exact⟨1,cB (j:=1) I⟩
  .exact⟨2,cB (j:=4) I⟩
 refine⟨(by show 5<=cj;decide),fun g aX=>⟨_,I,_,_,I,I,.inl (.inl ⟨_,_,_,_,I,I,bb aG,yu,?_⟩)⟩⟩
 have DV:=cx.ext (Ext.lst (xs:=[Dl,Jn,ae.ofString "",ae.ofString "",Jp].map V.str) aX)
 have ev:((deep:Nat):Int)-1=((deep-1:Nat):Int):=by omega
 refine⟨_,I,_,I,_,_,I,I,p,deep-1,X,(by rw[<-ev];rfl),by omega,DV.l,eB,dJ.grow DV,fun v H' f g' br=>⟨lp,fun T bZ=>?_⟩⟩
 have pq:=Ext.tup (xs:=[V.str (pZ ww),v]) bZ
 have oy:=(DV.trans g').ext pq
 have hA:T∉X:=(dJ.grow oy).no aG
 refine⟨_,oy.sub,q _ _ (.one ww f) oy ⟨?_,?_,?_,?_⟩⟩
 .rw[ep];exact⟨T,_,I,hA,aG,⟨_,_,I,⟨I,S9 ww⟩,_,_,I,br.d.same pq.s,I⟩,by simp⟩
 .rw[eJ];exact br.o
 .rw[aM];have:=br.h;omega
 .rw[dD];have:=br.s;omega
theorem Kq(nb:dT mg)(F:d1 K mg "_law_form" AF ["_law_pool_here","_law_deep"] f fd)(ig:bq P w K mg base 1 "_law_next" ["_law_pool_here"] za)(p8:bq P w K mg base 1 "_law_names" ["_law_cell","_law_many"] C3)(uA:bq P w K mg base 2 "_law_simple" ["_law_pool_here","_law_way"] C5):∀d:Nat,bq P w K mg base (d+3) "_law_form" ["_law_pool_here","_law_deep"] (C0 d)
 |0=>bq.none F fun vs H Q E h=>by obtain⟨_,_,_,_,h,_⟩:=h;omega
 |d+1=>Vt nb F ig p8 uA (Kq nb F ig p8 uA d)
theorem rv{X:List af}{H:aq}:∀(fs:List ba)(ns:List ae){vs:List V}{i:Nat}{y:V},ns.length=fs.length->bP X H (hy fs ns) vs->vs[i]?=J y->∃f n T v,fs[i]?=J f/\ns[i]?=J n/\y=.ref T/\T∉X/\H T=J (.tup [.str n,v])/\c8 X H (ep f) v
 |[],ns,vs,i,y,bg,h,e=>by
  rw[hy]at h
  obtain rfl:vs=[]:=h
  cases e
 |f::fs,[],vs,i,y,bg,h,e=>by cases bg
 |f::fs,n::ns,vs,0,y,bg,h,e=>by
  rw[hy]at h
  obtain⟨v,r,rfl,⟨T,ws,rfl,bZ,ez,⟨_,_,rfl,⟨rfl,_⟩,hp,_,rfl,br,rfl⟩,_⟩,bX⟩:=h
  cases e
  exact⟨f,n,T,hp,I,I,I,bZ,ez,br⟩
 |f::fs,n::ns,vs,i+1,y,bg,h,e=>by
  rw[hy]at h
  obtain⟨v,r,rfl,q,bX⟩:=h
  exact rv fs ns (by simpa using bg) bX e
theorem sV:∀{fs:List ba}{i:Nat}{f:ba},gU fs->fs[i]?=J f->eJ f/\aM f<=f7 fs
 |g::fs,0,f,h,e=>by
  cases e
  rw[gU]at h
  rw[f7]
  exact⟨h.1,by omega⟩
 |g::fs,i+1,f,h,e=>by
  rw[gU]at h
  obtain⟨a,b⟩:=sV h.2 (show fs[i]?=J f from e)
  rw[f7]
  exact⟨a,by omega⟩
theorem ME(f:ba):1<=dD f:=by cases f<;>simp only[dD]<;>omega
def js(X:List af)(H:aq):Prop:=∀x,x∈X->∃o,H x=J o
theorem js.no(h:js X H){t:af}(e:H t=aw):t∉X:=fun z=>by
 obtain⟨o,q⟩:=h t z
 rw[e]at q;cases q
theorem js.ext(h:js X H)(m:ef H H'):js X H':=fun x ao=>by
 obtain⟨u,q⟩:=h x ao
 exact⟨u,m _ _ q⟩
theorem js.add{D:af}(h:js X H)(e:H D=J o):js (D::X) H:=fun x ao=>by
 rcases c9.mp ao with rfl|z
 .exact⟨o,e⟩
 .exact h x z
theorem eK.snoc{c:eQ}{X:List af}{H:aq}{f:ba}{o:af}(az:cd c X H f o):∀(fs:List ba){os:List af},eK c X H fs os->eK c X H (fs++[f]) (os++[o])
 |[],os,h=>by
  obtain rfl:os=[]:=h
  exact⟨o,[],I,az,I⟩
 |g::fs,os,h=>by
  obtain⟨a,r,rfl,q,bX⟩:=h
  exact⟨a,r++[o],I,q,eK.snoc az fs bX⟩
inductive Qc(c:eQ)(d:Nat)(vs:List V)(H:aq)(Q:bJ)(E:cN):Prop where
 |mk (e6:V) (f:ba) (X:List af) (bg:vs=[e6]) (ai:js X H) (aj:c8 X H (ep f) e6) (bE:eJ f) (cQ:aM f<=d) (eN:∀o H',Ext H H'->cd c X H' f o->Q (.ref o) H'):Qc c d vs H Q E
def C2(c:eQ)(d:Nat):cD:=fun vs H Q E=>Qc c d vs H Q E
set_option maxHeartbeats 4000000 in
theorem Vs{f:af}{fd:iP}{c:eQ}(nb:dT mg)(F:d1 K mg "_law_made" AE ["_law_form_here"] f fd)
  (uG:lS K (c.b 0)) (wc:mg "Nothing"=J (.ref (c.b 0))) (uH:lS K (c.b 1)) (wd:mg "Truth"=J (.ref (c.b 1))) (uI:lS K (c.b 2)) (we:mg "Whole"=J (.ref (c.b 2))) (uF:lS K (c.b 3)) (wb:mg "Fraction"=J (.ref (c.b 3)))
  (uO:j4 P w K mg base 1 "Span" c.s ["self","low","high"] (I5 c.s)) (uK:j4 P w K mg base 2 "Letters" c.l ["self","signs"] (IY c.l)) (uN:j4 P w K mg base 4 "Record" (c.t 0) ["self","parts"] (wA (c.t 0))) (uJ:j4 P w K mg base 4 "Choice" (c.t 1) ["self","cases"] (wA (c.t 1)))
  (uM:j4 P w K mg base 1 "Maybe" (c.o 0) ["self","inner"] (qX (c.o 0))) (uL:j4 P w K mg base 1 "Many" (c.o 1) ["self","inner"] (qX (c.o 1))) (uP:j4 P w K mg base 1 "Turned" (c.o 2) ["self","inner"] (qX (c.o 2)))
  (p7:bq P w K mg base (d+7) "_law_made" ["_law_form_here"] (C2 c d)):bq P w K mg base (d+7+1) "_law_made" ["_law_form_here"] (C2 c (d+1)):=by
 refine F.eO KJ (fun bx A _ s H vs Q E ax h=>?_)
 obtain⟨e6,g,X,rfl,dJ,br,aL,di,q⟩:=h
 refine Dj _ (aI (bO 1 KJ.bo (bG bH (ab 0) aC))
  (aI (cE (b0 c2 (ab 1) cT) (aR (bB (AR uG rfl wc))) cF)
  (aI (cE (b0 c2 (ab 1) cT) (aR (bB (AR uH rfl wd))) cF)
  (aI (cE (b0 c2 (ab 1) cT) (aR (bB (AR uI rfl we))) cF)
  (aI (cE (b0 c2 (ab 1) cT) (aR (bB (AR uF rfl wb))) cF)
  (aI (cE (b0 c2 (ab 1) cT) (aR (bB (qk uO ax (al (bG bH (ab 0) aC) (al (bG bH (ab 0) aC) aB)) (hk:=by omega)))) cF)
  (aI (cE (b0 c2 (ab 1) cT) (aR (bB (qk uK ax (al (bG bH (ab 0) aC) aB) (hk:=by omega)))) cF)
  (aI (cE (b0 c2 (ab 1) cT) (aR (bB (qk uN ax (al (ik ["_law_name","_law_inner"] [] rfl (by decide+kernel) trivial (h0 (bG bH (ab 0) aC)) (fun _ _ _ _ _=>(pI rfl (jB (d7 (i:=0) (show(["_law_name","_law_inner"]:List ae).Nodup by decide+kernel)) (jB (d7 (i:=1) (show(["_law_name","_law_inner"]:List ae).Nodup by decide+kernel)) px)))) (fun _ _ _ _ _=>hu) (fun _ _ _ _ _=>(jf (al (ab 0) (al (b6 p7 ax (al (ab 1) aB) (hk:=by omega)) aB))))) aB) (hk:=by omega)))) cF)
  (aI (cE (b0 c2 (ab 1) cT) (aR (bB (qk uJ ax (al (ik ["_law_name","_law_inner"] [] rfl (by decide+kernel) trivial (h0 (bG bH (ab 0) aC)) (fun _ _ _ _ _=>(pI rfl (jB (d7 (i:=0) (show(["_law_name","_law_inner"]:List ae).Nodup by decide+kernel)) (jB (d7 (i:=1) (show(["_law_name","_law_inner"]:List ae).Nodup by decide+kernel)) px)))) (fun _ _ _ _ _=>hu) (fun _ _ _ _ _=>(jf (al (ab 0) (al (b6 p7 ax (al (ab 1) aB) (hk:=by omega)) aB))))) aB) (hk:=by omega)))) cF)
  (aI (cE (b0 c2 (ab 1) cT) (aR (bB (qk uM ax (al (b6 p7 ax (al (bG bH (ab 0) aC) aB) (hk:=by omega)) aB) (hk:=by omega)))) cF)
  (aI (cE (b0 c2 (ab 1) cT) (aR (bB (qk uL ax (al (b6 p7 ax (al (bG bH (ab 0) aC) aB) (hk:=by omega)) aB) (hk:=by omega)))) cF)
  (aR (bB (qk uP ax (al (b6 p7 ax (al (bG bH (ab 0) aC) aB) (hk:=by omega)) aB) (hk:=by omega))))))))))))))) fun G eV fR go=>?_
 try dsimp only[c4,c5,c6,c7]at go
 have a0:∀(x:V)(r:List V),ey (x::r) 0=J x:=fun x r=>cB (j:=0) rfl
 have a1:∀(x y:V)(r:List V),ey (x::y::r) 1=J y:=fun x y r=>cB (j:=1) rfl
 cases g with
 | bare k =>
  rw[ep]at br
  obtain⟨T,_,rfl,hA,e,⟨_,_,rfl,⟨rfl,_⟩,rfl⟩,_⟩:=br
  obtain⟨lN,rJ⟩:∃lN,lN=c.b k:=⟨_,rfl⟩
  rcases vr k with rfl|rfl|rfl|rfl
  all_goals
   subst fR
   refine go (hO I e ?_)
   iterate 3 (try refine fe I (by decide+kernel) ?_)
   refine j5 I fun N=>?_
   rw[<-rJ]
   intro x ak ai aj mB
   have E:=Ext.made (C:=lN) (fs:=[]) ai aj mB
   exact⟨_,E.sub,q _ _ E ⟨dJ.no ai,ak,by rw[<-rJ];exact aG⟩⟩
 |sp lo ay =>
  rw[ep]at br
  rw[eJ]at aL
  obtain⟨T,_,rfl,hA,e,⟨_,_,rfl,⟨rfl,_⟩,_,_,rfl,rfl,_,_,rfl,rfl,rfl⟩,_⟩:=br
  subst fR
  refine go (hO I e ?_)
  iterate 4 refine fe I (by decide+kernel) ?_
  have a2:ey [V.str sj,V.int lo,V.int ay] 2=J (.int ay):=cB (j:=2) rfl
  refine j5 I fun N=>⟨_,I,.inl (.inr ⟨_,_,_,_,I,I,bI e,a1 _ _ _,_,I,.inl (.inr ⟨_,_,_,_,I,I,bI e,a2,?_⟩)⟩)⟩
  intro x ak ai aj mB
  refine⟨x,ak,lo,ay,I,aG,aL.1,I,?_⟩
  rw[fN]
  have E:=Ext.made (C:=c.s) (fs:=QX lo ay) ai aj mB
  exact⟨_,E.sub,q _ _ E ⟨dJ.no ai,ak,aG⟩⟩
 |le cb =>
  rw[ep]at br
  rw[eJ]at aL
  obtain⟨T,_,rfl,hA,e,⟨_,_,rfl,⟨rfl,_⟩,_,_,rfl,⟨rfl,_⟩,rfl⟩,_⟩:=br
  subst fR
  refine go (hO I e ?_)
  iterate 5 refine fe I (by decide+kernel) ?_
  refine j5 I fun N=>⟨_,I,.inl (.inr ⟨_,_,_,_,I,I,bI e,a1 _ _ _,?_⟩)⟩
  intro x ak ai aj mB
  refine⟨x,ak,cb,I,aG,by omega,aL.1,rfl,?_⟩
  rw[fN]
  have E:=Ext.made (C:=c.l) (fs:=OM cb) ai aj mB
  exact⟨_,E.sub,q _ _ E ⟨dJ.no ai,ak,aG⟩⟩
 | one k g =>
  rw[ep]at br
  rw[eJ]at aL
  rw[aM]at di
  obtain⟨T,_,rfl,hA,e,⟨_,_,rfl,⟨rfl,_⟩,hp,_,rfl,hd,rfl⟩,_⟩:=br
  have a1:=a1 (.str (pZ k)) hp []
  obtain⟨lN,rJ⟩:∃lN,lN=c.o k:=⟨_,rfl⟩
  rcases rH k with rfl|rfl|rfl
  all_goals
   subst fR
   refine go (hO I e ?_)
   iterate 10 (try refine fe I (by decide+kernel) ?_)
   try refine j5 I fun N=>?_
   rw[<-rJ]
   refine⟨_,I,.inl (.inr ⟨_,_,_,_,I,I,bI e,a1,hp,g,X,I,dJ,hd,aL,by omega,fun o H' gA abw=>?_⟩)⟩
   intro x ak ai aj mB
   refine⟨x,ak,o,I,aG,I,?_⟩
   rw[fN]
   have E:=Ext.made (C:=lN) (fs:=[("inner",V.ref o)]) ai aj mB
   have M:=gA.trans E
   exact⟨_,M.sub,q _ _ M ⟨(dJ.ext gA.s).no ai,ak,o,by rw[<-rJ];exact aG,cd.keep (fun b u _ e=>E.s b u e) g abw⟩⟩
 | two k ns fs =>
  rw[ep]at br
  rw[eJ]at aL
  rw[aM]at di
  obtain⟨gr,cM,mK⟩:=aL
  obtain⟨T,_,rfl,hA,e,⟨_,_,rfl,⟨rfl,_⟩,_,_,rfl,⟨l,nI,rfl,rW,gp,dV,Ob⟩,rfl⟩,_⟩:=br
  have jl:nI.length=fs.length:=by rw[bh.len _ (bP.at _ dV),pw]
  have a1:=a1 (.str (sk k)) (.ref l) []
  obtain⟨lN,rJ⟩:∃lN,lN=c.t k:=⟨_,rfl⟩
  rcases td k with rfl|rfl
  all_goals
   subst fR
   refine go (hO I e ?_)
   iterate 7 (try refine fe I (by decide+kernel) ?_)
   refine j5 I fun N=>?_
   rw[<-rJ]
   have acf:=lX gr
   refine .inl ⟨_,I,.inl (.inr ⟨_,_,_,_,I,I,bI e,a1,l,I,⟨_,bb gp⟩,fun D dB=>?_⟩)⟩
   have vz:D∉X:=dJ.no dB
   refine uU (K:=K) (a:=l) (xs:=nI) (fun i aA av=>Ext H av/\∃aK:List (af×ae×af),aA=aK.map (fun x=>V.ref x.1)/\ho aK=ns.take i/\(∀x,x∈aK->x.1∉D::X/\av x.1=J (.tup [.str x.2.1,.ref x.2.2]))/\eK c (D::X) av (fs.take i) (iJ aK)) (fun U=>∃cP cL,U=[cP,cL]) (by omega) ⟨_,_,I⟩ ?_ ?_ ?_ ?_
   ·rintro i aA av ⟨M2,_⟩
    exact bb (M2.s _ _ gp)
   .exact⟨Ext.lst dB,[],I,I,(fun x ao=>nomatch ao),I⟩
   ·rintro i x ao aA bL H1 ⟨cP,cL,rfl⟩ ⟨gA,aK,rfl,oM,oN,oC⟩ d8 kh R b1
    obtain⟨g,nm,eR,hp,aX,kW,rfl,vE,mz,hd⟩:=rv fs ns cM dV ao
    obtain⟨kk,rT⟩:=sV mK aX
    have oE:js (D::X) H1:=(dJ.ext gA.s).add d8
    have vp:fs.take (i+1)=fs.take i++[g]:=by rw[jy,aX];rfl
    refine⟨_,_,I,bI (gA.s _ _ mz),I,_,_,I,_,_,I,I,?_⟩
    refine⟨_,I,_,I,hp,g,D::X,I,oE,c8.same gA.s (c8.add dB _ hd),kk,by omega,fun o bQ ju BX=>⟨lp,fun kO nz=>?_⟩⟩
    have mh:=Ext.tup (xs:=[V.str nm,.ref o]) nz
    have B2:=oE.ext ju.s
    have NM:kO∉D::X:=B2.no nz
    have nw:bQ D=J (.lst (aK.map fun x=>V.ref x.1)):=ju.s _ _ d8
    have x5:=mh.s _ _ nw
    have abE:kO≠D:=fun z=>NM (by rw[z];exact gF ..)
    have dY:∀b u,b∉D::X->bQ b=J u->upd (upd bQ kO (.tup [.str nm,.ref o])) D (.lst ((aK.map fun x=>V.ref x.1)++[V.ref kO])) b=J u:=fun b u nb e=>by
     rw[bK (fun z=>nb (by rw[z];exact gF ..))];exact mh.s _ _ e
    refine b1 _ _ _ ⟨_,_,I⟩ x5 ⟨⟨fun b u e=>?_,fun cl=>xp x5 (mh.c (ju.c (gA.c cl)))⟩,aK++[(kO,nm,o)],by rw[fo];rfl,?_,fun y aU=>?_,?_⟩
    ·rw[bK (f5 e dB)]
     exact mh.s _ _ (ju.s b u (gA.s b u e))
    ·unfold ho at oM ⊢
     rw[fo,oM,jy,kW];rfl
    ·rcases List.mem_append.mp aU with z|z
     ·obtain⟨gG,eZ⟩:=oN y z
      exact⟨gG,dY _ _ gG (ju.s _ _ eZ)⟩
     ·rw[d5.mp z]
      exact⟨NM,by show upd _ D _ kO=_;rw[bK abE,aG]⟩
    ·rw[vp,show iJ (aK++[(kO,nm,o)])=iJ aK++[o] by unfold iJ;rw[fo];rfl]
     exact eK.snoc (cd.keep dY _ BX) _ (eK.keep dY _ (eK.keep (fun b u _ e=>ju.s b u e) _ oC))
   ·rintro aA H' kh oB ⟨JQ,aK,rfl,oM,oN,oC⟩
    rw[jl,UV (by omega)]at oM
    rw[jl,UV (b8 _)]at oC
    rw[cw]at kh
    have cG:Parts H' D aK:=⟨oB,fun x ao=>(oN x ao).2,by omega,fun x ao=>dE (acf.2 _ (by rw[<-oM];exact List.mem_map.mpr ⟨x,ao,I⟩)) (by decide)⟩
    intro y ak aU B8 jU
    have Rv:=Ext.made (C:=lN) (fs:=[]) aU B8 jU
    refine⟨y,ak,D,aK,I,aG,cG.same Rv.s,by rw[oM];exact gr,fun cq cR ai aj mB=>⟨I,?_⟩⟩
    have eC:cq≠y:=fun z=>by rw[z,aG]at ai;cases ai
    have dc:cR≠y:=fun z=>by rw[z,aG]at aj;cases aj
    rw[AW dc,AW eC,fN]
    have DR:=Ext.made (C:=lN) (fs:=Dh cq cR) aU B8 jU
    have g1:upd (upd H' ak (.own y)) y (.ins lN ak (Dh cq cR)) cq=aw:=by rw[bK eC]at ai ⊢;exact ai
    have DS:=Ext.lst (xs:=(ho aK).map V.str) g1
    have g2:upd (upd (upd H' ak (.own y)) y (.ins lN ak (Dh cq cR))) cq (.lst ((ho aK).map V.str)) cR=aw:=by rw[bK (eF mB)];rw[bK dc]at aj ⊢;exact aj
    have DT:=Ext.lst (xs:=(iJ aK).map V.ref) g2
    have E:=(DR.trans DS).trans DT
    have M:=JQ.trans E
    have vF:=dJ.ext JQ.s
    refine⟨_,M.sub,q _ _ M ⟨vF.no aU,ak,cq,cR,iJ aK,by rw[<-rJ];exact(DS.trans DT).s _ _ aG,vF.no (DR.s.free g1),vF.no ((DR.trans DS).s.free g2),by rw[<-oM];exact DT.s _ _ aG,aG,eK.keep (fun b u _ e=>E.s b u e) _ (eK.weak (fun x ao=>en _ ao) _ oC)⟩⟩
theorem Kp{f:af}{fd:iP}{c:eQ}(nb:dT mg)(F:d1 K mg "_law_made" AE ["_law_form_here"] f fd)
  (uG:lS K (c.b 0)) (wc:mg "Nothing"=J (.ref (c.b 0))) (uH:lS K (c.b 1)) (wd:mg "Truth"=J (.ref (c.b 1))) (uI:lS K (c.b 2)) (we:mg "Whole"=J (.ref (c.b 2))) (uF:lS K (c.b 3)) (wb:mg "Fraction"=J (.ref (c.b 3)))
  (uO:j4 P w K mg base 1 "Span" c.s ["self","low","high"] (I5 c.s)) (uK:j4 P w K mg base 2 "Letters" c.l ["self","signs"] (IY c.l)) (uN:j4 P w K mg base 4 "Record" (c.t 0) ["self","parts"] (wA (c.t 0))) (uJ:j4 P w K mg base 4 "Choice" (c.t 1) ["self","cases"] (wA (c.t 1)))
  (uM:j4 P w K mg base 1 "Maybe" (c.o 0) ["self","inner"] (qX (c.o 0))) (uL:j4 P w K mg base 1 "Many" (c.o 1) ["self","inner"] (qX (c.o 1))) (uP:j4 P w K mg base 1 "Turned" (c.o 2) ["self","inner"] (qX (c.o 2))):∀d,bq P w K mg base (d+7) "_law_made" ["_law_form_here"] (C2 c d)
 |0=>bq.none F fun vs H Q E z=>by obtain⟨_,g,_,_,_,_,_,h,_⟩:=z;have:=vh g;omega
 |d+1=>Vs nb F uG wc uH wd uI we uF wb uO uK uN uJ uM uL uP (Kp nb F uG wc uH wd uI we uF wb uO uK uN uJ uM uL uP d)
inductive PT(vs:List V)(H:aq)(Q:bJ)(E:cN):Prop where
 |mk (a b:Int) (bg:vs=[.int a,.int b]) (ai:∀(p q:Int)(t:af)(H':aq),Ext H H'->H t=aw->H' t=J (.tup [.int p,.int q])->bV (.tup [.int p,.int q])=ah->(a=0/\b=0->p=0/\q=1)->Q (.ref t) H'):PT  vs H Q E
def IV:cD:=fun vs H Q E=>PT  vs H Q E
theorem LJ:3<=cj:=by decide
theorem VE(nb:dT mg)(F:d1 K mg "_law_fraction" Ez ["_law_one","_law_other"] f fd):bq P w K mg base 1 "_law_fraction" ["_law_one","_law_other"] IV:=by
 refine F.eO rl (fun bx A _ s H vs Q E ax h=>?_)
 obtain⟨a,b,rfl,q⟩:=h
 refine⟨_,(aI (bO 2 rl.bo (aN k0 (aN dI (aN u6 (ab 0) aC) (bG bH (h6 (al aC (al aC (al (aN xH aC aC) aB)))) (aN dI (ab 0) aC))) (bG bH (h6 (al aC (al (lB ll aC) aB))) (aN dI (ab 1) aC))))
  (aI (bO 3 rl.bo (aN eb aC (aN dI (aN u6 (ab 1) aC) (bG bH (h6 (al aC (al aC (al (aN xH aC aC) aB)))) (aN dI (aN u6 (ab 1) aC) aC)))))
  (aI (bO 4 rl.bo (b9 S0 rfl nb.ZF UN (al (ab 2) aB)))
  (aI (bO 5 rl.bo (ab 3))
  (aI (ro h2.never (b0 jG (ab 4) aC)
   (aI (bO 6 rl.bo (aN dI (ab 5) (ab 4)))
   (aI (bO 5 rl.bo (ab 4))
   (aR (bO 4 rl.bo (ab 6))))))
  (aR (bB (jf (al (aN u6 (ab 2) (ab 5)) (al (aN u6 (ab 3) (ab 5)) aB)))))))))),?_⟩
 try dsimp only[c4,c5,c6,c7]
 have wk:zt 10 38:=by refine⟨?_,?_,?_⟩<;>decide
 obtain⟨M,x7,abB⟩:=u9 V.int [10,1000,10^Int.toNat 38] a 3 rfl (by show 0<3;decide)
 have NG:0<M/\M<=10^38:=by
  have:∀y∈([10,1000,10^Int.toNat 38]:List Int),0<y/\y<=10^38:=by decide+kernel
  exact this M x7
 obtain⟨S,dk,tk⟩:=u9 V.int [1,-1] b 2 rfl (by show 0<2;decide)
 have NI:S=1\/S = -1:=by simpa using dk
 obtain⟨N,b3,abC⟩:=u9 V.int [6,1000,10^Int.toNat 38] (b/2) 3 rfl (by show 0<3;decide)
 have NH:0<N/\N<=10^38:=by
  have:∀y∈([6,1000,10^Int.toNat 38]:List Int),0<y/\y<=10^38:=by decide+kernel
  exact this N b3
 have eX:zr (a/3%M) S:=by rcases NI with rfl|rfl<;>exact .inr ⟨by decide,by decide⟩
 have m0:=hT (a/3) (show M≠0 by omega)
 have fj:=h5 (a/3) NG.1
 have OW:=hT (b/6) (show N≠0 by omega)
 have eC:=h5 (b/6) NH.1
 refine⟨_,I,_,_,I,I,⟨by decide,.inl (by decide)⟩,_,_,rfl,rfl,wk,LJ,fun g1 tv=>⟨_,rfl,_,_,rfl,rfl,(by show(0:Int)<3;decide),.inl (.inl ⟨_,_,_,_,rfl,rfl,bb aG,abB,_,_,rfl,rfl,NG.1,_,rfl,lp,fun g2 rT=>⟨_,rfl,_,_,rfl,rfl,(by show(0:Int)<2;decide),.inl (.inl ⟨_,_,_,_,rfl,rfl,bb aG,tk,.inl ⟨_,_,rfl,rfl,eX,?_⟩⟩)⟩⟩)⟩⟩
 have iS:=(Ext.lst (xs:=[V.int 10,.int 1000,.int (10^Int.toNat 38)]) tv).trans (Ext.lst (xs:=[V.int 1,.int (-1)]) rT)
 have bZ:(a/3%M*S).natAbs<=10^38:=by rcases NI with rfl|rfl<;>omega
 have NL:a=0->a/3%M*S=0:=by rintro rfl;rw[Int.zero_ediv,Int.zero_emod,Int.zero_mul]
 dsimp only
 generalize a/3%M*S=T at bZ NL ⊢
 refine⟨_,I,_,_,I,I,⟨by decide,.inl (by decide)⟩,_,_,rfl,rfl,wk,LJ,fun g3 acd=>⟨_,rfl,_,_,rfl,rfl,⟨by decide,.inl (by decide)⟩,_,_,rfl,rfl,(by show(0:Int)<3;decide),.inl (.inl ⟨_,_,_,_,rfl,rfl,bb aG,abC,_,_,rfl,rfl,NH.1,.inl ⟨_,_,rfl,rfl,?_⟩⟩)⟩⟩
 have nd:=iS.trans (Ext.lst (xs:=[V.int 6,.int 1000,.int (10^Int.toNat 38)]) acd)
 have tg:0<1+b/6%N/\1+b/6%N<=10^38:=by omega
 have Nw:b=0->1+b/6%N=1:=by rintro rfl;rw[Int.zero_ediv,Int.zero_emod];rfl
 dsimp only
 generalize 1+b/6%N=B at tg Nw ⊢
 generalize upd (upd (upd H g1 _) g2 _) g3 _=bQ at nd ⊢
 refine⟨_,I,_,I,_,I,?_⟩
 obtain⟨B,rfl⟩:∃n:Nat,B=n:=⟨B.toNat,by omega⟩
 refine⟨fun m U av=>bQ=av/\∃(y:Nat)(pf:Option V),U=[J (.int a),J (.int b),J (.int T),J (.int (B:Int)),J (.int (m:Nat)),J (.int (y:Nat)),pf]/\Nat.gcd y m=Nat.gcd B T.natAbs/\0<y,⟨T.natAbs,I,B,aw,?_,I,by omega⟩,?_⟩
 .rw[show(if T<0 then -T else T)=((T.natAbs:Nat):Int) by split<;>omega];rfl
 rintro m U av ⟨rfl,y,pf,rfl,aX,aU⟩
 refine⟨_,I,_,_,I,I,_,I,?_⟩
 refine e2 (fun c=>?_) (fun c=>?_)
 ·have hm:0<m:=by omega
  refine⟨fun cg H'=>∃bY,bY<m/\(bQ=H'/\∃(y:Nat)(pf:Option V),cg=[J (.int a),J (.int b),J (.int T),J (.int (B:Int)),J (.int (bY:Nat)),J (.int (y:Nat)),pf]/\Nat.gcd y bY=Nat.gcd B T.natAbs/\0<y),fun _ _ h=>h,?_⟩
  refine⟨_,I,_,I,_,_,I,I,(by omega),_,I,_,I,y%m,Nat.mod_lt _ hm,I,m,J (.int ((y%m:Nat):Int)),?_,?_,hm⟩
  ·dsimp only
   rw[<-Int.natCast_emod];rfl
  .rw[Nat.gcd_comm,<-Nat.gcd_rec,Nat.gcd_comm];exact aX
 ·have hm:m=0:=by omega
  subst hm
  rw[Nat.gcd_zero_right]at aX
  have ajH:y<=B:=by rw[aX];exact Nat.gcd_le_left _ (by omega)
  have aiV:(y:Int)∣T:=by rw[aX];exact Int.ofNat_dvd_left.mpr (Nat.gcd_dvd_right _ _)
  have ZW:(y:Int)∣(B:Int):=by rw[aX];exact Int.natCast_dvd_natCast.mpr (Nat.gcd_dvd_left _ _)
  have rN:cS.Int.intBits (y:Int)<=9000:=by
   rw[ve]
   have abq:(10:Nat)^38<2^200:=by decide+kernel
   exact dE (jh (show y<2^200 by omega)) (by decide)
  refine⟨_,I,_,I,_,_,I,I,⟨by omega,.inl rN⟩,_,rfl,_,rfl,_,_,rfl,rfl,⟨by omega,.inl rN⟩,lp,fun t aM=>?_⟩
  have rj:=nd.trans (Ext.tup (xs:=[V.int (T/(y:Int)),.int ((B:Int)/(y:Int))]) aM)
  refine⟨_,rj.sub,q _ _ t _ rj (nd.s.free aM) aG (eu ⟨?_,?_,?_,?_⟩) (fun z=>?_)⟩
  .exact Int.ediv_pos_of_pos_of_dvd (by omega) (by omega) ZW
  ·have:Int.gcd T (B:Int)=y:=by rw[aX,Nat.gcd_comm];rfl
   rw[<-this]
   exact Int.gcd_ediv_gcd_ediv_gcd (by rw[this];exact aU)
  ·have:=Int.natAbs_ediv_le_natAbs T (y:Int)
   omega
  ·have:=Int.ediv_le_self (a:=(B:Int)) (y:Int) (by omega)
   omega
  ·have ai:=NL z.1
   have aj:=Nw z.2
   have bE:y=1:=by omega
   rw[ai,aj,bE];exact⟨I,I⟩
theorem ady{b:Bool}{B:Prop}(ai:b=ah->A)(aj:b=aF->B):if b=ah then A else B:=by
 cases b
 .exact dW (aj I)
 .exact e3 (ai I)
theorem UG{w a b:ae}(ai:w≠a)(aj:w≠b):vX (.str w) [.str a,.str b]=aF:=by
 have aS:mA (.str a) (.str w)=aF:=by simp[mA,eF ai]
 have aV:mA (.str b) (.str w)=aF:=by simp[mA,eF aj]
 unfold vX
 rw[List.any_cons,List.any_cons,aS,aV];rfl
theorem Bo:(∀k:Fin 3,pZ k≠ae.ofString "truth"/\pZ k≠ae.ofString "nothing")/\(∀k:Fin 2,sk k≠ae.ofString "truth"/\sk k≠ae.ofString "nothing")/\(sj≠ae.ofString "truth"/\sj≠ae.ofString "nothing")/\ug≠ae.ofString "truth"/\ug≠ae.ofString "nothing":=by decide+kernel
theorem T7:∀f:ba,∃w r,ep f=.tup (.str w::r)/\(r=[]/\dD f=1\/r≠[]/\w≠ae.ofString "truth"/\w≠ae.ofString "nothing")
 |.bare k=>⟨_,_,by rw[ep],.inl ⟨rfl,by rw[dD]⟩⟩
 |.sp a b=>⟨_,_,by rw[ep],.inr ⟨lx _ _,Bo.2.2.1⟩⟩
 |.le s=>⟨_,_,by rw[ep],.inr ⟨lx _ _,Bo.2.2.2⟩⟩
 |.one k f=>⟨_,_,by rw[ep],.inr ⟨lx _ _,Bo.1 k⟩⟩
 |.two k ns fs=>⟨_,_,by rw[ep],.inr ⟨lx _ _,Bo.2.1 k⟩⟩
theorem FV{n:Int}(h:hW n):(gP n).length<=270:=by
 obtain⟨ai,aj⟩:=h
 have key:∀m:Nat,m+1<2^255->(cnt m).length<=269:=fun m hm=>by
  have:=AM hm
  have:=jh hm
  omega
 unfold gP
 split
 ·rw[d6,cw]
  have:=key (-1-n).toNat (by omega)
  omega
 ·rw[d6]
  have:=key n.toNat (by omega)
  omega
theorem LU:∀(s:List Int),(∀x∈s,hQ (x-1))->(more s).length<=271*s.length+1
 |[],_=>by rw[more];exact b8 _
 |b::r,h=>by
  obtain⟨ai,aj⟩:=h b (gF ..)
  have hm:(b-1).toNat+1<2^255:=by omega
  have a1:=AM hm
  have a2:=jh hm
  have:=LU r fun x ao=>h x (en _ ao)
  rw[more,d6,cw,dX,d6]
  omega
theorem YO{d:D}(h:bV d=ah):(bW d).length<=100000:=by
 obtain⟨p,q,rfl,ai,aj,bE,cQ,eN,jj⟩:=AK h
 show(jD (fh p q)).length<=_
 rw[m4 ai]at cQ eN jj ⊢
 rw[jD,dX]
 have a1:=FV (eN _ (gF ..))
 have a2:=LU _ jj
 have a3:((p/q::fh q (p%q)).drop 1).length=(fh q (p%q)).length:=rfl
 rw[d6]at cQ
 rw[a3]at a2
 have a4:(more ((p/q::fh q (p%q)).drop 1)).length=(more (fh q (p%q))).length:=rfl
 omega
theorem YN:(bW (.tup [.int 0,.int 1])).length<=300:=by
 show(jD (fh 0 1)).length<=_
 rw[m4 (by decide)]
 show(jD (0::fh 1 0)).length<=_
 rw[ru];decide+kernel
theorem TT{s t:ae}(h:s.length<=60):(yF s (.str t)).length<=7*t.length+1:=by
 have ag:aE (s.length-1)<=6:=jh (w:=6) (by omega)
 have key:∀l:List Nat,((l.map fun c=>ah::dj (s.cps.toList.idxOf c) (aE (s.length-1))).flatten).length<=7*l.length:=by
  intro l
  induction l with
  |nil=>exact b8 _
  |cons c l bT =>
   rw[fD,j8,dX,d6,iV,d6]
   omega
 show(_++[aF]).length<=_
 rw[dX]
 have:=key t.cps.toList
 rw[iB]at this
 exact Nat.succ_le_succ this
theorem K8{fw:D->List Bool}{f:ba}{d:D}:∀(fs:List ba)(ds:List D),ds.length=fs.length->gk fw (fs++[f]) (ds++[d])=gk fw fs ds++bf fw f d
 |[],[],_=>by
  show gk fw (f::[]) (d::[])=gk fw [] []++_
  rw[gk,gk,gk]
  show bf fw f d++[]=[]++_
  rw[List.append_nil,List.nil_append]
 |[],_::_,h=>by cases h
 |_::_,[],h=>by cases h
 |g::fs,e::ds,h=>by
  have:=K8 fs ds (by simpa using h) (fw:=fw) (f:=f) (d:=d)
  show gk fw (g::(fs++[f])) (e::(ds++[d]))=gk fw (g::fs) (e::ds)++_
  rw[gk,gk]
  show bf fw g e++gk fw (fs++[f]) (ds++[d])=bf fw g e++gk fw fs ds++_
  rw[this,gD]
def ml(m bY L s:Nat):Prop:=bY<=m/\(L<=150000*(m-bY)\/m=0/\L<=300*s)
def xd(m fj:Nat)(c:Int):Prop:=m=fj+1\/m=0/\fj=0/\c=0
theorem ml.leaf{L s:Nat}{c:Int}(hc:xd m fj c)(hs:1<=s)(hY:L<=150000)(bz:c=0->L<=300):ml m fj L s:=by
 rcases hc with z|⟨cP,cL,fL⟩
 .exact⟨by omega,.inl (by omega)⟩
 ·have:=bz fL
  exact⟨by omega,.inr ⟨cP,by omega⟩⟩
theorem ml.wrap{bY L uE s bl:Nat}{c:Int}(hc:xd m fj c)(h:ml fj bY L s)(hs:s+1<=bl)(mM:bl<=150)(hY:uE<=L+300):ml m bY uE bl:=by
 obtain⟨ai,aj⟩:=h
 rcases hc with z|⟨cP,cL,fL⟩
 .exact⟨by omega,.inl (by omega)⟩
 .exact⟨by omega,.inr ⟨cP,by omega⟩⟩
theorem qu(X:Ext H H')(h:m5 p H):pl H' p=pl H p:=by
 obtain⟨ns,e,_⟩:=h
 rw[s3 e,s3 (X.s _ _ e)]
theorem vk{D:af}(h:D≠p):pl (upd H D o) p=pl H p:=by
 unfold pl
 rw[bK (eF h)]
theorem pV{R:e1}{D:Ends}(ao:U[i]?=J (J (.ref p)))(cG:m5 p H)(h:∀c H1,d2 p H H1->xd (pl H p) (pl H1 p) c->R D (U.set j (J (.int c))) H1):kH (wB (I7 wy [] jd (Q3 (o8 i) De)) (vu j)) R D U H:=⟨_,ao,p,rfl,cG,fun c ns l7 hc=>h c _ (d2.pop cG l7) (by
 rw[s3 aG,cw]
 rcases hc with z|⟨cP,cL,fL⟩
 .exact .inl z
 .exact .inr ⟨cP,by rw[cL];rfl,fL⟩)⟩
theorem SX{D:af}(n:Nat)(xs:Nat->V)(Inv:Nat->List V->aq->Prop)(S:St->Prop)(bz:n<=100000)(bg:S eV)
  (yf:∀i H,i<n->el.go i H) (HZ:∀H,el.stop n H) (aU:∀i H x H',i<n->el.p0 i H x H'->H'=H/\x=xs i) (ai:Inv 0 [] (upd H D (.lst [])))
  (aM:∀i,i<n->∀aA bL H1,S bL->Inv i aA H1->H1 D=J (.lst aA)->aA.length=i->∀R:St->V->aq->Prop,(∀bu y bQ,S bu->bQ D=J (.lst aA)->Inv (i+1) (aA++[y]) (upd bQ D (.lst (aA++[y])))->R bu y bQ)->g (xs i) bL H1 fun bu av=>cI bu av fun y bQ=>R bu y bQ)
  (bj:∀(aA:List V)(H':aq),aA.length=n->H' D=J (.lst aA)->Inv n aA H'->Q (.ref D) H') :
  lO el g pY cI Q eV H D:=by
 refine⟨fun i m bL av=>i<=n/\m=n-i/\S bL/\∃aA:List V,aA.length=i/\av D=J (.lst aA)/\Inv i aA av,⟨n,UF _,I,bg,[],I,aG,ai⟩,?_⟩
 rintro i m bL av ⟨ay,rfl,aj,aA,kh,iZ,cG⟩
 rcases g4 i n with z|z
 ·refine .inr ⟨yf i _ z,fun x bQ y=>?_⟩
  obtain⟨rfl,rfl⟩:=aU i _ x bQ z y
  refine aM i z aA bL _ aj cG iZ kh (fun bu y d9=>∃zs bY,d9 D=J (.lst zs)/\zs.length<cj/\bY<n-i/\(i+1<=n/\bY=n-(i+1)/\S bu/\∃ws:List V,ws.length=i+1/\upd d9 D (.lst (zs++[y])) D=J (.lst ws)/\Inv (i+1) ws (upd d9 D (.lst (zs++[y]))))) fun bu y d9 fS G4 Ha=>?_
  exact⟨aA,n-(i+1),G4,fB (show aA.length<100000 by omega) (by decide),by omega,by omega,rfl,fS,aA++[y],by rw[dX,kh];rfl,aG,Ha⟩
 ·have e:i=n:=by omega
  subst e
  exact .inl ⟨HZ _,bj aA av kh iZ cG⟩
theorem js.grow(h:js X H)(g:d2 p H H'):js X H':=fun x ao=>by
 by_cases z:x=p
 ·subst z
  obtain⟨ns,e,_⟩:=g.l
  exact⟨_,e⟩
 ·obtain⟨l,e⟩:=h x ao
  exact⟨l,g.k _ _ z e⟩
theorem Lr{bc:D->Bool}{f:ba}{d:D}(h:bw bc f d=ah):∀(fs:List ba)(ds:List D),ej bc fs ds=ah->ej bc (fs++[f]) (ds++[d])=ah
 |[],[],_=>by show ej bc [f] [d]=ah;rw[ej,ej];simp[h]
 |[],e::ds,h=>by rw[ej]at h;cases h
 |g::fs,[],h=>by rw[ej]at h;cases h
 |g::fs,e::ds,hs=>by
  rw[ej]at hs
  show ej bc (g::(fs++[f])) (e::(ds++[d]))=ah
  rw[ej]
  have hs:(bw bc g e&&ej bc fs ds)=ah:=hs
  show(bw bc g e&&ej bc (fs++[f]) (ds++[d]))=ah
  rw[gZ]at hs ⊢
  exact⟨hs.1,Lr h fs ds hs.2⟩
theorem Lw{d:D}{n:Nat}(h:eH d<=n):∀{ds:List D},ei ds<=n->ei (ds++[d])<=n
 |[],_=>by show ei [d]<=n;rw[ei,ei];omega
 |g::fs,hs=>by
  rw[ei]at hs
  show ei (g::(fs++[d]))<=n
  rw[ei]
  have:=Lw h (ds:=fs) (by omega)
  omega
theorem FW:∀{fs:List ba}{i:Nat}{g:ba},fs[i]?=J g->dD g<=j0 fs
 |[],i,g,h=>by cases h
 |f::fs,0,g,h=>by cases h;rw[j0];omega
 |f::fs,i+1,g,h=>by have:=FW (fs:=fs) (i:=i) h;rw[j0];omega
inductive QQ(d:Nat)(vs:List V)(H:aq)(Q:bJ)(E:cN):Prop where
 |mk (p:af) (e6:V) (f:ba) (X:List af) (bg:vs=[.ref p,e6]) (ai:p∈X) (aj:m5 p H) (bE:js X H) (cQ:c8 X H (ep f) e6) (eN:eJ f) (jj:aM f<=d) (nt:dD f<=150) (nu:∀v iH H',d2 p H H'->c8 X H' iH v->bw bV f iH=ah->eH iH<=aM f+1->ml (pl H p) (pl H' p) (bf bW f iH).length (dD f)->Q v H'):QQ d vs H Q E
def C7(d:Nat):cD:=fun vs H Q E=>QQ d vs H Q E
theorem FQ{n:Nat}:∀(ds:List D),(∀d,d∈ds->eH d<=n)->ei ds<=n
 |[],_=>by rw[ei];omega
 |d::ds,h=>by
  rw[ei]
  have:=h d (gF ..)
  have:=FQ ds fun e he=>h e (en _ he)
  omega
theorem S4(t:ae)(c:Nat):(t++(⟨#[c]⟩:ae)).cps.toList=t.cps.toList++[c]:=by rw[vf]
set_option maxHeartbeats 4000000 in
theorem Vi(nb:dT mg)(F:d1 K mg "_law_value" As ["_law_pool_here","_law_form_here"] f fd)(ig:bq P w K mg base 1 "_law_next" ["_law_pool_here"] wy)(sv:bq P w K mg base 2 "_law_signed" ["_law_cell"] I4)(uz:bq P w K mg base 1 "_law_fraction" ["_law_one","_law_other"] IV)
  (p9:bq P w K mg base (d+3) "_law_value" ["_law_pool_here","_law_form_here"] (C7 d)):bq P w K mg base (d+3+1) "_law_value" ["_law_pool_here","_law_form_here"] (C7 (d+1)):=by
 refine F.eO nf (fun bx A _ s H vs Q E ax h=>?_)
 obtain⟨p,e6,g,X,rfl,eB,cG,dJ,br,aL,di,gy,q⟩:=h
 refine Dj _ (aI (bO 2 nf.bo (bG bH (ab 1) aC))
  (aI (cE (b0 c2 (ab 2) cT) (aR (bB qv)) cF)
  (aI (bO 3 nf.bo (b6 ig ax (al (ab 0) aB) (hk:=by omega)))
  (aI (cE (b0 c2 (ab 2) cT) (aR (bB (fO c2 (aN dI (ab 3) aC) aC))) cF)
  (aI (cE (gc.pt (oq (b0 c2 (ab 2) cT) (od (b0 jG (b9 du rfl nb.dn dq (al (ab 0) aB)) aC)))) (aR (bB (b6 sv ax (al (ab 3) aB) (hk:=by omega)))) cF)
  (aI (cE (b0 c2 (ab 2) cT) (aR (bB (b6 sv ax (al (aN dI (ab 3) aC) aB) (hk:=by omega)))) cF)
  (aI (cE (b0 c2 (ab 2) cT) (aR (bB (aN eb (bG bH (ab 1) aC) (aN dI (ab 3) (aN eb (aN gj (bG bH (ab 1) aC) (bG bH (ab 1) aC)) aC))))) cF)
  (aI (cE (b0 c2 (ab 2) cT) (aR (bB (b6 uz ax (al (ab 3) (al (b6 ig ax (al (ab 0) aB) (hk:=by omega)) aB)) (hk:=by omega)))) cF)
  (aI (cE (b0 c2 (ab 2) cT) (Bd (bO 4 nf.bo (bG bH (h6 (al (aN dI (ab 3) aC) (al aC aB))) (mw qc rfl nb.nH nh (al (jg (fO c2 (aN dI (ab 3) aC) aC) (jg (fO jm (b9 du rfl nb.dn dq (al (bG bH (ab 1) aC) aB)) aC) (jQ (fO jG (b9 du rfl nb.dn dq (al (ab 0) aB)) aC)))) aB))))
   (aI (bO 5 nf.bo cT)
   (aI (kK h2.never rfl (lY rfl nb.k4 (al (ab 4) aB)) (d7 (i:=6) nf.bo rfl (by first|exact Or.inl I|exact Or.inr I))
    (aI (bO 5 nf.bo (aN eb (ab 5) (bG bH (bG bH (ab 1) aC) (aN dI (aN hh (ab 3) aC) (b9 du rfl nb.dn dq (al (bG bH (ab 1) aC) aB))))))
    (aR (bO 3 nf.bo (aN hh (ab 3) (b9 du rfl nb.dn dq (al (bG bH (ab 1) aC) aB)))))))
   (aR (bB (ab 5)))))) cF)
  (aI (cE (gc.pt (oq (b0 c2 (ab 2) cT) (od (b0 c2 (aN dI (ab 3) aC) aC)))) (aR (bB (jf aB))) cF)
  (aI (cE (b0 c2 (ab 2) cT) (aR (bB (jf (al (b6 p9 ax (al (ab 0) (al (bG bH (ab 1) aC) aB)) (hk:=by omega)) aB)))) cF)
  (aI (cE (b0 c2 (ab 2) cT) (Bd (bO 4 nf.bo (aN dI (ab 3) (bG bH (h6 (al aC (al aC aB))) (mw qc rfl nb.nH nh (al (fO jG (b9 du rfl nb.dn dq (al (ab 0) aB)) aC) aB)))))
   (Bd (cE (Bc Le (bG bH (bG bH (ab 1) aC) aC) (h6 (al cT (al cT aB))) (by with_unfolding_all rfl)) (aR (bO 4 nf.bo (aN dI (aN hh (ab 3) aC) aC))) cF)
   (aR (bB (ik ["_law_k"] [(0,"_law_pool_here"),(1,"_law_form_here")] rfl (by decide+kernel) ⟨rfl,.inl rfl,rfl,.inl rfl,trivial⟩ (lY rfl nb.k4 (al (ab 4) aB)) (fun _ _ _ _ _=>(d7 (i:=0) (show(["_law_k","_law_pool_here","_law_form_here"]:List ae).Nodup by decide+kernel))) (fun _ _ _ _ _=>hu) (fun _ _ _ _ _=>(b6 p9 ax (al (ab 1) (al (bG bH (ab 2) aC) aB)) (hk:=by omega)))))))) cF)
  (aI (cE (b0 c2 (ab 2) cT) (aR (bB (mw Ku rfl nb.q1 ql (al (ik ["_law_name","_law_inner"] [(0,"_law_pool_here")] rfl (by decide+kernel) ⟨rfl,.inl rfl,trivial⟩ (h0 (bG bH (ab 1) aC)) (fun _ _ _ _ _=>(pI rfl (jB (d7 (i:=0) (show(["_law_name","_law_inner","_law_pool_here"]:List ae).Nodup by decide+kernel)) (jB (d7 (i:=1) (show(["_law_name","_law_inner","_law_pool_here"]:List ae).Nodup by decide+kernel)) px)))) (fun _ _ _ _ _=>hu) (fun _ _ _ _ _=>(b6 p9 ax (al (ab 2) (al (ab 1) aB)) (hk:=by omega)))) aB)))) cF)
  (aI (cE (b0 c2 (ab 2) cT) (aI (Ul (bG bH (bG bH (ab 1) aC) (aN dI (ab 3) (b9 du rfl nb.dn dq (al (bG bH (ab 1) aC) aB)))) (pI rfl (jB (d7 (i:=7) nf.bo rfl (by first|exact Or.inl I|exact Or.inr I)) (jB (d7 (i:=8) nf.bo rfl (by first|exact Or.inl I|exact Or.inr I)) px))))
   (aR (bB (jf (al (ab 7) (al (b6 p9 ax (al (ab 0) (al (ab 8) aB)) (hk:=by omega)) aB)))))) cF)
  (aR (bB (b6 p9 ax (al (ab 0) (al (bG bH (ab 1) aC) aB)) (hk:=by omega)))))))))))))))))) fun G eV fR go=>?_
 try dsimp only[c4,c5,c6,c7]at go
 have a0:∀(x:V)(r:List V),ey (x::r) 0=J x:=fun x r=>cB (j:=0) rfl
 have a1:∀(x y:V)(r:List V),ey (x::y::r) 1=J y:=fun x y r=>cB (j:=1) rfl
 have l4:∀{T:af},T∉X->T≠p:=fun h z=>h (by rw[z];exact eB)
 cases g with
 | bare k =>
  rw[ep]at br
  rw[aM]at q
  obtain⟨T,_,rfl,hA,e,⟨_,_,rfl,⟨rfl,_⟩,rfl⟩,_⟩:=br
  rcases vr k with rfl|rfl|rfl|rfl
  ·skip
   subst fR
   refine go (hO I e ?_)
   refine j5 I fun N=>⟨_,(d2.refl cG).sub,q _ .aT _ (d2.refl cG) I (by rw[bw];rfl) (by rw[eH];omega) (by rw[bf];exact⟨b8 _,.inl (UF _)⟩)⟩
  ·skip
   subst fR
   refine go (hO I e ?_)
   refine fe I (by decide+kernel) ?_
   refine pV I cG fun cl H1 cx hc=>?_
   refine j5 I fun N=>⟨_,I,_,_,I,I,(by show(0:Int)<2;decide),I,_,cx.sub,q _ (.aQ _) _ cx I (by rw[bw];rfl) (by rw[eH];omega) (by rw[bf,dD];exact ml.leaf hc (b8 _) (show 1<=150000 by decide) (fun _=>show 1<=300 by decide))⟩
  ·skip
   subst fR
   refine go (hO I e ?_)
   refine fe I (by decide+kernel) ?_
   refine pV I cG fun cl H1 cx hc=>?_
   refine fe I (by decide+kernel) ?_
   obtain⟨fj,nE,Cf⟩:=cx.l
   have ck:∀n:Int,hW n->kt H H1 (Q (.int n)):=fun n aW=>⟨_,cx.sub,q _ (.int n) _ cx rfl (by rw[bw];exact eu aW) (by rw[eH];omega) (by rw[bf,dD];exact ml.leaf hc (b8 _) (dE (FV aW) (by decide)) (fun _=>dE (FV aW) (by decide)))⟩
   refine⟨_,I,I,_,I,iK I ⟨_,I,_,_,I,.inl ⟨_,bb nE,I⟩,_,_,I,I,_,I,e2 (fun fu=>⟨_,I,cl,I,ck⟩) (fun fu=>?_)⟩⟩
   exact j5 I fun N=>⟨_,I,_,_,I,I,(by show(0:Int)<1000;decide),_,I,ck⟩
  ·skip
   subst fR
   refine go (hO I e ?_)
   refine fe I (by decide+kernel) ?_
   refine pV I cG fun cl H1 cx hc=>?_
   iterate 4 (first|refine fe I (by decide+kernel) ?_|refine t7 I (by decide+kernel) ?_)
   refine j5 I fun N=>⟨_,I,_,I,p,I,cx.l,fun f6 dc kg lF=>⟨cl,f6,I,fun pp agM t H' mv l9 acY az bz=>?_⟩⟩
   have eh:=(cx.trans (d2.pop cx.l kg)).ext mv
   have acZ:t∉X:=(dJ.grow (cx.trans (d2.pop cx.l kg))).no l9
   refine⟨_,eh.sub,q _ (.tup [.int pp,.int agM]) _ eh ⟨t,_,I,acZ,acY,⟨_,_,I,I,_,_,I,I,I⟩,by simp⟩ (by rw[bw];exact az) (by rw[eH,ei,ei,ei,eH,eH];omega) ?_⟩
   rw[s3 (mv.s p (.lst (dc.map V.int)) aG),cw,bf,dD]
   have hY:=YO az
   have aj:dc.length<=pl H1 p:=by
    rcases lF with y|⟨_,ko,_⟩
    .omega
    .rw[ko];exact UF _
   rcases hc with z|⟨cP,cL,fL⟩
   .exact⟨by omega,.inl (dE hY (by omega))⟩
   ·rcases lF with y|⟨q4,ko,Jr⟩
    .omega
    ·obtain⟨rfl,rfl⟩:=bz ⟨fL,Jr⟩
     exact⟨by rw[ko];exact UF _,.inr ⟨cP,YN⟩⟩
 |sp lo ay =>
  rw[ep]at br
  rw[eJ]at aL
  rw[aM]at q
  obtain⟨T,_,rfl,hA,e,⟨_,_,rfl,⟨rfl,_⟩,_,_,rfl,rfl,_,_,rfl,rfl,rfl⟩,_⟩:=br
  subst fR
  refine go (hO I e ?_)
  refine fe I (by decide+kernel) ?_
  refine pV I cG fun cl H1 cx hc=>?_
  iterate 3 (first|refine fe I (by decide+kernel) ?_|refine t7 I (by decide+kernel) ?_)
  have aS:=cx.k _ _ (l4 hA) e
  have a2:ey [V.str sj,V.int lo,V.int ay] 2=J (.int ay):=cB (j:=2) rfl
  have m0:=hT cl (show ay-lo+1≠0 by omega)
  have fj:=h5 cl (show 0<ay-lo+1 by omega)
  refine j5 I fun N=>⟨_,I,.inl (.inr ⟨_,_,_,_,I,I,bI aS,a1 _ _ _,_,I,_,I,.inl (.inr ⟨_,_,_,_,I,I,bI aS,a2,_,I,.inl (.inr ⟨_,_,_,_,I,I,bI aS,a1 _ _ _,_,_,I,I,.inl ⟨_,_,I,I,_,_,I,I,(by omega),.inl ⟨_,_,I,I,?_⟩⟩⟩)⟩)⟩)⟩
  refine⟨_,cx.sub,q _ (.int _) _ cx I (by rw[bw];exact eu ⟨by omega,by omega⟩) (by rw[eH];omega) ?_⟩
  have ag:aE (ay-lo).toNat<=190:=jh (by omega)
  rw[bf,dD]
  have hY:(dj (lo+cl%(ay-lo+1)-lo).toNat (aE (ay-lo).toNat)).length<=190:=by rw[iV];exact ag
  exact ml.leaf hc (b8 _) (dE hY (by decide)) (fun _=>dE hY (by decide))
 | le cb =>
  have H7:=br
  rw[ep]at br
  rw[aM]at q
  have Hx:=aL
  rw[eJ]at Hx
  obtain⟨T,_,rfl,hA,e,⟨_,_,rfl,⟨rfl,_⟩,_,_,rfl,⟨rfl,tE⟩,rfl⟩,_⟩:=br
  have acO:0<cb.length:=by
   have:=Hx.1
   unfold oz at this
   simp only[gZ,iR]at this
   omega
  subst fR
  refine go (hO I e ?_)
  refine fe I (by decide+kernel) ?_
  refine pV I cG fun cl H1 cx hc=>?_
  iterate 5 (first|refine fe I (by decide+kernel) ?_|refine t7 I (by decide+kernel) ?_)
  have aS:=cx.k _ _ (l4 hA) e
  have Cx:cb.length<=cj:=fb (by omega)
  obtain⟨fj,nE,Cf⟩:=cx.l
  refine j5 I fun N=>⟨fun cg H'=>Ext H1 H'/\∃n:Nat,n<=200/\(cl=0->n=0)/\cg=[J (.ref p),J (.ref T),J (.str ug),J (.int cl),J (.int ((n:Nat):Int)),aw,aw,aw,aw],?_,?_⟩
  ·obtain⟨r5,Oh,GF⟩:=iD cl 7 (by decide)
   have GF:cl%7=((r5:Nat):Int):=GF
   refine⟨_,I,_,_,I,I,(by show(0:Int)<7;decide),lp,fun g1 tv=>?_⟩
   have lW:=Ext.lst (xs:=[V.int (cl%7),.int 200]) tv
   have ck:∀b:Bool,(b=ah->cl%41=40)->∃v:Nat,(v<=200/\(cl=0->v=0))/\ey [V.int (cl%7),.int 200] (if b=ah then 1 else 0)=J (.int ((v:Nat):Int)):=fun b ag=>by
    cases b
    .exact⟨r5,⟨by omega,by rintro rfl;omega⟩,by rw[GF];exact cB (j:=0) I⟩
    .exact⟨200,⟨by omega,by rintro rfl;exact absurd (ag I) (by decide)⟩,cB (j:=1) rfl⟩
   refine⟨_,I,_,_,I,I,(by show(0:Int)<41;decide),I,_,I,e2 (fun f6=>?_) (fun f6=>?_)⟩
   ·refine⟨_,I,.inl (.inr ⟨_,_,_,_,I,I,bI (lW.s _ _ aS),a1 _ _ _,_,_,I,⟨Cx,I⟩,.inl ⟨_,_,I,I,_,I,e2 (fun hx=>?_) (fun hx=>?_)⟩⟩)⟩
    ·refine⟨_,I,_,_,I,.inl ⟨_,bb (lW.s _ _ nE),I⟩,_,_,I,I,?_⟩
     obtain⟨v,hM,lH⟩:=ck (decide (70<(((fj.map V.int).length:Nat):Int))) (fun _=>V.int.inj f6)
     exact .inl (.inr ⟨_,I,.inl (.inl ⟨_,_,_,_,I,I,bb aG,lH,lW,v,hM.1,hM.2,I⟩)⟩)
    ·obtain⟨v,hM,lH⟩:=ck aF (fun z=>nomatch z)
     exact .inl (.inr ⟨_,I,.inl (.inl ⟨_,_,_,_,I,I,bb aG,lH,lW,v,hM.1,hM.2,I⟩)⟩)
   ·obtain⟨v,hM,lH⟩:=ck aF (fun z=>nomatch z)
    exact .inl (.inr ⟨_,I,.inl (.inl ⟨_,_,_,_,I,I,bb aG,lH,lW,v,hM.1,hM.2,I⟩)⟩)
  rintro aiK fm ⟨jz,n,aW,qN,rfl⟩
  have hc:xd (pl H p) (pl fm p) cl:=by rw[qu jz cx.l];exact hc
  have aS:=jz.s _ _ aS
  have cx:=cx.ext jz
  refine⟨_,I,_,I,by omega,by omega,?_⟩
  rw[show(((n:Nat):Int)).toNat=n by omega]
  refine pC (fun i U av=>fm=av/\∃(t:ae)(c:Int)(pe:Option V),U=[J (.ref p),J (.ref T),J (.str ug),J (.int c),J (.int ((n:Nat):Int)),J (.str t),pe,aw,aw]/\t.length=i/\i6 t cb=ah) ⟨I,ae.ofString "",cl,aw,I,by decide+kernel,rfl⟩ ?_ ?_
  ·rintro i U av ay ⟨rfl,t,c,pe,rfl,rY,Cg⟩
   obtain⟨k,hk,kU⟩:=iD (c/287) cb.length acO
   have vO:k<cb.cps.toList.length:=by rw[iB];exact hk
   have jk:ey cb.cps.toList (c/287%((cb.length:Nat):Int))=J cb.cps.toList[k]:=by rw[kU];exact cB (cp vO)
   refine⟨_,I,_,I,.inl (.inr ⟨_,_,_,_,I,I,bI aS,a1 _ _ _,_,I,_,_,I,I,⟨by decide,by decide⟩,_,rfl,.inl (.inr ⟨_,_,_,_,rfl,rfl,bI aS,a1 _ _ _,_,_,rfl,⟨Cx,rfl⟩,_,_,rfl,rfl,(by omega),.inr ⟨_,_,_,rfl,rfl,Cx,jk,.inr ⟨_,_,rfl,rfl,?_,?_⟩⟩⟩)⟩)⟩
   ·show t.length+1<=cj
    exact fb (by omega)
   refine⟨_,I,_,I,.inl (.inr ⟨_,_,_,_,I,I,bI aS,a1 _ _ _,_,_,I,⟨Cx,I⟩,_,_,I,I,⟨by omega,by omega⟩,rfl,_,_,_,rfl,?_,?_⟩)⟩
   .rw[pH,rY];rfl
   ·unfold i6 at Cg ⊢
    rw[S4,List.all_append,Cg]
    simp
  ·rintro U av ⟨rfl,t,c,pe,rfl,rY,Cg⟩
   refine⟨_,I,_,cx.sub,q _ (.str t) _ cx ⟨I,by omega⟩ (by rw[bw];exact mr.mpr ⟨eu (by omega),Cg⟩) (by rw[eH];omega) ?_⟩
   have hY:=TT (t:=t) Hx.2
   rw[bf,dD]
   exact ml.leaf hc (b8 _) (by omega) (fun z=>by have:=qN z;omega)
 | one k g =>
  have tD:dD g+1<=150:=by rw[dD]at gy;exact gy
  have H7:=br
  have ajA:=aL
  rw[ep]at br
  rw[eJ]at aL
  rw[aM]at di
  rw[aM]at q
  obtain⟨T,_,rfl,hA,e,⟨_,_,rfl,⟨rfl,_⟩,hp,_,rfl,hd,rfl⟩,_⟩:=br
  rcases rH k with rfl|rfl|rfl
  ·skip
   subst fR
   refine go (hO I e ?_)
   refine fe I (by decide+kernel) ?_
   refine pV I cG fun cl H1 cx hc=>?_
   iterate 6 (first|refine fe I (by decide+kernel) ?_|refine t7 I (by decide+kernel) ?_)
   have aS:=cx.k _ _ (l4 hA) e
   refine⟨_,I,I,_,I,iK I ⟨_,I,_,_,I,I,(by show(0:Int)<2;decide),I,_,I,e2 (fun fu=>?_) (fun fu=>?_)⟩⟩
   ·refine⟨UF _,fun t l9=>?_⟩
    have eh:=cx.ext (Ext.tup (xs:=[]) l9)
    exact⟨_,eh.sub,q _ (.tup []) _ eh ⟨t,[],I,(dJ.grow cx).no l9,aG,I,by simp⟩ (by rw[bw];rfl) (by rw[eH,ei];omega) (by rw[qu (Ext.tup l9) cx.l,bf];exact ml.leaf hc (ME _) (show 1<=150000 by decide) (fun _=>show 1<=300 by decide))⟩
   refine j5 I fun N=>⟨_,I,_,I,.inl (.inr ⟨_,_,_,_,I,I,bI aS,a1 _ _ _,p,hp,g,X,I,eB,cx.l,dJ.grow cx,c8.grow eB cx hd,aL,by omega,by omega,fun v iH H' G oK iq i1 l8=>⟨Bl,fun t l9=>?_⟩⟩)⟩
   have rb:=Ext.tup (xs:=[v]) l9
   have eh:=(cx.trans G).ext rb
   refine⟨_,eh.sub,q _ (.tup [iH]) _ eh ⟨t,_,I,(dJ.grow (cx.trans G)).no l9,aG,⟨_,_,I,oK.same rb.s,I⟩,by simp⟩ ?_ (by rw[eH,ei,ei];omega) ?_⟩
   .rw[bw];exact iq
   ·rw[qu rb (cx.trans G).l,bf,dD]
    exact l8.wrap hc (b8 _) (by omega) (show(bf bW g iH).length+1<=_ by omega)
  ·skip
   subst fR
   refine go (hO I e ?_)
   refine fe I (by decide+kernel) ?_
   refine pV I cG fun cl H1 cx hc=>?_
   iterate 8 (first|refine fe I (by decide+kernel) ?_|refine t7 I (by decide+kernel) ?_)
   have aS:=cx.k _ _ (l4 hA) e
   obtain⟨fj,nE,Cf⟩:=cx.l
   obtain⟨ie,eD,g6,kd⟩:=T7 g
   have i0:=c8.grow eB cx hd
   rw[g6]at i0
   obtain⟨eR,ws,rfl,vE,e',⟨_,aj7,rfl,⟨rfl,ac4⟩,dt⟩,tF⟩:=i0
   refine j5 I fun N=>⟨fun cg H'=>Ext H1 H'/\∃n:Nat,n<=3/\(cl=0->n=0)/\cg=[J (.ref p),J (.ref T),J (.str (pZ 1)),J (.int cl),J (.int ((n:Nat):Int)),aw,aw,aw,aw],?_,?_⟩
   ·refine⟨_,I,lp,fun g2 rT=>?_⟩
    have iS:=Ext.lst (xs:=[V.int 2,.int 4]) rT
    obtain⟨v,⟨H7,hM⟩,lH⟩:∃v:Nat,(0<v/\v<=4)/\ey [V.int 2,.int 4] (if decide (50<(((fj.map V.int).length:Nat):Int))=ah then 1 else 0)=J (.int ((v:Nat):Int)):=by
     cases decide (50<(((fj.map V.int).length:Nat):Int))
     .exact⟨2,by omega,cB (j:=0) rfl⟩
     .exact⟨4,by omega,cB (j:=1) rfl⟩
    obtain⟨n,aW,b5⟩:=iD cl v H7
    refine⟨_,I,_,_,I,.inl ⟨_,bb (iS.s _ _ nE),I⟩,_,_,I,I,.inl (.inr ⟨_,I,.inl (.inl ⟨_,_,_,_,I,I,bb aG,lH,_,_,I,I,(by omega),iS,n,by omega,(fun z=>by rw[z,Int.zero_emod]at b5;omega),?_⟩)⟩)⟩
    dsimp only
    rw[b5];rfl
   rintro aj9 fZ ⟨rj,OW,qN,ada,rfl⟩
   refine⟨fun cg H'=>Ext H1 H'/\∃n:Nat,n<=60/\(n<=3\/dD g=1)/\(cl=0->n=0)/\cg=[J (.ref p),J (.ref T),J (.str (pZ 1)),J (.int cl),J (.int ((n:Nat):Int)),aw,aw,aw,aw],?_,?_⟩
   ·refine⟨_,I,.inl (.inr ⟨_,_,_,_,I,I,bI (rj.s _ _ aS),a1 _ _ _,.inl (.inr ⟨_,_,_,_,I,I,bI (rj.s _ _ e'),a0 _ _,lp,fun g1 tv=>?_⟩)⟩)⟩
    have oj:=rj.trans (Ext.lst (xs:=[V.str (ae.ofString "truth"),.str (ae.ofString "nothing")]) tv)
    refine⟨_,_,I,.inl (bb aG),I,I,_,I,ady (fun ZO=>?_) (fun _=>⟨oj,OW,by omega,.inl qN,ada,rfl⟩)⟩
    have ahs:dD g=1:=by
     rcases kd with⟨_,z⟩|⟨_,cP,cL⟩
     .exact z
     ·exfalso
      exact absurd (ZO.symm.trans (UG cP cL)) (by decide)
    obtain⟨n,aW,b5⟩:=iD (cl/4) 61 (by decide)
    have b5:cl/4%61=((n:Nat):Int):=b5
    refine⟨_,I,_,_,I,I,⟨by decide,by decide⟩,_,_,rfl,rfl,(by show(0:Int)<61;decide),oj,n,by omega,.inr ahs,(fun z=>by subst z;omega),?_⟩
    dsimp only
    rw[b5];rfl
   rintro aiK fm ⟨jz,n,aW,HH,qN,rfl⟩
   have hc:xd (pl H p) (pl fm p) cl:=by rw[qu jz cx.l];exact hc
   have aS:=jz.s _ _ aS
   have cx:=cx.ext jz
   refine⟨_,I,_,I,by omega,by omega,fun cW d8=>?_⟩
   rw[show(((n:Nat):Int)).toNat=n by omega]
   have oE:=dJ.grow cx
   have BV:cW∉X:=oE.no d8
   have qG:cW≠p:=fun z=>BV (by rw[z];exact eB)
   have jd:=Ext.lst (xs:=[]) d8
   have mC:∀{av:aq},d2 p fm av->av T=J (.tup [.str (pZ 1),.ref eR]):=fun G=>G.k _ _ (l4 hA) aS
   refine SX n (fun i =>.int (0+((i:Nat):Int))) (fun i aA av=>d2 p fm av/\∃ds,ds.length=i/\bP (cW::X) av ds aA/\(∀x,x∈ds->bw bV g x=ah/\eH x<=aM g+1)/\pl av p<=pl fm p/\((ds.map fun d=>ah::bf bW g d).flatten).length<=150000*(pl fm p-pl av p)+i*(1+300*dD g)) (fun U=>∃z,U=[z,J (.ref p),J (.ref T)]) (by omega) ⟨_,I⟩ (fun i H ay=>ay) (fun H=>b8 _) (fun i H x H' ay h=>⟨h.1,h.2⟩) ⟨(d2.refl cx.l).ext jd,[],I,I,(fun x ao=>nomatch ao),by rw[qu jd cx.l];exact b8 _,UF _⟩ ?_ ?_
   ·rintro i ay aA bL av ⟨z,rfl⟩ ⟨eh,ds,ip,dV,fI,qL,x6⟩ kA kh R b1
    have lD:js (cW::X) av:=(oE.grow eh).add kA
    refine⟨_,I,_,I,.inl (.inr ⟨_,_,_,_,I,I,bI (mC eh),a1 _ _ _,p,.ref eR,g,cW::X,I,en _ eB,eh.l,lD,c8.grow (en _ eB) eh (c8.add d8 _ (c8.grow eB cx hd)),aL,by omega,by omega,fun v iH bQ fM oK iq i1 l8=>?_⟩)⟩
    have nw:bQ cW=J (.lst aA):=fM.k _ _ qG kA
    have dY:∀b u,b∉cW::X->bQ b=J u->upd bQ cW (.lst (aA++[v])) b=J u:=fun b u nb e=>by rw[bK (fun z=>nb (by rw[z];exact gF ..))];exact e
    have vY:∀b u,b∉cW::X->av b=J u->bQ b=J u:=fun b u nb e=>fM.k b u (fun z=>nb (by rw[z];exact en _ eB)) e
    refine b1 _ _ _ ⟨_,I⟩ nw ⟨(eh.trans fM).set d8 nw qG,ds++[iH],by rw[dX,ip];rfl,bP.snoc (c8.keep dY _ oK) _ (bP.keep dY _ (bP.keep vY _ dV)),fun x ao=>?_,?_,?_⟩
    ·rcases List.mem_append.mp ao with z|z
     .exact fI x z
     .rw[d5.mp z];exact⟨iq,i1⟩
    .rw[vk qG];exact dE l8.1 qL
    ·rw[vk qG,fo,List.flatten_append,dX]
     have aS:(List.map (fun d=>ah::bf bW g d) [iH]).flatten.length=(bf bW g iH).length+1:=by simp
     obtain⟨gG,eZ⟩:=l8
     have aV:(i+1)*(1+300*dD g)=i*(1+300*dD g)+(1+300*dD g):=Nat.succ_mul ..
     rw[aS,aV]
     generalize i*(1+300*dD g)=ajI at x6 ⊢
     omega
   ·rintro aA H' kh oB ⟨eh,ds,ip,dV,fI,qL,x6⟩
    have fM:=cx.trans eh
    refine⟨_,fM.sub,q _ (.lst ds) _ fM ⟨cW,aA,I,BV,oB,bP.weak (fun x ao=>en _ ao) _ dV,by omega⟩ ?_ ?_ ?_⟩
    ·rw[bw]
     exact mr.mpr ⟨eu (by omega),e9.mpr fun x ao=>(fI x ao).1⟩
    ·have:=FQ ds fun x ao=>(fI x ao).2
     rw[eH];omega
    ·rw[dD]at gy
     have ajy:n*(1+300*dD g)<=140000:=by
      rcases HH with z|z
      .exact dE (Nat.mul_le_mul z (show 1+300*dD g<=45001 by omega)) (by decide)
      .rw[z];exact dE (Nat.mul_le_mul aW (b8 _)) (by decide)
     rw[bf]
     have l0:(Iy 1 (bf bW g) (.lst ds)).length=((ds.map fun d=>ah::bf bW g d).flatten).length+1:=by
      show(_++[aF]).length=_
      rw[dX];rfl
     rw[l0]
     rcases hc with z|⟨cP,cL,fL⟩
     .exact⟨by omega,.inl (by omega)⟩
     ·have abX:ds=[]:=List.length_eq_zero_iff.mp (by rw[ip];exact qN fL)
      have:=ME (.one 1 g)
      exact⟨by omega,.inr ⟨cP,by rw[abX];show 0+1<=_;omega⟩⟩
  ·skip
   subst fR
   refine go (hO I e ?_)
   refine fe I (by decide+kernel) ?_
   refine pV I cG fun cl H1 cx hc=>?_
   iterate 11 (first|refine fe I (by decide+kernel) ?_|refine t7 I (by decide+kernel) ?_)
   have aS:=cx.k _ _ (l4 hA) e
   refine⟨_,I,_,I,.inl (.inr ⟨_,_,_,_,I,I,bI aS,a1 _ _ _,p,hp,g,X,I,eB,cx.l,dJ.grow cx,c8.grow eB cx hd,aL,by omega,by omega,fun v iH H' G oK iq i1 l8=>?_⟩)⟩
   exact⟨_,(cx.trans G).sub,q _ iH _ (cx.trans G) oK (by rw[bw];exact iq) (by omega) (by rw[bf,dD];exact l8.wrap hc (b8 _) (by rw[dD]at gy;exact gy) (by show((bf bW g iH).map (!·)).length<=_;rw[cw];omega))⟩
 | two k ns fs =>
  have tD:∀{i:Nat}{g:ba},fs[i]?=J g->dD g<=150:=fun h=>by
   have:=FW h
   rw[dD]at gy
   omega
  rw[ep]at br
  rw[eJ]at aL
  rw[aM]at di
  rw[aM]at q
  obtain⟨gr,cM,mK⟩:=aL
  obtain⟨T,_,rfl,hA,e,⟨_,_,rfl,⟨rfl,_⟩,_,_,rfl,⟨l,nI,rfl,rW,gp,dV,Ob⟩,rfl⟩,_⟩:=br
  have jl:nI.length=fs.length:=by rw[bh.len _ (bP.at _ dV),pw]
  have jE:0<fs.length/\fs.length<=20:=by
   have h:=gr
   unfold lC at h
   simp only[gZ,iR]at h
   omega
  rcases td k with rfl|rfl
  ·skip
   subst fR
   refine go (hO I e ?_)
   refine fe I (by decide+kernel) ?_
   refine pV I cG fun cl H1 cx hc=>?_
   iterate 9 (first|refine fe I (by decide+kernel) ?_|refine t7 I (by decide+kernel) ?_)
   have aS:=cx.k _ _ (l4 hA) e
   have qz:=cx.k _ _ (l4 rW) gp
   have oE:=dJ.grow cx
   refine j5 I fun N=>?_
   refine .inl ⟨_,I,.inl (.inr ⟨_,_,_,_,I,I,bI aS,a1 _ _ _,l,I,⟨_,bb qz⟩,fun cW d8=>?_⟩)⟩
   have BV:cW∉X:=oE.no d8
   have qG:cW≠p:=fun z=>BV (by rw[z];exact eB)
   have jd:=Ext.lst (xs:=[]) d8
   refine uU (K:=K) (a:=l) (xs:=nI) (fun i aA av=>d2 p H1 av/\∃ds,ds.length=i/\bP (cW::X) av ds aA/\ej bV (fs.take i) ds=ah/\ei ds<=f7 fs+1/\pl av p<=pl H1 p/\(gk bW (fs.take i) ds).length<=150000*(pl H1 p-pl av p)+300*j0 (fs.take i)) (fun U=>∃cP cL,U=[cP,cL,J (.ref p)]) (by omega) ⟨_,_,I⟩ ?_ ⟨(d2.refl cx.l).ext jd,[],I,I,by rw[List.take_zero,ej];rfl,by rw[ei];omega,by rw[qu jd cx.l];exact b8 _,by rw[List.take_zero,gk];exact UF _⟩ ?_ ?_
   ·rintro i aA av ⟨eh,_⟩
    exact bb (eh.k _ _ (l4 rW) qz)
   ·rintro i x ao aA bL av ⟨cP,cL,rfl⟩ ⟨eh,ds,ip,rR,nB,mG,qL,x6⟩ kA kh R b1
    obtain⟨g,nm,eR,hp,aX,kW,rfl,vE,mz,hd⟩:=rv fs ns cM dV ao
    obtain⟨kk,rT⟩:=sV mK aX
    have lD:js (cW::X) av:=(oE.grow eh).add kA
    refine⟨_,_,I,bI (eh.k _ _ (l4 vE) (cx.k _ _ (l4 vE) mz)),I,_,_,I,_,_,I,I,?_⟩
    refine⟨_,I,_,I,p,hp,g,cW::X,I,en _ eB,eh.l,lD,c8.grow (en _ eB) eh (c8.add d8 _ (c8.grow eB cx hd)),kk,by omega,tD aX,fun v iH bQ fM oK iq i1 l8=>?_⟩
    have nw:bQ cW=J (.lst aA):=fM.k _ _ qG kA
    have dY:∀b u,b∉cW::X->bQ b=J u->upd bQ cW (.lst (aA++[v])) b=J u:=fun b u nb e=>by rw[bK (fun z=>nb (by rw[z];exact gF ..))];exact e
    have vY:∀b u,b∉cW::X->av b=J u->bQ b=J u:=fun b u nb e=>fM.k b u (fun z=>nb (by rw[z];exact en _ eB)) e
    refine b1 _ _ _ ⟨_,_,I⟩ nw ⟨(eh.trans fM).set d8 nw qG,ds++[iH],by rw[dX,ip];rfl,bP.snoc (c8.keep dY _ oK) _ (bP.keep dY _ (bP.keep vY _ rR)),?_,Lw (by omega) mG,?_,?_⟩
    ·rw[jy,aX]
     exact Lr iq _ _ nB
    .rw[vk qG];exact dE l8.1 qL
    ·have N5:i<=fs.length:=Nat.le_of_lt (g5.mp aX).1
     rw[vk qG,jy,aX]
     show(gk bW (fs.take i++[g]) (ds++[iH])).length<=150000*_+300*j0 (fs.take i++[g])
     rw[K8 _ _ (by rw[ht,ip];omega),FD,dX]
     obtain⟨gG,eZ⟩:=l8
     omega
   ·rintro aA H' kh oB ⟨eh,ds,ip,rR,nB,mG,qL,x6⟩
    rw[jl,UV (b8 _)]at nB x6
    refine⟨_,_,I,.inl ⟨bb oB,fun t l9=>?_⟩⟩
    have mh:=Ext.tup (xs:=aA) l9
    have fM:=(cx.trans eh).ext mh
    refine⟨_,fM.sub,q _ (.tup ds) _ fM ⟨t,aA,I,(dJ.grow (cx.trans eh)).no l9,aG,(bP.weak (fun x ao=>en _ ao) _ rR).same mh.s,by omega⟩ ?_ ?_ ?_⟩
    .rw[bw,if_pos rfl];exact nB
    .rw[eH];omega
    ·rw[qu mh (cx.trans eh).l,bf,if_pos rfl,dD]
     rw[dD]at gy
     show ml _ _ (gk bW fs ds).length _
     rcases hc with z|⟨cP,cL,fL⟩
     .exact⟨by omega,.inl (by omega)⟩
     .exact⟨by omega,.inr ⟨cP,by omega⟩⟩
  ·skip
   subst fR
   refine go (hO I e ?_)
   refine fe I (by decide+kernel) ?_
   refine pV I cG fun cl H1 cx hc=>?_
   iterate 10 (first|refine fe I (by decide+kernel) ?_|refine t7 I (by decide+kernel) ?_)
   have aS:=cx.k _ _ (l4 hA) e
   have qz:=cx.k _ _ (l4 rW) gp
   refine j5 I fun N=>?_
   obtain⟨j,b2,hK⟩:=iD cl nI.length (by omega)
   obtain⟨y,aU⟩:∃y,nI[j]?=J y:=⟨_,cp b2⟩
   obtain⟨g,nm,eR,hp,aX,kW,rfl,vE,mz,hd⟩:=rv fs ns cM dV aU
   obtain⟨kk,rT⟩:=sV mK aX
   refine⟨_,I,.inl (.inr ⟨_,_,_,_,I,I,bI aS,a1 _ _ _,_,I,_,I,.inl (.inr ⟨_,_,_,_,I,I,bI aS,a1 _ _ _,_,_,I,.inl ⟨_,bb qz,I⟩,_,_,I,I,(by omega),.inl (.inl ⟨_,_,_,_,I,I,bb qz,(by rw[hK];exact cB aU),?_⟩)⟩)⟩)⟩
   refine⟨_,_,I,bI (cx.k _ _ (l4 vE) mz),I,_,_,I,_,_,I,I,?_⟩
   refine⟨_,I,_,I,_,I,p,hp,g,X,I,eB,cx.l,dJ.grow cx,c8.grow eB cx hd,kk,by omega,tD aX,fun v iH H' G oK iq i1 l8=>⟨lp,fun t l9=>?_⟩⟩
   have rb:=Ext.tup (xs:=[V.str nm,v]) l9
   have eh:=(cx.trans G).ext rb
   have i2:nm.length<=12:=(lX gr).2 nm (fE kW)
   refine⟨_,eh.sub,q _ (.tup [.str nm,iH]) _ eh ⟨t,_,I,(dJ.grow (cx.trans G)).no l9,aG,⟨_,_,I,⟨I,by omega⟩,_,_,rfl,oK.same rb.s,rfl⟩,by simp⟩ ?_ (by rw[eH,ei,ei,ei,eH];omega) ?_⟩
   ·rw[bw,if_neg (by decide)]
    show ke bV fs ns nm iH=ah
    rw[rr fs ns nm (fE kW) cM,w8 gr kW,dN,aX]
    exact iq
   ·rw[qu rb (cx.trans G).l,bf,if_neg (by decide),dD]
    show ml _ _ (mf bW fs ns 0 (fs.length-1) nm iH).length _
    rw[u5 fs ns 0 nm (fE kW) cM,w8 gr kW,dN,aX,dX,iV]
    have ag:aE (fs.length-1)<=5:=jh (w:=5) (by omega)
    exact l8.wrap hc (Nat.succ_le_succ (FW aX)) (by rw[dD]at gy;exact gy) (by show _+(bf bW g iH).length<=_;omega)
theorem Kk(nb:dT mg)(F:d1 K mg "_law_value" As ["_law_pool_here","_law_form_here"] f fd)(ig:bq P w K mg base 1 "_law_next" ["_law_pool_here"] wy)(sv:bq P w K mg base 2 "_law_signed" ["_law_cell"] I4)(uz:bq P w K mg base 1 "_law_fraction" ["_law_one","_law_other"] IV):∀d:Nat,bq P w K mg base (d+3) "_law_value" ["_law_pool_here","_law_form_here"] (C7 d)
 |0=>bq.none F fun vs H Q E z=>by obtain⟨_,_,g,_,_,_,_,_,_,_,h,_⟩:=z;have:=vh g;omega
 |d+1=>Vi nb F ig sv uz (Kk nb F ig sv uz d)
noncomputable def sgn(a b:Int):Int:=(if b<a then 1 else 0)-(if a<b then 1 else 0)
noncomputable def items:D->List D
 |.tup ds=>ds
 |.lst ds=>ds
 |_=>[]
noncomputable def sa:D->Int
 |.int i=>i
 |.aQ b=>PyProof.Rows.b2i b
 |_=>0
noncomputable def wF:D->Int
 |.tup (.int p::_)=>p
 |_=>0
noncomputable def vm:D->Int
 |.tup [_,.int q]=>q
 |_=>0
noncomputable def Rb:D->ae
 |.str t=>t
 |_=>ae.empty
noncomputable def tL:D->ae
 |.tup (.str n::_)=>n
 |_=>ae.empty
noncomputable def Pe:D->D
 |.tup [_,x]=>x
 |_ =>.aT
noncomputable def oS(s t:ae):List Int:=t.cps.toList.map fun c=>((s.cps.toList.idxOf c:Nat):Int)
noncomputable def pX(a b:List Int):Int:=(if cA.lexLt b a=ah then 1 else 0)-(if cA.lexLt a b=ah then 1 else 0)
noncomputable def Gl(k:Fin 4)(a b:D):Int:=if k=0 then 0 else if k=3 then sgn (wF a*vm b) (wF b*vm a)else sgn (sa a) (sa b)
noncomputable def jX(g:Nat->D->D->Int):List D->List D->Nat->Int
 |x::xs,y::aA,k=>if g k x y=0 then jX g xs aA (k+1)else g k x y
 |xs,aA,_=>sgn xs.length aA.length
mutual
noncomputable def cY:ba->D->D->Int
 |.bare k,a,b=>Gl k a b
 |.sp _ _,a,b=>sgn (sa a) (sa b)
 |.le s,a,b=>pX (oS s (Rb a)) (oS s (Rb b))
 |.one k f,a,b=>if k=2 then 0-cY f a b else jX (fun _=>cY f) (items a) (items b) 0
 |.two k ns fs,a,b=>if k=0 then jX (fun i=>(ib fs).getD (i%fs.length) fun _ _=>0) (items a) (items b) 0 else if tL a=tL b then(ib fs).getD (ns.idxOf (tL a)) (fun _ _=>0) (Pe a) (Pe b)else sgn (ns.idxOf (tL a)) (ns.idxOf (tL b))
noncomputable def ib:List ba->List (D->D->Int)
 |[]=>[]
 |f::fs=>cY f::ib fs
end
theorem xq:∀(fs:List ba)(i:Nat)(f:ba),fs[i]?=J f->(ib fs).getD i (fun _ _=>0)=cY f
 |[],i,f,h=>by cases h
 |g::fs,0,f,h=>by cases h;rw[ib];rfl
 |g::fs,i+1,f,h=>by rw[ib];exact xq fs i f h
theorem sT(a b:Int):sgn b a = -sgn a b:=by unfold sgn;omega
theorem sS{a b:Int}:sgn a b=0↔a=b:=by
 unfold sgn
 constructor
 ·intro h
  rcases Int.lt_trichotomy a b with z|z|z
  .rw[if_neg (by omega),if_pos z]at h;omega
  .exact z
  .rw[if_pos z,if_neg (by omega)]at h;omega
 ·rintro rfl
  rw[if_neg (by omega)];rfl
theorem wq{a b:Int}:sgn a b<0↔a<b:=by
 unfold sgn
 constructor
 ·intro h
  rcases Int.lt_trichotomy a b with z|z|z
  .exact z
  .subst z;rw[if_neg (by omega)]at h;omega
  .rw[if_pos z,if_neg (by omega)]at h;omega
 ·intro z
  rw[if_neg (by omega),if_pos z];omega
theorem F6:∀a:List Int,cA.lexLt a a=aF
 |[]=>rfl
 |x::a=>by rw[cA.v7,if_pos rfl];exact F6 a
theorem F5:∀a b:List Int,a≠b->(cA.lexLt a b=ah/\cA.lexLt b a=aF)\/(cA.lexLt b a=ah/\cA.lexLt a b=aF)
 |[],[],h=>absurd rfl h
 |[],y::b,_ =>.inl ⟨rfl,rfl⟩
 |x::a,[],_ =>.inr ⟨rfl,rfl⟩
 | x::a,y::b,h=>by
  rw[cA.v7,cA.v7]
  by_cases z:x=y
  ·subst z
   rw[if_pos rfl,if_pos rfl]
   exact F5 a b fun e=>h (by rw[e])
  ·rw[if_neg z,if_neg (eF z)]
   rcases Int.lt_or_gt_of_ne z with q|q
   .exact .inl ⟨eu q,fC (by omega)⟩
   .exact .inr ⟨eu q,fC (by omega)⟩
theorem Ye(a b:List Int):pX b a = -pX a b:=by unfold pX;omega
theorem Yd{a b:List Int}:pX a b=0↔a=b:=by
 unfold pX
 constructor
 ·intro h
  by_cases z:a=b
  .exact z
  .rcases F5 a b z with⟨cu,bX⟩|⟨cu,bX⟩<;>(rw[cu,bX]at h;simp at h)
 ·rintro rfl
  rw[F6];rfl
theorem ahg{a b:List Int}:pX a b<0↔cA.lexLt a b=ah:=by
 unfold pX
 by_cases z:a=b
 .subst z;rw[F6];simp
 .rcases F5 a b z with⟨cu,bX⟩|⟨cu,bX⟩<;>(rw[cu,bX];simp)
theorem FO(g:Nat->D->D->Int)(h:∀k x y,g k y x = -g k x y):∀(xs aA:List D)(k:Nat),jX g aA xs k = -jX g xs aA k
 |[],[],k=>by show sgn _ _ = -sgn _ _;exact sT _ _
 |[],y::aA,k=>by show sgn _ _ = -sgn _ _;exact sT _ _
 |x::xs,[],k=>by show sgn _ _ = -sgn _ _;exact sT _ _
 |x::xs,y::aA,k=>by
  show(if g k y x=0 then _ else _) = -(if g k x y=0 then _ else _)
  have e:=h k x y
  by_cases z:g k x y=0
  .rw[if_pos z,if_pos (by omega)];exact FO g h xs aA (k+1)
  .rw[if_neg z,if_neg (by omega)];exact e
mutual
theorem xx:∀(f:ba)(a b:D),cY f b a = -cY f a b
 | .bare k,a,b=>by
  rw[cY,cY]
  unfold Gl
  split
  .rfl
  ·split
   .exact sT _ _
   .exact sT _ _
 |.sp _ _,a,b=>by rw[cY,cY];exact sT _ _
 |.le s,a,b=>by rw[cY,cY];exact Ye _ _
 |.one k f,a,b=>by
  rw[cY,cY]
  split
  .have:=xx f a b;omega
  .exact FO _ (fun _ x y=>xx f x y) _ _ 0
 | .two k ns fs,a,b=>by
  rw[cY,cY]
  split
  .exact FO (fun i=>(ib fs).getD (i%fs.length) fun _ _=>0) (fun i x y=>Fv fs (i%fs.length) x y) _ _ 0
  ·by_cases z:tL a=tL b
   .rw[if_pos z,if_pos z.symm,z];exact Fv fs _ _ _
   .rw[if_neg z,if_neg (eF z)];exact sT _ _
theorem Fv:∀(fs:List ba)(i:Nat)(x y:D),(ib fs).getD i (fun _ _=>0) y x = -(ib fs).getD i (fun _ _=>0) x y
 |[],i,x,y=>by rw[ib];rfl
 |f::fs,0,x,y=>by rw[ib];exact xx f x y
 |f::fs,i+1,x,y=>by rw[ib];exact Fv fs i x y
end
structure Good(g:D->D->Int)(x y:D):Prop where
 z:g x y=0↔x=y
 e:fg x y=ah↔x=y
theorem A2(g:Nat->D->D->Int):∀(xs aA:List D)(k:Nat),(∀(i:Nat)(x y:D),xs[i]?=J x->aA[i]?=J y->Good (g (k+i)) x y)->(jX g xs aA k=0↔xs=aA)
 |[],[],k,_=>⟨fun _=>rfl,fun _=>rfl⟩
 |[],y::aA,k,_=>by
  show sgn _ _=0↔_
  rw[sS]
  constructor
  .intro h;simp at h;omega
  .intro h;cases h
 |x::xs,[],k,_=>by
  show sgn _ _=0↔_
  rw[sS]
  constructor
  .intro h;simp at h;omega
  .intro h;cases h
 | x::xs,y::aA,k,h=>by
  have bg:=h 0 x y rfl rfl
  rw[Nat.add_zero]at bg
  rw[jX]
  by_cases z:x=y
  ·rw[if_pos (bg.z.mpr z),A2 g xs aA (k+1) fun i a b aJ ag=>by
    have:=h (i+1) a b aJ ag
    rwa [show k+1+i=k+(i+1) by omega],z]
   simp
  ·have uk:g k x y≠0:=fun q=>z (bg.z.mp q)
   rw[if_neg uk]
   exact⟨fun q=>absurd q uk,fun q=>absurd (List.head_eq_of_cons_eq q) z⟩
theorem A6:∀(xs aA:List D),(∀(i:Nat)(x y:D),xs[i]?=J x->aA[i]?=J y->(fg x y=ah↔x=y))->(gv xs aA=ah↔xs=aA)
 |[],[],_=>by rw[gv];simp
 |[],y::aA,_=>by rw[gv];simp
 |x::xs,[],_=>by rw[gv];simp
 |x::xs,y::aA,h=>by
  rw[gv]
  show(fg x y&&gv xs aA)=ah↔_
  rw[gZ,h 0 x y rfl rfl,A6 xs aA fun i a b aJ ag=>h (i+1) a b aJ ag]
  simp
theorem vd{bc:D->Bool}:∀{fs:List ba}{ds:List D},ej bc fs ds=ah->ds.length=fs.length/\∀(i:Nat)(f:ba)(d:D),fs[i]?=J f->ds[i]?=J d->bw bc f d=ah
 |[],[],_=>⟨rfl,fun i f d h=>by cases h⟩
 |[],e::ds,h=>by rw[ej]at h;cases h
 |g::fs,[],h=>by rw[ej]at h;cases h
 |g::fs,e::ds,h=>by
  rw[ej]at h
  have h:(bw bc g e&&ej bc fs ds)=ah:=h
  rw[gZ]at h
  obtain⟨a,b⟩:=vd h.2
  refine⟨by rw[d6,d6,a],fun i f d az hd=>?_⟩
  cases i with
  |zero=>cases az;cases hd;exact h.1
  |succ i=>exact b i f d az hd
theorem L1{s:ae}:∀(a b:List Nat),(∀c,c∈a->c∈s.cps.toList)->(∀c,c∈b->c∈s.cps.toList)->(a.map fun c=>((s.cps.toList.idxOf c:Nat):Int))=(b.map fun c=>((s.cps.toList.idxOf c:Nat):Int))->a=b
 |[],[],_,_,_=>rfl
 |[],y::b,_,_,h=>by cases h
 |x::a,[],_,_,h=>by cases h
 |x::a,y::b,ai,aj,h=>by
  rw[fD,fD]at h
  have aS:=List.head_eq_of_cons_eq h
  have aV:=List.tail_eq_of_cons_eq h
  have aS:s.cps.toList.idxOf x=s.cps.toList.idxOf y:=by omega
  have ao:=og (ai x (gF ..))
  have aU:=og (aj y (gF ..))
  have abn:s.cps.toList[s.cps.toList.idxOf x]=x:=List.getElem_idxOf ao
  have abo:s.cps.toList[s.cps.toList.idxOf y]=y:=List.getElem_idxOf aU
  have GL:x=y:=by rw[<-abn,<-abo];congr 1
  rw[GL,L1 a b (fun c hc=>ai c (en _ hc)) (fun c hc=>aj c (en _ hc)) aV]
theorem Mm{q p t:Int}(h:q∣p*t)(hc:Int.gcd p q=1):q∣t:=by
 have h':=Int.natAbs_dvd_natAbs.mpr h
 rw[Int.natAbs_mul]at h'
 have:Nat.Coprime q.natAbs p.natAbs:=by unfold Nat.Coprime;rw[Nat.gcd_comm];exact hc
 exact Int.natAbs_dvd_natAbs.mp (this.dvd_of_dvd_mul_left h')
theorem T3{p q r t:Int}(ai:0<q)(aj:Int.gcd p q=1)(bE:0<t)(cQ:Int.gcd r t=1)(h:p*t=r*q):p=r/\q=t:=by
 have hj:q∣t:=Mm (by rw[h];exact Int.dvd_mul_left r q) aj
 have iF:t∣q:=Mm (by rw[<-h];exact Int.dvd_mul_left p t) cQ
 have e:q=t:=Int.dvd_antisymm (by omega) (by omega) hj iF
 subst e
 exact⟨Int.eq_of_mul_eq_mul_right (by omega) h,I⟩
mutual
theorem rp:∀(f:ba)(a b:D),eJ f->bw bV f a=ah->bw bV f b=ah->Good (cY f) a b
 | .bare k,a,b,_,ai,aj=>by
  rw[bw]at ai aj
  rcases vr k with rfl|rfl|rfl|rfl
  ·cases a<;>first|cases ai|skip
   cases b<;>first|cases aj|skip
   exact⟨⟨fun _=>I,fun _=>by rw[cY];rfl⟩,⟨fun _=>rfl,fun _=>by rw[fg];rfl⟩⟩
  ·cases a<;>first|cases ai|skip
   rename_i x
   cases b<;>first|cases aj|skip
   rename_i y
   refine⟨?_,?_⟩
   ·rw[cY]
    show sgn (PyProof.Rows.b2i x) (PyProof.Rows.b2i y)=0↔_
    rw[sS]
    cases x<;>cases y<;>simp[PyProof.Rows.b2i]
   .rw[fg];cases x<;>cases y<;>simp[M9]
  ·cases a<;>first|cases ai|skip
   rename_i x
   cases b<;>first|cases aj|skip
   rename_i y
   refine⟨?_,?_⟩
   ·rw[cY]
    show sgn x y=0↔_
    rw[sS];simp
   .rw[fg];simp[BK]
  ·replace ai:bV a=ah:=ai
   replace aj:bV b=ah:=aj
   unfold bV at ai aj
   split at ai
   ·rename_i p q
    split at aj
    ·rename_i r t
     have ai:=hg ai
     have aj:=hg aj
     refine⟨?_,?_⟩
     ·rw[cY]
      show sgn (p*t) (r*q)=0↔_
      rw[sS]
      constructor
      ·intro h
       obtain⟨aS,aV⟩:=T3 ai.1 ai.2.1 aj.1 aj.2.1 h
       rw[aS,aV]
      ·intro h
       simp at h
       rw[h.1,h.2]
     ·rw[fg]
      show gv _ _=ah↔_
      simp[gv,fg,BK]
    .cases aj
   .cases ai
 | .sp lo ay,a,b,_,ai,aj=>by
  rw[bw]at ai aj
  cases a<;>first|cases ai|skip
  rename_i x
  cases b<;>first|cases aj|skip
  rename_i y
  refine⟨?_,?_⟩
  ·rw[cY]
   show sgn x y=0↔_
   rw[sS];simp
  .rw[fg];simp[BK]
 | .le s,a,b,_,ai,aj=>by
  rw[bw]at ai aj
  cases a<;>first|cases ai|skip
  rename_i x
  cases b<;>first|cases aj|skip
  rename_i y
  have ai:(decide (x.length<=200)&&i6 x s)=ah:=ai
  have aj:(decide (y.length<=200)&&i6 y s)=ah:=aj
  rw[gZ]at ai aj
  have g1:=ai.2
  have g2:=aj.2
  unfold i6 at g1 g2
  rw[e9]at g1 g2
  refine⟨?_,?_⟩
  ·rw[cY]
   show pX (oS s x) (oS s y)=0↔_
   rw[Yd]
   constructor
   ·intro h
    have:=L1 x.cps.toList y.cps.toList (fun c hc=>hg (g1 c hc)) (fun c hc=>hg (g2 c hc)) h
    have:x=y:=by
     cases x;cases y
     congr 1
     exact Array.toList_inj.mp this
    rw[this]
   ·intro h
    simp at h
    rw[h]
  .rw[fg];simp[BL]
 | .one k f,a,b,aL,ai,aj=>by
  rw[eJ]at aL
  rw[bw]at ai aj
  rcases rH k with rfl|rfl|rfl
  ·have aJ:∃xs,a=.tup xs/\∀x,x∈xs->bw bV f x=ah:=by
    have ai:nK (bw bV f) a=ah:=ai
    unfold nK at ai
    split at ai
    .exact⟨[],I,fun x ao=>nomatch ao⟩
    .exact⟨[_],I,fun y aU=>by rw[d5.mp aU];exact ai⟩
    .cases ai
   have ag:∃xs,b=.tup xs/\∀x,x∈xs->bw bV f x=ah:=by
    have aj:nK (bw bV f) b=ah:=aj
    unfold nK at aj
    split at aj
    .exact⟨[],I,fun x ao=>nomatch ao⟩
    .exact⟨[_],I,fun y aU=>by rw[d5.mp aU];exact aj⟩
    .cases aj
   obtain⟨xs,rfl,ao⟩:=aJ
   obtain⟨aA,rfl,aU⟩:=ag
   have all:∀(i:Nat)(x y:D),xs[i]?=J x->aA[i]?=J y->Good (cY f) x y:=fun i x y aS aV=>rp f x y aL (ao x (fE aS)) (aU y (fE aV))
   refine⟨?_,?_⟩
   ·rw[cY,if_neg (by decide)]
    show jX _ xs aA 0=0↔_
    rw[A2 _ xs aA 0 all];simp
   ·rw[fg]
    show gv xs aA=ah↔_
    rw[A6 xs aA fun i x y aS aV=>(all i x y aS aV).e];simp
  ·replace ai:tK (bw bV f) a=ah:=ai
   replace aj:tK (bw bV f) b=ah:=aj
   cases a<;>first|cases ai|skip
   rename_i xs
   cases b<;>first|cases aj|skip
   rename_i aA
   have ai:(decide (xs.length<=60)&&xs.all (bw bV f))=ah:=ai
   have aj:(decide (aA.length<=60)&&aA.all (bw bV f))=ah:=aj
   rw[gZ,e9]at ai aj
   have all:∀(i:Nat)(x y:D),xs[i]?=J x->aA[i]?=J y->Good (cY f) x y:=fun i x y aS aV=>rp f x y aL (ai.2 x (fE aS)) (aj.2 y (fE aV))
   refine⟨?_,?_⟩
   ·rw[cY,if_neg (by decide)]
    show jX _ xs aA 0=0↔_
    rw[A2 _ xs aA 0 all];simp
   ·rw[fg]
    show gv xs aA=ah↔_
    rw[A6 xs aA fun i x y aS aV=>(all i x y aS aV).e];simp
  ·have g:=rp f a b aL ai aj
   refine⟨?_,g.e⟩
   rw[cY,if_pos rfl,<-g.z]
   omega
 | .two k ns fs,a,b,aL,ai,aj=>by
  rw[eJ]at aL
  rw[bw]at ai aj
  rcases td k with rfl|rfl
  ·rw[if_pos rfl]at ai aj
   cases a<;>first|cases ai|skip
   rename_i xs
   cases b<;>first|cases aj|skip
   rename_i aA
   obtain⟨cq,g1⟩:=vd (show ej bV fs xs=ah from ai)
   obtain⟨cR,g2⟩:=vd (show ej bV fs aA=ah from aj)
   have all:∀(i:Nat)(x y:D),xs[i]?=J x->aA[i]?=J y->Good ((ib fs).getD ((0+i)%fs.length) fun _ _=>0) x y:=fun i x y aS aV=>by
    have ay:i<fs.length:=by
     rcases g4 i xs.length with z|z
     .omega
     .rw[u0 z]at aS;cases aS
    rw[Nat.zero_add,Nat.mod_eq_of_lt ay]
    have az:=cp ay
    exact Fz fs i x y _ az aL.2.2 (g1 i _ x az aS) (g2 i _ y az aV)
   refine⟨?_,?_⟩
   ·rw[cY,if_pos rfl]
    show jX _ xs aA 0=0↔_
    rw[A2 _ xs aA 0 all];simp
   ·rw[fg]
    show gv xs aA=ah↔_
    rw[A6 xs aA fun i x y aS aV=>(all i x y aS aV).e];simp
  ·rw[if_neg (by decide)]at ai aj
   unfold s4 at ai aj
   split at ai
   ·rename_i n x
    split at aj
    ·rename_i m y
     have mem:∀{n:ae}{x:D},ke bV fs ns n x=ah->n∈ns:=fun{n x}h=>rq fs ns n x aL.2.1 h
     have aW:=mem ai
     have hm:=mem aj
     rw[rr fs ns n aW aL.2.1]at ai
     rw[rr fs ns m hm aL.2.1]at aj
     have gi:=og aW
     have aci:=og hm
     have abm:ns[ns.idxOf n]=n:=List.getElem_idxOf gi
     have x3:ns[ns.idxOf m]=m:=List.getElem_idxOf aci
     rw[aL.2.1]at gi
     have az:=cp gi
     have oM:ns.idxOf n=ns.idxOf m↔n=m:=⟨fun h=>by rw[<-abm,<-x3];congr 1,fun h=>by rw[h]⟩
     by_cases z:n=m
     ·subst z
      rw[dN,az]at ai aj
      have g:=Fz fs _ x y _ az aL.2.2 ai aj
      refine⟨?_,?_⟩
      ·rw[cY,if_neg (by decide)]
       show(if n=n then _ else _)=0↔_
       rw[if_pos rfl]
       show(ib fs).getD (ns.idxOf n) _ x y=0↔_
       rw[g.z];simp
      ·rw[fg]
       show gv _ _=ah↔_
       simp[gv,fg,BL,g.e]
     ·refine⟨?_,?_⟩
      ·rw[cY,if_neg (by decide)]
       show(if n=m then _ else _)=0↔_
       rw[if_neg z]
       show sgn (ns.idxOf n) (ns.idxOf m)=0↔_
       rw[sS]
       constructor
       ·intro h
        exact absurd (oM.mp (by omega)) z
       ·intro h
        simp at h
        exact absurd h.1 z
      ·rw[fg]
       show gv _ _=ah↔_
       simp[gv,fg,BL,z]
    .cases aj
   .cases ai
theorem Fz:∀(fs:List ba)(i:Nat)(x y:D)(f:ba),fs[i]?=J f->gU fs->bw bV f x=ah->bw bV f y=ah->Good ((ib fs).getD i fun _ _=>0) x y
 |[],i,x,y,f,e,_,_,_=>by cases e
 |g::fs,0,x,y,f,e,ok,ai,aj=>by
  cases e
  rw[gU]at ok
  rw[ib]
  exact rp g x y ok.1 ai aj
 |g::fs,i+1,x,y,f,e,ok,ai,aj=>by
  rw[gU]at ok
  rw[ib]
  exact Fz fs i x y f e ok.2 ai aj
end
theorem bh.ge{H:aq}:∀(ds:List D){vs:List V}{i:Nat}{d:D},bh H ds vs->ds[i]?=J d->∃v,vs[i]?=J v/\c3 H d v
 |[],vs,i,d,h,e=>by cases e
 |d::ds,vs,0,x,h,e=>by
  obtain⟨o',r,rfl,q,bX⟩:=h
  cases e
  exact⟨_,I,q⟩
 |d::ds,vs,i+1,x,h,e=>by
  obtain⟨o',r,rfl,q,bX⟩:=h
  obtain⟨v,ai,aj⟩:=bh.ge (vs:=r) ds bX (show ds[i]?=J x from e)
  exact⟨v,ai,aj⟩
theorem tI{K:bM}{l:List V}(h:H p=J (.lst l)\/H p=J (.tup l)):JP K (.ref p) H l.length:=h.elim (fun e =>.inl ⟨_,bb e,rfl⟩) (fun e =>.inr ⟨_,bI e,rfl⟩)
theorem Mo{n:Nat}{d:D}(h:ei ds<=n)(e:ds[i]?=J d):eH d<=n:=rB (fE e) h
inductive Ql(d:Nat)(vs:List V)(H:aq)(Q:bJ)(E:cN):Prop where
 |mk (e6 nX nY:V) (f:ba) (a b:D) (bg:vs=[e6,nX,nY]) (ai:c3 H (ep f) e6) (aj:eJ f) (bE:aM f<=d) (cQ:c3 H a nX) (eN:c3 H b nY) (jj:bw bV f a=ah) (nt:bw bV f b=ah) (nu:eH a<=50) (oA:Q (.int (cY f a b)) H):Ql d vs H Q E
def wz(d:Nat):cD:=fun vs H Q E=>Ql d vs H Q E
noncomputable def yJ(fs:List ba):Nat->D->D->Int:=fun i=>(ib fs).getD (i%fs.length) fun _ _=>0
inductive Qa(d:Nat)(vs:List V)(H:aq)(Q:bJ)(E:cN):Prop where
 |mk (lf:af) (nX nY:V) (fs:List ba) (rI cq cR:List V) (xs aA:List D) (bg:vs=[.ref lf,nX,nY]) (ai:H lf=J (.lst rI)) (aj:bh H (fs.map ep) rI) (bE:0<fs.length) (cQ:fs.length<=20) (eN:gU fs) (jj:f7 fs<=d) (nt:(∃a,nX=.ref a/\(H a=J (.lst cq)\/H a=J (.tup cq)))) (nu:(∃a,nY=.ref a/\(H a=J (.lst cR)\/H a=J (.tup cR)))) (oA:bh H xs cq) (G1:bh H aA cR) (x4:xs.length<=1000) (mB:aA.length<=1000) (Nv:ei xs<=50) (ai1:(∀(i:Nat)(f:ba)(x:D),fs[i%fs.length]?=J f->xs[i]?=J x->bw bV f x=ah)) (ai2:(∀(i:Nat)(f:ba)(y:D),fs[i%fs.length]?=J f->aA[i]?=J y->bw bV f y=ah)) (ai3:Q (.int (jX (yJ fs) xs aA 0)) H):Qa d vs H Q E
def I0(d:Nat):cD:=fun vs H Q E=>Qa d vs H Q E
theorem TQ(g:Nat->D->D->Int):∀(xs aA:List D)(k:Nat),xs=[]\/aA=[]->jX g xs aA k=sgn xs.length aA.length
 |[],aA,k,_=>by cases aA<;>rfl
 |x::xs,[],k,_=>rfl
 |x::xs,y::aA,k,h=>by rcases h with h|h<;>cases h
theorem Ti(m n:Nat):(if decide ((n:Int)<(m:Int))=ah then(1:Int)else 0)-(if decide ((m:Int)<(n:Int))=ah then 1 else 0)=sgn m n:=by unfold sgn;simp only[iR]
theorem Wl(nb:dT mg)(F:d1 K mg "_law_listed" Ak ["_law_forms","_law_one","_law_other"] f fd)(lP:bq P w K mg base (2*d+4) "_law_order" ["_law_form_here","_law_one","_law_other"] (wz d)):bq P w K mg base (2*d+5) "_law_listed" ["_law_forms","_law_one","_law_other"] (I0 d):=by
 refine F.eO EC (fun bx A _ s H vs Q E ax h=>?_)
 obtain⟨lf,nX,nY,fs,rI,cq,cR,xs,aA,rfl,tA,nB,ab2,ajh,mK,ajk,⟨cU,rfl,nE⟩,⟨cf,rfl,nF⟩,r0,Ct,l7,kg,B8,gI,jT,q⟩:=h
 have adF:=bh.len xs r0
 have adG:=bh.len aA Ct
 have adI:rI.length=fs.length:=by rw[bh.len _ nB,cw]
 refine⟨_,(aI (kK h2.never I (lY I nb.k4 (al (b9 (AV I) I nb.CA Bn (al (b9 du I nb.dn dq (al (ab 1) aB)) (al (b9 du I nb.dn dq (al (ab 2) aB)) aB))) aB)) (d7 (i:=3) EC.bo I (by exact Or.inl rfl))
   (aI (bO 4 EC.bo (b6 lP ax (al (bG bH (ab 0) (aN dI (ab 3) (b9 du rfl nb.dn dq (al (ab 0) aB)))) (al (bG bH (ab 1) (ab 3)) (al (bG bH (ab 2) (ab 3)) aB))) (hk:=by omega)))
   (aR (cE (b0 qR (ab 4) aC) (aR (bB (ab 4))) cF))))
  (aR (bB (aN gj (mw qc rfl nb.nH nh (al (fO jG (b9 du rfl nb.dn dq (al (ab 1) aB)) (b9 du rfl nb.dn dq (al (ab 2) aB))) aB)) (mw qc rfl nb.nH nh (al (fO jm (b9 du rfl nb.dn dq (al (ab 1) aB)) (b9 du rfl nb.dn dq (al (ab 2) aB))) aB)))))),?_⟩
 try dsimp only[c4,c5,c6,c7]
 refine⟨_,I,.ref cU,cq.length,I,tI nE,_,I,.ref cf,cR.length,I,tI nF,_,_,I,?_⟩
 obtain⟨nM,ajv,aax⟩:∃nM:Nat,nM=min cq.length cR.length/\(if((cR.length:Nat):Int)<((cq.length:Nat):Int)then((cR.length:Nat):Int)else((cq.length:Nat):Int))=((nM:Nat):Int):=⟨_,rfl,by split<;>omega⟩
 refine⟨((nM:Nat):Int),by rw[aax],by omega,by omega,?_⟩
 rw[show(((nM:Nat):Int)).toNat=nM by omega]
 refine pC (fun i U av=>H=av/\jX (yJ fs) xs aA 0=jX (yJ fs) (xs.drop i) (aA.drop i) i/\∃fL mU,U=[J (.ref lf),J (.ref cU),J (.ref cf),fL,mU]) ?_ ?_ ?_
 .exact⟨I,I,_,_,I⟩
 ·rintro i U av ay ⟨rfl,he,fL,mU,rfl⟩
  rw[Int.zero_add]
  have gG:i<xs.length:=by omega
  have eZ:i<aA.length:=by omega
  obtain⟨nZ,ex,ZX⟩:=bh.ge xs r0 (cp gG)
  obtain⟨Jl,rG,Z1⟩:=bh.ge aA Ct (cp eZ)
  have hm:i%fs.length<fs.length:=Nat.mod_lt _ ab2
  have az:=cp hm
  obtain⟨e6,rE,ZR⟩:=bh.ge (fs.map ep) nB (show(fs.map ep)[i%fs.length]?=J (ep fs[i%fs.length]) by rw[eL,az];rfl)
  obtain⟨kk,rT⟩:=sV mK az
  have qE:=Mo B8 (cp gG)
  have em:((i:Nat):Int)%((rI.length:Nat):Int)=((i%fs.length:Nat):Int):=by rw[adI];exact(Int.natCast_emod ..).symm
  have aam:ey rI (((i:Nat):Int)%((rI.length:Nat):Int))=J e6:=by rw[em];exact cB rE
  have iI:yJ fs i=cY fs[i%fs.length]:=xq fs _ _ az
  rw[nc gG,nc eZ,jX,iI]at he
  refine⟨_,I,_,I,_,I,.ref lf,rI.length,I,tI (.inl tA),_,_,I,I,(by omega),.inl (.inl ⟨_,_,_,_,I,I,bb tA,aam,_,I,_,I,r3 nE ex ⟨_,I,_,I,r3 nF rG ⟨e6,nZ,Jl,fs[i%fs.length],xs[i],aA[i],I,ZR,kk,by omega,ZX,Z1,gI i _ _ az (cp gG),jT i _ _ az (cp eZ),qE,?_⟩⟩⟩)⟩
  refine⟨_,I,I,_,I,?_⟩
  by_cases z:cY fs[i%fs.length] xs[i] aA[i]=0
  ·rw[if_pos z]at he
   rw[eu (by rw[z])]
   exact dW ⟨I,he,_,_,I⟩
  ·rw[if_neg z]at he
   rw[fC (fun e=>z (V.int.inj e))]
   refine e3 ⟨_,I,H,.refl (dx _),?_⟩
   rw[<-he];exact q
 ·rintro U av ⟨rfl,he,fL,mU,rfl⟩
  refine⟨_,I,.ref cU,cq.length,I,tI nE,_,I,.ref cf,cR.length,I,tI nF,_,_,I,I,.inl (.inr ⟨_,I,_,I,.ref cU,cq.length,I,tI nE,_,I,.ref cf,cR.length,I,tI nF,.inl ⟨_,_,I,I,.inl (.inr ⟨_,I,_,_,I,I,H,.refl (dx _),?_⟩)⟩⟩)⟩
  have eM:xs.drop nM=[]\/aA.drop nM=[]:=by
   rcases Nat.le_total xs.length aA.length with z|z
   .exact .inl (List.drop_eq_nil_of_le (by omega))
   .exact .inr (List.drop_eq_nil_of_le (by omega))
  rw[he,TQ _ _ _ _ eM,je,je]at q
  have es:sgn ((xs.length-nM:Nat):Int) ((aA.length-nM:Nat):Int)=sgn xs.length aA.length:=by unfold sgn;omega
  rw[es]at q
  dsimp only
  rw[adF,adG,Ti]
  exact q
theorem TR(g:ba):yJ [g]=fun _=>cY g:=by
 funext i
 show(ib [g]).getD (i%1) (fun _ _=>0)=cY g
 rw[Nat.mod_one]
 exact xq [g] 0 g I
theorem Lf{k:Fin 3}{g:ba}{a:D}(hk:k≠2)(h:c3 H a v)(fa:bw bV (.one k g) a=ah):∃cq xs,(∃p,v=.ref p/\(H p=J (.lst cq)\/H p=J (.tup cq)))/\bh H xs cq/\items a=xs/\xs.length<=1000/\(∀n,eH a<=n->ei xs<=n)/\∀x,x∈xs->bw bV g x=ah:=by
 rw[bw]at fa
 rcases rH k with rfl|rfl|rfl
 ·replace fa:nK (bw bV g) a=ah:=fa
  unfold nK at fa
  split at fa
  ·obtain⟨t,vs,rfl,e,hd,aD⟩:=h
   exact⟨vs,[],⟨t,I,.inr e⟩,hd,I,UF _,fun n _=>by rw[ei];omega,fun x ao=>nomatch ao⟩
  ·obtain⟨t,vs,rfl,e,hd,aD⟩:=h
   exact⟨vs,_,⟨t,I,.inr e⟩,hd,I,by simp,fun n h=>by rw[eH]at h;omega,fun y aU=>by rw[d5.mp aU];exact fa⟩
  .cases fa
 ·replace fa:tK (bw bV g) a=ah:=fa
  cases a<;>first|cases fa|skip
  rename_i xs
  replace fa:(decide (xs.length<=60)&&xs.all (bw bV g))=ah:=fa
  rw[gZ,e9,iR]at fa
  obtain⟨t,vs,rfl,e,hd,aD⟩:=h
  exact⟨vs,xs,⟨t,I,.inl e⟩,hd,I,by omega,fun n h=>by rw[eH]at h;omega,fa.2⟩
 .exact absurd I hk
theorem xv(m n:Int):(if decide (n<m)=ah then(1:Int)else 0)-(if decide (m<n)=ah then 1 else 0)=sgn m n:=by unfold sgn;simp only[iR]
set_option maxHeartbeats 4000000 in
theorem VH(nb:dT mg)(F:d1 K mg "_law_order" Au ["_law_form_here","_law_one","_law_other"] f fd)(JC:bq P w K mg base (2*d+5) "_law_listed" ["_law_forms","_law_one","_law_other"] (I0 d))
  (lP:bq P w K mg base (2*d+4) "_law_order" ["_law_form_here","_law_one","_law_other"] (wz d)):bq P w K mg base (2*d+6) "_law_order" ["_law_form_here","_law_one","_law_other"] (wz (d+1)):=by
 refine F.eO pF (fun bx A _ s H vs Q E ax h=>?_)
 obtain⟨e6,nX,nY,g,a,b,rfl,br,aL,di,aJ,ag,fa,hl,qE,q⟩:=h
 refine Dj _ (aI (bO 3 pF.bo (bG bH (ab 0) aC))
  (aI (cE (b0 c2 (ab 3) cT) (aR (bB aC)) cF)
  (aI (cE (b0 c2 (ab 3) cT) (aR (bB (aN gj aC (b6 lP ax (al (bG bH (ab 0) aC) (al (ab 1) (al (ab 2) aB))) (hk:=by omega))))) cF)
  (aI (cE (gc.pt (j6 (b0 c2 (ab 3) cT) (lq (b0 c2 (ab 3) cT)))) (aR (bB (b6 JC ax (al (h6 (al (bG bH (ab 0) aC) aB)) (al (ab 1) (al (ab 2) aB))) (hk:=by omega)))) cF)
  (aI (cE (b0 c2 (ab 3) cT) (aR (bB (b6 JC ax (al (ik ["_law_name","_law_inner"] [] rfl (by decide+kernel) trivial (h0 (bG bH (ab 0) aC)) (fun _ _ _ _ _=>(pI rfl (jB (d7 (i:=0) (show(["_law_name","_law_inner"]:List ae).Nodup by decide+kernel)) (jB (d7 (i:=1) (show(["_law_name","_law_inner"]:List ae).Nodup by decide+kernel)) px)))) (fun _ _ _ _ _=>hu) (fun _ _ _ _ _=>(ab 1))) (al (ab 1) (al (ab 2) aB))) (hk:=by omega)))) cF)
  (aI (cE (b0 c2 (ab 3) cT) (aI (sN (i:=4)  ["_law_name","_law_inner"] [] pF.bo rfl rfl rfl (by decide+kernel) trivial (h0 (bG bH (ab 0) aC)) (fun _ _ _ _ _=>(pI rfl (jB (d7 (i:=0) (show(["_law_name","_law_inner"]:List ae).Nodup by decide+kernel)) (jB (d7 (i:=1) (show(["_law_name","_law_inner"]:List ae).Nodup by decide+kernel)) px)))) (fun _ _ _ _ _=>hu) (fun _ _ _ _ _=>(ab 0)))
   (aI (cE (b0 c2 (bG bH (ab 1) aC) (bG bH (ab 2) aC)) (aR (bB (b6 lP ax (al (bG bH (bG bH (bG bH (ab 0) aC) (hV PySem.F.plainAttrs_list PySem.F.slot_list_index PySem.F.type_list_index xr (ab 4) (al (bG bH (ab 1) aC) aB))) aC) (al (bG bH (ab 1) aC) (al (bG bH (ab 2) aC) aB))) (hk:=by omega)))) cF)
   (aI (bO 1 pF.bo (hV PySem.F.plainAttrs_list PySem.F.slot_list_index PySem.F.type_list_index xr (ab 4) (al (bG bH (ab 1) aC) aB)))
   (aR (bO 2 pF.bo (hV PySem.F.plainAttrs_list PySem.F.slot_list_index PySem.F.type_list_index xr (ab 4) (al (bG bH (ab 2) aC) aB))))))) cF)
  (aI (cE (b0 c2 (ab 3) cT) (aI (bO 5 pF.bo (bG bH (ab 1) aC))
   (aI (bO 1 pF.bo (aN F2 (bG bH (ab 1) aC) (bG bH (ab 2) aC)))
   (aR (bO 2 pF.bo (aN F2 (bG bH (ab 2) aC) (ab 5)))))) cF)
  (aI (cE (b0 c2 (ab 3) cT) (aI (sN (i:=1)  ["_law_sign"] [(0,"_law_form_here")] pF.bo rfl rfl rfl (by decide+kernel) ⟨rfl,.inl rfl,trivial⟩ (h0 (ab 1)) (fun _ _ _ _ _=>(d7 (i:=0) (show(["_law_sign","_law_form_here"]:List ae).Nodup by decide+kernel))) (fun _ _ _ _ _=>hu) (fun _ _ _ _ _=>(hV PySem.F.plainAttrs_str PySem.F.slot_str_index PySem.F.type_str_index Fj (bG bH (ab 1) aC) (al (ab 0) aB))))
   (aR (sN (i:=2)  ["_law_sign"] [(0,"_law_form_here")] pF.bo rfl rfl rfl (by decide+kernel) ⟨rfl,.inl rfl,trivial⟩ (h0 (ab 2)) (fun _ _ _ _ _=>(d7 (i:=0) (show(["_law_sign","_law_form_here"]:List ae).Nodup by decide+kernel))) (fun _ _ _ _ _=>hu) (fun _ _ _ _ _=>(hV PySem.F.plainAttrs_str PySem.F.slot_str_index PySem.F.type_str_index Fj (bG bH (ab 1) aC) (al (ab 0) aB)))))) cF)
  (aR (bB (aN gj (mw qc rfl nb.nH nh (al (fO (aeH (wm ax)) (ab 1) (ab 2)) aB)) (mw qc rfl nb.nH nh (al (fO (aeK (wm ax)) (ab 1) (ab 2)) aB))))))))))))) fun G eV fR go=>?_
 try dsimp only[c4,c5,c6,c7]at go
 have a0:∀(x:V)(r:List V),ey (x::r) 0=J x:=fun x r=>cB (j:=0) rfl
 have a1:∀(x y:V)(r:List V),ey (x::y::r) 1=J y:=fun x y r=>cB (j:=1) rfl
 cases g with
 | bare k =>
  rw[ep]at br
  rw[bw]at fa hl
  rw[cY]at q
  obtain⟨T,_,rfl,e,⟨_,_,rfl,⟨rfl,_⟩,rfl⟩,_⟩:=br
  clear qE
  rcases vr k with rfl|rfl|rfl|rfl
  ·skip
   subst fR
   refine go (hO I e ?_)
   exact j5 I fun N=>⟨H,.refl (dx _),q⟩
  ·cases a<;>first|cases fa|skip
   rename_i x
   cases b<;>first|cases hl|skip
   rename_i y
   obtain rfl:nX=.aQ x:=aJ
   obtain rfl:nY=.aQ y:=ag
   subst fR
   refine go (hO I e ?_)
   iterate 2 refine fe I (by decide+kernel) ?_
   refine t8 I (by decide+kernel) (by decide+kernel) ?_
   iterate 4 refine fe I (by decide+kernel) ?_
   refine⟨_,I,_,I,.inr ⟨_,_,I,I,.inl (.inr ⟨_,I,_,I,_,I,.inr ⟨_,_,I,I,.inl (.inr ⟨_,I,_,_,I,I,H,.refl (dx _),?_⟩)⟩⟩)⟩⟩
   dsimp only
   rw[xv]
   exact q
  ·cases a<;>first|cases fa|skip
   rename_i x
   cases b<;>first|cases hl|skip
   rename_i y
   obtain rfl:nX=.int x:=aJ
   obtain rfl:nY=.int y:=ag
   subst fR
   refine go (hO I e ?_)
   iterate 2 refine fe I (by decide+kernel) ?_
   refine t8 I (by decide+kernel) (by decide+kernel) ?_
   iterate 4 refine fe I (by decide+kernel) ?_
   refine⟨_,I,_,I,.inl (.inl ⟨_,_,I,I,.inl (.inr ⟨_,I,_,I,_,I,.inl (.inl (.inl ⟨_,_,I,I,.inl (.inr ⟨_,I,_,_,I,I,H,.refl (dx _),?_⟩)⟩))⟩)⟩)⟩
   dsimp only
   rw[xv]
   exact q
  ·replace fa:bV a=ah:=fa
   replace hl:bV b=ah:=hl
   unfold bV at fa hl
   split at fa
   ·rename_i cU cu
    split at hl
    ·rename_i cf bX
     obtain⟨t1,_,rfl,aS,⟨_,_,rfl,rfl,_,_,rfl,rfl,rfl⟩,_⟩:=aJ
     obtain⟨gs,_,rfl,aV,⟨_,_,rfl,rfl,_,_,rfl,rfl,rfl⟩,_⟩:=ag
     have fa:=hg fa
     have hl:=hg hl
     have abq:(10:Nat)^38<2^200:=by decide+kernel
     have Bu:∀{x:Int},x.natAbs<=10^38->cS.Int.intBits x<=2^20:=fun{x}h=>dE (Mz (k:=200) (show x.natAbs<2^200 by omega)) (by decide)
     subst fR
     refine go (hO I e ?_)
     iterate 2 refine fe I (by decide+kernel) ?_
     refine t8 I (by decide+kernel) (by decide+kernel) ?_
     iterate 2 refine fe I (by decide+kernel) ?_
     refine Jc I fun N b3=>⟨_,I,.inl (.inr ⟨_,_,_,_,I,I,bI aS,a1 _ _ _,_,I,.inl (.inr ⟨_,_,_,_,I,I,bI aS,a0 _ _,_,I,.inl (.inr ⟨_,_,_,_,I,I,bI aV,a1 _ _ _,_,_,I,I,⟨Bu fa.2.2.1,Bu (by omega)⟩,?_⟩)⟩)⟩)⟩
     refine⟨_,I,.inl (.inr ⟨_,_,_,_,I,I,bI aV,a0 _ _,_,I,_,_,I,I,⟨Bu hl.2.2.1,Bu (by omega)⟩,b3 _ _ ?_⟩)⟩
     refine fe I (by decide+kernel) ?_
     refine⟨_,I,_,I,.inl (.inl ⟨_,_,I,I,.inl (.inr ⟨_,I,_,I,_,I,.inl (.inl (.inl ⟨_,_,I,I,.inl (.inr ⟨_,I,_,_,I,I,H,.refl (dx _),?_⟩)⟩))⟩)⟩)⟩
     dsimp only
     rw[xv]
     exact q
    .cases hl
   .cases fa
 |sp lo ay =>
  rw[ep]at br
  rw[bw]at fa hl
  rw[cY]at q
  obtain⟨T,_,rfl,e,⟨_,_,rfl,⟨rfl,_⟩,_,_,rfl,rfl,_,_,rfl,rfl,rfl⟩,_⟩:=br
  clear qE
  cases a<;>first|cases fa|skip
  rename_i x
  cases b<;>first|cases hl|skip
  rename_i y
  obtain rfl:nX=.int x:=aJ
  obtain rfl:nY=.int y:=ag
  subst fR
  refine go (hO I e ?_)
  iterate 2 refine fe I (by decide+kernel) ?_
  refine t8 I (by decide+kernel) (by decide+kernel) ?_
  iterate 4 refine fe I (by decide+kernel) ?_
  refine⟨_,I,_,I,.inl (.inl ⟨_,_,I,I,.inl (.inr ⟨_,I,_,I,_,I,.inl (.inl (.inl ⟨_,_,I,I,.inl (.inr ⟨_,I,_,_,I,I,H,.refl (dx _),?_⟩)⟩))⟩)⟩)⟩
  dsimp only
  rw[xv]
  exact q
 | le cb =>
  rw[ep]at br
  rw[bw]at fa hl
  rw[cY]at q
  obtain⟨T,_,rfl,e,⟨_,_,rfl,⟨rfl,_⟩,_,_,rfl,⟨rfl,tE⟩,rfl⟩,_⟩:=br
  clear qE
  cases a<;>first|cases fa|skip
  rename_i x
  cases b<;>first|cases hl|skip
  rename_i y
  replace fa:(decide (x.length<=200)&&i6 x cb)=ah:=fa
  replace hl:(decide (y.length<=200)&&i6 y cb)=ah:=hl
  rw[gZ,iR]at fa hl
  obtain⟨rfl,_⟩:=aJ
  obtain⟨rfl,_⟩:=ag
  subst fR
  refine go (hO I e ?_)
  iterate 2 refine fe I (by decide+kernel) ?_
  refine t8 I (by decide+kernel) (by decide+kernel) ?_
  iterate 3 refine fe I (by decide+kernel) ?_
  refine Jc I fun N b3=>?_
  refine .inr ⟨_,I,_,I,fun cW d8=>?_⟩
  refine A8 (fun c=>V.int ((cb.cps.toList.idxOf c:Nat):Int)) (fun U=>∃z,U=[z,J (.ref T)]) (fb (by show x.length<=_;omega)) ⟨_,I⟩ d8 ?_ ?_
  ·rintro ch hc bL H1 ⟨z,rfl⟩ er R b1
   refine⟨_,I,.inl (.inr ⟨_,_,_,_,I,I,bI (er _ _ e),a1 _ _ _,I,_,I,cb,ch,I,I,hg (e9.mp fa.2 ch hc),b1 _ ⟨_,I⟩⟩)⟩
  have fA:=dg (o:=df.lst (x.cps.toList.map fun c=>V.int ((cb.cps.toList.idxOf c:Nat):Int))) d8
  have g1:upd H cW (.lst (x.cps.toList.map fun c=>V.int ((cb.cps.toList.idxOf c:Nat):Int))) cW=_:=aG
  generalize upd H cW (.lst (x.cps.toList.map fun c=>V.int ((cb.cps.toList.idxOf c:Nat):Int)))=H1 at fA g1 ⊢
  refine .inr ⟨_,I,_,I,fun hr gS=>?_⟩
  refine A8 (fun c=>V.int ((cb.cps.toList.idxOf c:Nat):Int)) (fun U=>∃z,U=[z,J (.ref T)]) (fb (by show y.length<=_;omega)) ⟨_,I⟩ gS ?_ ?_
  ·rintro ch hc bL av ⟨z,rfl⟩ er R b1
   refine⟨_,I,.inl (.inr ⟨_,_,_,_,I,I,bI (er _ _ (fA _ _ e)),a1 _ _ _,I,_,I,cb,ch,I,I,hg (e9.mp hl.2 ch hc),b1 _ ⟨_,I⟩⟩)⟩
  have d3:=dg (o:=df.lst (y.cps.toList.map fun c=>V.int ((cb.cps.toList.idxOf c:Nat):Int))) gS
  have g2:upd H1 hr (.lst (y.cps.toList.map fun c=>V.int ((cb.cps.toList.idxOf c:Nat):Int))) hr=_:=aG
  have g1:=d3 _ _ g1
  generalize upd H1 hr (.lst (y.cps.toList.map fun c=>V.int ((cb.cps.toList.idxOf c:Nat):Int)))=av at d3 g1 g2 ⊢
  have eI:∀t:ae,(t.cps.toList.map fun c=>V.int ((cb.cps.toList.idxOf c:Nat):Int))=(oS cb t).map V.int:=fun t=>by unfold oS;rw[gE];rfl
  rw[eI]at g1 g2
  refine b3 _ _ ?_
  exact⟨_,I,_,I,.inl (.inr ⟨_,_,_,_,I,I,bb g1,bb g2,.inl (.inr ⟨_,I,_,I,_,I,.inl (.inr ⟨_,_,_,_,I,I,bb g1,bb g2,.inl (.inr ⟨_,I,_,_,I,I,H,.refl (fA.trans d3),q⟩)⟩)⟩)⟩)⟩
 | one k g =>
  rw[ep]at br
  rw[eJ]at aL
  rw[aM]at di
  obtain⟨T,_,rfl,e,⟨_,_,rfl,⟨rfl,_⟩,hp,_,rfl,hd,rfl⟩,_⟩:=br
  by_cases hk:k=2
  ·subst hk
   rw[cY,if_pos rfl]at q
   rw[bw]at fa hl
   subst fR
   refine go (hO I e ?_)
   refine fe I (by decide+kernel) ?_
   exact j5 I fun N=>⟨_,I,.inl (.inr ⟨_,_,_,_,I,I,bI e,a1 _ _ _,_,I,_,I,hp,nX,nY,g,a,b,I,hd,aL,by omega,aJ,ag,fa,hl,qE,_,_,rfl,rfl,H,.refl (dx _),q⟩)⟩
  ·obtain⟨cq,xs,nE,hj,k8,eC,mb,f1⟩:=Lf hk aJ fa
   obtain⟨cR,aA,nF,iF,fz,dc,mc,f2⟩:=Lf hk ag hl
   rw[cY,if_neg hk,<-TR g,k8,fz]at q
   have Nr:∀{i:Nat}{f:ba},[g][i%1]?=J f->f=g:=fun{i f}h=>by rw[Nat.mod_one]at h;exact(e8 h).symm
   have ck:∀cW,H cW=aw->I0 d [.ref cW,nX,nY] (upd H cW (.lst [hp])) (fun v H'=>kt H H' (Q v)) jd:=fun cW d8=>by
    have fA:=dg (o:=df.lst [hp]) d8
    obtain⟨cU,rfl,aS⟩:=nE
    obtain⟨cf,rfl,aV⟩:=nF
    exact⟨cW,.ref cU,.ref cf,[g],[hp],cq,cR,xs,aA,I,aG,⟨hp,[],I,c3.same fA _ hd,I⟩,Nat.one_pos,(by show 1<=20;decide),(by rw[gU,gU];exact⟨aL,trivial⟩),(by rw[f7,f7];omega),⟨cU,I,aS.imp (fA _ _) (fA _ _)⟩,⟨cf,I,aV.imp (fA _ _) (fA _ _)⟩,bh.same fA _ hj,bh.same fA _ iF,eC,dc,mb _ qE,(fun i f x az ao=>by rw[Nr az];exact f1 x (fE ao)),(fun i f x az ao=>by rw[Nr az];exact f2 x (fE ao)),H,.refl fA,q⟩
   rcases rH k with rfl|rfl|rfl
   ·skip
    subst fR
    refine go (hO I e ?_)
    iterate 2 refine fe I (by decide+kernel) ?_
    exact Q5 I (.inl I) fun N=>⟨_,I,.inl (.inr ⟨_,_,_,_,I,I,bI e,a1 _ _ _,Bl,fun cW d8=>⟨_,I,_,I,ck cW d8⟩⟩)⟩
   ·skip
    subst fR
    refine go (hO I e ?_)
    iterate 2 refine fe I (by decide+kernel) ?_
    exact Q5 I (.inr I) fun N=>⟨_,I,.inl (.inr ⟨_,_,_,_,I,I,bI e,a1 _ _ _,Bl,fun cW d8=>⟨_,I,_,I,ck cW d8⟩⟩)⟩
   .exact absurd I hk
 | two k ns fs =>
  have br:=c3.ak _ br
  rw[ep]at br
  rw[eJ]at aL
  rw[aM]at di
  obtain⟨gr,cM,mK⟩:=aL
  obtain⟨T,_,rfl,_,e,⟨_,_,rfl,⟨rfl,_⟩,_,_,rfl,⟨l,nI,rfl,_,gp,dV,Ob⟩,rfl⟩,_⟩:=br
  have jl:nI.length=fs.length:=by rw[bh.len _ (bP.at _ dV),pw]
  have jE:0<fs.length/\fs.length<=20:=by
   have h:=gr
   unfold lC at h
   simp only[gZ,iR]at h
   omega
  rcases td k with rfl|rfl
  ·rw[bw,if_pos rfl]at fa hl
   rw[cY,if_pos rfl]at q
   obtain⟨xs,rfl⟩:∃xs,a=.tup xs:=by cases a<;>first|cases fa|exact⟨_,I⟩
   obtain⟨aA,rfl⟩:∃aA,b=.tup aA:=by cases b<;>first|cases hl|exact⟨_,I⟩
   obtain⟨ajR,gI⟩:=vd (show ej bV fs xs=ah from fa)
   obtain⟨ln2,jT⟩:=vd (show ej bV fs aA=ah from hl)
   obtain⟨t1,cq,rfl,aS,r0,_⟩:=aJ
   obtain⟨gs,cR,rfl,aV,Ct,_⟩:=ag
   rw[eH]at qE
   subst fR
   refine go (hO I e ?_)
   iterate 2 refine fe I (by decide+kernel) ?_
   refine t8 I (by decide+kernel) (by decide+kernel) ?_
   refine j5 I fun N=>?_
   refine .inl ⟨_,I,.inl (.inr ⟨_,_,_,_,I,I,bI e,a1 _ _ _,l,I,⟨_,bb gp⟩,fun cW d8=>?_⟩)⟩
   have pA:=dg (o:=df.lst []) d8
   refine uU (K:=K) (a:=l) (xs:=nI) (fun i aA av=>ef H av/\bP [] H ((fs.take i).map ep) aA) (fun U=>∃cP cL,U=[cP,cL]) (by omega) ⟨_,_,I⟩ ?_ ⟨pA,I⟩ ?_ ?_
   ·rintro i aA av ⟨d3,_⟩
    exact bb (d3 _ _ gp)
   ·rintro i x ao vs bL av ⟨cP,cL,rfl⟩ ⟨d3,rR⟩ kA kh R b1
    obtain⟨g,nm,eR,hp,aX,kW,rfl,_,mz,hd⟩:=rv fs ns cM dV ao
    refine⟨_,_,I,bI (d3 _ _ mz),I,_,_,I,_,_,I,I,?_⟩
    refine⟨_,I,b1 _ _ _ ⟨_,_,I⟩ kA ⟨fun b u eA=>by rw[bK (f5 eA d8)];exact d3 _ _ eA,?_⟩⟩
    rw[jy,aX,fo]
    exact bP.snoc hd _ rR
   ·rintro vs av kh gS ⟨d3,rR⟩
    rw[jl,UV (b8 _)]at rR
    have OS:∀{i:Nat},i<fs.length->i%fs.length=i:=fun h=>Nat.mod_eq_of_lt h
    have bd:∀{α:Type}{ds:List α}{i:Nat}{x:α},ds[i]?=J x->i<ds.length:=fun h=>(g5.mp h).1
    exact⟨_,I,_,I,cW,.ref t1,.ref gs,fs,vs,cq,cR,xs,aA,I,gS,bh.same d3 _ (bP.at _ rR),jE.1,jE.2,mK,by omega,⟨t1,rfl,.inr (d3 _ _ aS)⟩,⟨gs,rfl,.inr (d3 _ _ aV)⟩,bh.same d3 _ r0,bh.same d3 _ Ct,by omega,by omega,by omega,(fun i f x az ao=>gI i f x (by rw[OS (by have:=bd ao;omega)]at az;exact az) ao),(fun i f x az ao=>jT i f x (by rw[OS (by have:=bd ao;omega)]at az;exact az) ao),H,.refl d3,q⟩
  ·rw[bw,if_neg (by decide)]at fa hl
   have ex:∀{d:D}{v:V},s4 (ke bV fs ns) d=ah->c3 H d v->∃t m x nZ,v=.ref t/\d=.tup [.str m,x]/\H t=J (.tup [.str m,nZ])/\c3 H x nZ/\m∈ns/\bw bV (fs.getD (ns.idxOf m) (.bare 0)) x=ah:=fun{d v}ai aj=>by
    unfold s4 at ai
    split at ai
    ·obtain⟨t,_,rfl,e,⟨_,_,rfl,⟨rfl,_⟩,nZ,_,rfl,ao,rfl⟩,_⟩:=aj
     have hm:=rq fs ns _ _ cM ai
     rw[rr fs ns _ hm cM]at ai
     exact⟨t,_,_,nZ,I,I,e,ao,hm,ai⟩
    .cases ai
   obtain⟨t1,fj,x,nZ,rfl,rfl,aS,ao,Cf,gI⟩:=ex fa aJ
   obtain⟨gs,kD,y,Jl,rfl,rfl,aV,aU,qL,jT⟩:=ex hl ag
   rw[eH,ei,ei,ei,eH]at qE
   have oU:∀{m:ae},m∈ns->ns[ns.idxOf m]?=J m/\(∀j,j<ns.idxOf m->ns[j]?≠J m)/\ns.idxOf m<fs.length:=fun{m}hm=>by
    have hk:=og hm
    refine⟨?_,fun j b2 hw=>?_,by rw[<-cM];exact hk⟩
    .rw[cp hk,List.getElem_idxOf hk]
    ·have:=w8 gr hw
     omega
   obtain⟨dR,da,adl⟩:=oU Cf
   obtain⟨Ij,Cu,ajK⟩:=oU qL
   rw[cY,if_neg (by decide)]at q
   replace q:Q (.int (if fj=kD then(ib fs).getD (ns.idxOf fj) (fun _ _=>0) x y else sgn (ns.idxOf fj) (ns.idxOf kD))) H:=q
   subst fR
   refine go (hO I e ?_)
   iterate 2 refine fe I (by decide+kernel) ?_
   refine t8 I (by decide+kernel) (by decide+kernel) ?_
   refine fe I (by decide+kernel) ?_
   refine Jc I fun N b3=>?_
   refine .inl ⟨_,I,.inl (.inr ⟨_,_,_,_,I,I,bI e,a1 _ _ _,l,I,⟨_,bb gp⟩,fun cW d8=>?_⟩)⟩
   have pA:=dg (o:=df.lst []) d8
   refine uU (K:=K) (a:=l) (xs:=nI) (fun i aA av=>ef H av/\aA=(ns.take i).map V.str) (fun U=>∃cP cL,U=[cP,cL]) (by omega) ⟨_,_,I⟩ ?_ ⟨pA,I⟩ ?_ ?_
   ·rintro i aA av ⟨d3,_⟩
    exact bb (d3 _ _ gp)
   ·rintro i x ao vs bL av ⟨cP,cL,rfl⟩ ⟨d3,ma⟩ kA kh R b1
    obtain⟨g,nm,eR,hp,aX,kW,rfl,_,mz,hd⟩:=rv fs ns cM dV ao
    refine⟨_,_,I,bI (d3 _ _ mz),I,_,_,I,_,_,I,I,?_⟩
    refine⟨_,I,b1 _ _ _ ⟨_,_,I⟩ kA ⟨fun b u eA=>by rw[bK (f5 eA d8)];exact d3 _ _ eA,?_⟩⟩
    rw[jy,kW,fo,ma];rfl
   ·rintro vs av kh gS ⟨d3,ma⟩
    rw[jl,<-cM,UV (b8 _)]at ma
    subst ma
    refine⟨_,I,.inl (.inr ⟨_,_,_,_,I,I,bI (d3 _ _ aS),a0 _ _,_,I,.inl (.inr ⟨_,_,_,_,I,I,bI (d3 _ _ aV),a0 _ _,I,_,I,?_⟩)⟩)⟩
    by_cases z:fj=kD
    ·subst z
     rw[if_pos rfl]at q
     have az:=cp adl
     rw[dN,az]at gI jT
     obtain⟨kk,rT⟩:=sV mK az
     rw[xq fs _ _ az]at q
     rw[eu rfl]
     refine e3 ?_
     obtain⟨Dm,vW⟩:∃Dm,nI[ns.idxOf fj]?=J Dm:=⟨_,cp (by omega)⟩
     obtain⟨g,nm,eR,hp,aX,kW,rfl,_,mz,hd⟩:=rv fs ns cM dV vW
     rw[az]at aX
     obtain rfl:=e8 aX
     exact⟨_,I,.inl (.inr ⟨_,_,_,_,I,I,bI (d3 _ _ e),a1 _ _ _,_,I,.inl ⟨I,_,bb gS⟩,_,I,.inl (.inr ⟨_,_,_,_,I,I,bI (d3 _ _ aS),a0 _ _,cW,ns,fj,ns.idxOf fj,I,I,gS,dR,da,by omega,.inl (.inl ⟨_,_,_,_,rfl,rfl,bb (d3 _ _ gp),cB vW,.inl (.inr ⟨_,_,_,_,rfl,rfl,bI (d3 _ _ mz),a1 _ _ _,_,rfl,.inl (.inr ⟨_,_,_,_,rfl,rfl,bI (d3 _ _ aS),a1 _ _ _,_,rfl,.inl (.inr ⟨_,_,_,_,rfl,rfl,bI (d3 _ _ aV),a1 _ _ _,hp,nZ,Jl,_,x,y,rfl,c3.same d3 _ (c8.at _ hd),kk,by omega,c3.same d3 _ ao,c3.same d3 _ aU,gI,jT,by omega,H,.refl d3,q⟩)⟩)⟩)⟩)⟩)⟩)⟩
    ·rw[if_neg z]at q
     rw[fC (fun e=>z (V.str.inj e))]
     refine dW ⟨_,I,.inl ⟨I,_,bb gS⟩,_,I,.inl (.inr ⟨_,_,_,_,I,I,bI (d3 _ _ aS),a0 _ _,cW,ns,fj,ns.idxOf fj,I,I,gS,dR,da,by omega,_,rfl,.inl ⟨rfl,_,bb gS⟩,_,rfl,.inl (.inr ⟨_,_,_,_,rfl,rfl,bI (d3 _ _ aV),a0 _ _,cW,ns,kD,ns.idxOf kD,rfl,rfl,gS,Ij,Cu,by omega,b3 _ _ ?_⟩)⟩)⟩
     iterate 2 refine fe I (by decide+kernel) ?_
     refine⟨_,I,_,I,.inl (.inl ⟨_,_,I,I,.inl (.inr ⟨_,I,_,I,_,I,.inl (.inl (.inl ⟨_,_,I,I,.inl (.inr ⟨_,I,_,_,I,I,H,.refl d3,?_⟩)⟩))⟩)⟩)⟩
     dsimp only
     rw[xv]
     exact q
inductive Qw(d:Nat)(vs:List V)(H:aq)(Q:bJ)(E:cN):Prop where
 |mk (v1 v2:V) (hX:D) (bg:vs=[v1,v2]) (ai:c3 H hX v1) (aj:c3 H hX v2) (bE:eH hX<=d) (cQ:Q (.aQ ah) H):Qw d vs H Q E
def C4(d:Nat):cD:=fun vs H Q E=>Qw d vs H Q E
theorem rB:∀(ds:List D){d:D},d∈ds->eH d<=ei ds
 |[],d,h=>nomatch h
 |e::ds,d,h=>by
  rw[ei]
  rcases c9.mp h with rfl|h
  .omega
  .have:=rB ds h;omega
theorem V3(nb:dT mg)(F:d1 K mg "_law_same" AD ["_law_found","_law_due"] f fd)(wY:bq P w K mg base (d+1) "_law_same" ["_law_found","_law_due"] (C4 d)):bq P w K mg base (d+1+1) "_law_same" ["_law_found","_law_due"] (C4 (d+1)):=by
 refine F.eO W5 (fun bx A _ s H vs Q E ax h=>?_)
 obtain⟨v1,v2,hX,rfl,ai,aj,i1,q⟩:=h
 refine Dj _ (aI (cE (b0 xI (ab 1) qv) (aR (bB (fO xI (ab 0) qv))) cF)
  (aI (cE (hi (b9 iU rfl nb.i4 iT (al (ab 1) (al (iX (v :=.ty "bool") rfl nb.Bw Bi rfl) aB)))) (aR (bB (jg (b9 iU rfl nb.i4 iT (al (ab 0) (al (iX (v :=.ty "bool") rfl nb.Bw Bi rfl) aB))) (jQ (fO c2 (ab 0) (ab 1)))))) cF)
  (aI (cE (hi (b9 iU rfl nb.i4 iT (al (ab 1) (al (iX (v :=.ty "int") rfl nb.nH nh rfl) aB)))) (aR (bB (jg (b9 iU rfl nb.i4 iT (al (ab 0) (al (iX (v :=.ty "int") rfl nb.nH nh rfl) aB))) (jg (F1 (b9 iU rfl nb.i4 iT (al (ab 0) (al (iX (v :=.ty "bool") rfl nb.Bw Bi rfl) aB)))) (jQ (fO c2 (ab 0) (ab 1))))))) cF)
  (aI (cE (hi (b9 iU rfl nb.i4 iT (al (ab 1) (al (iX (v :=.ty "str") rfl nb.zf xJ rfl) aB)))) (aR (bB (jg (b9 iU rfl nb.i4 iT (al (ab 0) (al (iX (v :=.ty "str") rfl nb.zf xJ rfl) aB))) (jQ (fO c2 (ab 0) (ab 1)))))) cF)
  (aI (cE (gc.pt (j6 (gc.pt (oq (hi (b9 iU rfl nb.i4 iT (al (ab 1) (al (iX (v :=.ty "tuple") rfl nb.q1 ql rfl) aB)))) (od (jP (hi (b9 iU rfl nb.i4 iT (al (ab 0) (al (iX (v :=.ty "tuple") rfl nb.q1 ql rfl) aB)))))))) (lq (gc.pt (oq (hi (b9 iU rfl nb.i4 iT (al (ab 1) (al (iX (v :=.ty "list") rfl nb.yG xF rfl) aB)))) (od (jP (hi (b9 iU rfl nb.i4 iT (al (ab 0) (al (iX (v :=.ty "list") rfl nb.yG xF rfl) aB))))))))))) (aR (bB jO)) cF)
  (aI (cE (b0 qR (b9 du rfl nb.dn dq (al (ab 0) aB)) (b9 du rfl nb.dn dq (al (ab 1) aB))) (aR (bB jO)) cF)
  (aR (bB (fO c2 (b9 du rfl nb.dn dq (al (ik ["_law_k"] [(0,"_law_found"),(1,"_law_due")] rfl (by decide+kernel) ⟨rfl,.inl rfl,rfl,.inl rfl,trivial⟩ (lY rfl nb.k4 (al (b9 du rfl nb.dn dq (al (ab 1) aB)) aB)) (fun _ _ _ _ _=>(d7 (i:=0) (show(["_law_k","_law_found","_law_due"]:List ae).Nodup by decide+kernel))) (fun _ _ _ _ _=>(F0 (jP (hi (b6 wY ax (al (bG bH (ab 1) (ab 0)) (al (bG bH (ab 2) (ab 0)) aB)) (hk:=by omega)))))) (fun _ _ _ _ _=>(ab 0))) aB)) aC))))))))) fun G eV fR go=>?_
 try dsimp only[c4,c5,c6,c7]at go
 have q4:=ai.ty (K:=K)
 have ko:=aj.ty (K:=K)
 have ck:kt H H (Q (.aQ ah)):=⟨H,.refl (dx _),q⟩
 cases hX with
 |aT =>
  obtain rfl:v1=.aT:=ai
  obtain rfl:v2=.aT:=aj
  subst fR
  exact go ⟨_,I,I,_,I,iK I ⟨_,I,I,ck⟩⟩
 |aQ b =>
  obtain rfl:v1=.aQ b:=ai
  obtain rfl:v2=.aQ b:=aj
  subst fR
  refine go ⟨_,I,I,_,I,fx (fun z=>nomatch z) ?_⟩
  refine⟨_,I,.inl ⟨_,_,_,_,I,ko,hN K _ (by decide),_,I,e3 ?_⟩⟩
  refine⟨_,I,.inl ⟨_,_,_,_,I,q4,hN K _ (by decide),?_⟩⟩
  refine⟨ah,I,e3 ⟨_,I,_,I,I,?_⟩⟩
  rw[eu rfl];exact ck
 |int i =>
  obtain rfl:v1=.int i:=ai
  obtain rfl:v2=.int i:=aj
  subst fR
  refine go ⟨_,I,I,_,I,fx (fun z=>nomatch z) ?_⟩
  refine⟨_,I,.inl ⟨_,_,_,_,I,ko,hN K _ (by decide),_,I,dW ?_⟩⟩
  refine⟨_,I,.inl ⟨_,_,_,_,I,ko,hN K _ (by decide),_,I,e3 ?_⟩⟩
  refine⟨_,I,.inl ⟨_,_,_,_,I,q4,hN K _ (by decide),ah,I,e3 ?_⟩⟩
  refine⟨_,I,.inl ⟨_,_,_,_,I,q4,hN K _ (by decide),?_⟩⟩
  refine⟨aF,I,ah,I,e3 ⟨_,I,_,I,I,?_⟩⟩
  rw[eu rfl];exact ck
 |str t =>
  obtain⟨rfl,_⟩:=ai
  obtain⟨rfl,_⟩:=aj
  subst fR
  refine go ⟨_,I,I,_,I,fx (fun z=>nomatch z) ?_⟩
  refine⟨_,I,.inl ⟨_,_,_,_,I,ko,hN K _ (by decide),_,I,dW ?_⟩⟩
  refine⟨_,I,.inl ⟨_,_,_,_,I,ko,hN K _ (by decide),_,I,dW ?_⟩⟩
  refine⟨_,I,.inl ⟨_,_,_,_,I,ko,hN K _ (by decide),_,I,e3 ?_⟩⟩
  refine⟨_,I,.inl ⟨_,_,_,_,I,q4,hN K _ (by decide),ah,I,e3 ⟨_,I,_,I,I,?_⟩⟩⟩
  rw[eu rfl];exact ck
 | tup ds =>
  obtain⟨cU,jo,rfl,aS,i0,cq⟩:=ai
  obtain⟨cf,gO,rfl,aV,dh,cR⟩:=aj
  subst fR
  refine go ⟨_,I,I,_,I,fx (fun z=>nomatch z) ?_⟩
  iterate 3 refine⟨_,I,.inl ⟨_,_,_,_,I,ko,hN K _ (by decide),_,I,dW ?_⟩⟩
  refine⟨_,I,.inl ⟨_,_,_,_,I,ko,hN K _ (by decide),_,I,e3 ?_⟩⟩
  refine⟨_,I,.inl ⟨_,_,_,_,I,q4,hN K _ (by decide),?_⟩⟩
  refine⟨ah,I,dW ⟨_,I,.inl ⟨_,_,_,_,I,ko,hN K _ (by decide),_,I,dW (dW ?_)⟩⟩⟩
  have eC:=bh.len ds i0
  have dc:=bh.len ds dh
  rw[eH]at i1
  refine⟨_,I,_,_,I,.inr ⟨_,bI aS,I⟩,_,I,_,_,I,.inr ⟨_,bI aV,I⟩,I,_,I,yA (by rw[eC,dc]) ?_⟩
  refine⟨_,I,_,_,I,.inr ⟨_,bI aV,I⟩,_,I,by omega,by omega,fun cW d8=>?_⟩
  rw[show(((gO.length:Nat):Int)).toNat=gO.length by omega]
  refine E9 (fun _=>aF) (fun i =>.int (i:Nat)) (fun U=>∃z,U=[z,J (.ref cU),J (.ref cf)]) (by omega) ⟨_,I⟩ d8 ?_ ?_
  ·rintro i ay bL H1 ⟨z,rfl⟩ er R R' b1
   obtain⟨k8,mO⟩:∃x,jo[i]?=J x:=⟨_,cp (by omega)⟩
   obtain⟨fz,yv⟩:∃x,gO[i]?=J x:=⟨_,cp ay⟩
   obtain⟨iG,kB,Cd⟩:=bh.get ds i0 mO
   obtain⟨ZT,yd,qJ⟩:=bh.get ds dh yv
   rw[kB]at yd
   obtain rfl:=e8 yd
   have hm:=rB ds (fE kB)
   refine⟨_,I,_,I,.inl (.inr ⟨_,_,_,_,I,I,bI (er _ _ aS),(by rw[Int.zero_add];exact cB mO),_,I,_,I,.inl (.inr ⟨_,_,_,_,I,I,bI (er _ _ aV),(by rw[Int.zero_add];exact cB yv),k8,fz,iG,I,c3.same er _ Cd,c3.same er _ qJ,by omega,_,rfl,?_⟩)⟩)⟩
   exact dW (b1 _ ⟨_,I⟩)
  ·rw[show List.filter (fun _:Nat=>aF) (List.range gO.length)=[]from List.filter_eq_nil_iff.mpr (fun _ _=>hS)]
   refine⟨_,_,I,.inl ⟨_,bb aG,I⟩,I,H,.refl (dg d8),?_⟩
   exact q
 | lst ds =>
  obtain⟨cU,jo,rfl,aS,i0,cq⟩:=ai
  obtain⟨cf,gO,rfl,aV,dh,cR⟩:=aj
  subst fR
  refine go ⟨_,I,I,_,I,fx (fun z=>nomatch z) ?_⟩
  iterate 3 refine⟨_,I,.inl ⟨_,_,_,_,I,ko,hN K _ (by decide),_,I,dW ?_⟩⟩
  refine⟨_,I,.inl ⟨_,_,_,_,I,ko,hN K _ (by decide),_,I,dW (dW ?_)⟩⟩
  refine⟨_,I,.inl ⟨_,_,_,_,I,ko,hN K _ (by decide),_,I,e3 ?_⟩⟩
  refine⟨_,I,.inl ⟨_,_,_,_,I,q4,hN K _ (by decide),?_⟩⟩
  refine⟨ah,I,dW ?_⟩
  have eC:=bh.len ds i0
  have dc:=bh.len ds dh
  rw[eH]at i1
  refine⟨_,I,_,_,I,.inl ⟨_,bb aS,I⟩,_,I,_,_,I,.inl ⟨_,bb aV,I⟩,I,_,I,yA (by rw[eC,dc]) ?_⟩
  refine⟨_,I,_,_,I,.inl ⟨_,bb aV,I⟩,_,I,by omega,by omega,fun cW d8=>?_⟩
  rw[show(((gO.length:Nat):Int)).toNat=gO.length by omega]
  refine E9 (fun _=>aF) (fun i =>.int (i:Nat)) (fun U=>∃z,U=[z,J (.ref cU),J (.ref cf)]) (by omega) ⟨_,I⟩ d8 ?_ ?_
  ·rintro i ay bL H1 ⟨z,rfl⟩ er R R' b1
   obtain⟨k8,mO⟩:∃x,jo[i]?=J x:=⟨_,cp (by omega)⟩
   obtain⟨fz,yv⟩:∃x,gO[i]?=J x:=⟨_,cp ay⟩
   obtain⟨iG,kB,Cd⟩:=bh.get ds i0 mO
   obtain⟨ZT,yd,qJ⟩:=bh.get ds dh yv
   rw[kB]at yd
   obtain rfl:=e8 yd
   have hm:=rB ds (fE kB)
   refine⟨_,I,_,I,.inl (.inl ⟨_,_,_,_,I,I,bb (er _ _ aS),(by rw[Int.zero_add];exact cB mO),_,I,_,I,.inl (.inl ⟨_,_,_,_,I,I,bb (er _ _ aV),(by rw[Int.zero_add];exact cB yv),k8,fz,iG,I,c3.same er _ Cd,c3.same er _ qJ,by omega,_,rfl,?_⟩)⟩)⟩
   exact dW (b1 _ ⟨_,I⟩)
  ·rw[show List.filter (fun _:Nat=>aF) (List.range gO.length)=[]from List.filter_eq_nil_iff.mpr (fun _ _=>hS)]
   refine⟨_,_,I,.inl ⟨_,bb aG,I⟩,I,H,.refl (dg d8),?_⟩
   exact q
theorem KC(nb:dT mg)(F:d1 K mg "_law_same" AD ["_law_found","_law_due"] f fd):∀d:Nat,bq P w K mg base (d+1) "_law_same" ["_law_found","_law_due"] (C4 d)
 |0=>bq.none F fun vs H Q E z=>by obtain⟨_,_,hX,_,_,_,h,_⟩:=z;have:=Mp hX;omega
 |d+1=>V3 nb F (KC nb F d)
inductive QR(has:e7->Bool)(bc:D->Bool)(fw:D->List Bool)(c:eQ)(C:af)(n:Nat)(vs:List V)(H:aq)(Q:bJ)(E:cN):Prop where
 |mk (o p ak:af) (f:ba) (d:D) (e:Bool) (bg:vs=[.ref o,.ref p]) (ai:cd c [p] H f o) (aj:lJ has f) (bE:aM f<=n) (cQ:H p=J (e5 C ak (bf fw f d) 0 aF e)) (eN:(bf fw f d).length<=15000000) (jj:bw bc f d=ah) (nt:∀v H' j,dM p H H'->c8 (fU.of H) H' d v->H' p=J (e5 C ak (bf fw f d) j aF e)->Q v H'):QR has bc fw c C n vs H Q E
def QP(has:e7->Bool)(bc:D->Bool)(fw:D->List Bool)(c:eQ)(C:af)(n:Nat):cD:=fun vs H Q E=>QR has bc fw c C n vs H Q E
theorem Zd(l:List Bool):sees l aF 0=l:=by
 unfold sees
 rw[List.drop_zero]
 have e:xor aF=(id:Bool->Bool):=by funext x;cases x<;>rfl
 rw[e,List.map_id]
theorem Xa(nb:dT mg)(T:uY K C)(F:d1 K mg "value_of" Fa ["form","source"] f fd)(lM:hq P w K mg base (2*n+4) "draw" ["self","source"] (fW c) (km has bc fw c C n)):bq P w K mg base (2*n+5) "value_of" ["form","source"] (QP has bc fw c C n):=by
 refine F.eO KG (fun bx A _ s H vs Q E ax h=>?_)
 obtain⟨o,p,ak,g,d,e,rfl,dr,aL,di,dk,aD,az,q⟩:=h
 obtain⟨fG,fH,eI,li⟩:=cd.draw g dr
 refine⟨_,(aI (bO 2 KG.bo (ij lM ax (ab 0) (al (ab 1) aB) (hk:=by omega)))
  (aI (cE (b0 jm (ed (ab 1) rfl) (b9 du rfl nb.dn dq (al (ed (ab 1) rfl) aB))) (aR lz) cF)
  (aR (bB (ab 2))))),?_⟩
 try dsimp only[c4,c5,c6,c7]
 refine⟨_,I,o,slot g,fG,fH,I,eI,li,?_⟩
 refine⟨_,I,o,p,ak,g,d,_,0,aF,e,fU.of H,I,I,dr,aL,di,dk,by omega,UF _,⟨_,dk⟩,fun _ z=>z,az,by rw[Zd];exact List.prefix_refl _,fun v H' M hd ny=>?_⟩
 rw[Nat.zero_add]at ny
 refine⟨_,I,p,C,ak,_,_,I,ny,T.cl,T.wg,AI ..,_,I,p,C,ak,_,_,I,ny,T.cl,T.md,Fl ..,_,_,I,⟨jn (by rw[eG];omega),I⟩,.inl ⟨_,_,I,I,_,I,?_⟩⟩
 refine fx (by rw[eG];omega) ?_
 exact⟨_,I,_,M.sub ny,q _ _ _ M hd ny⟩
inductive Qs(has:e7->Bool)(bc:D->Bool)(fw:D->List Bool)(c:eQ)(n:Nat)(vs:List V)(H:aq)(Q:bJ)(E:cN):Prop where
 |mk (o:af) (f:ba) (d:D) (bg:vs=[.ref o,.str (aP (bf fw f d))]) (ai:cd c [] H f o) (aj:lJ has f) (bE:aM f<=n) (cQ:(bf fw f d).length<=15000000) (eN:bw bc f d=ah) (jj:∀v H',Ext H H'->c8 (fU.of H) H' d v->Q v H'):Qs has bc fw c n vs H Q E
def Qr(has:e7->Bool)(bc:D->Bool)(fw:D->List Bool)(c:eQ)(n:Nat):cD:=fun vs H Q E=>Qs has bc fw c n vs H Q E
theorem Xe(F:d1 K mg "read_all" Fc ["form","signs"] f fd)(D6:j4 P w K mg base 1 "Source" C ["self","signs","at"] (QI C))(DP:bq P w K mg base (2*n+5) "value_of" ["form","source"] (QP has bc fw c C n)):bq P w K mg base (2*n+6) "read_all" ["form","signs"] (Qr has bc fw c n):=by
 refine F.eO W4 (fun bx A _ s H vs Q E ax h=>?_)
 obtain⟨o,g,d,rfl,dr,aL,di,aD,az,q⟩:=h
 refine⟨_,(aR (bB (b6 DP ax (al (ab 0) (al (qk D6 ax (al (ab 1) (al aC aB)) (hk:=by omega)) aB)) (hk:=by omega)))),?_⟩
 try dsimp only[c4,c5,c6,c7]
 refine⟨_,I,_,I,fun x ak nx CH CK=>?_⟩
 refine⟨x,ak,_,_,I,aG,I,?_⟩
 rw[fN]
 have lW:=Ext.made (C:=C) (fs:=xZ (aP (bf fw g d)) 0 aF aF) nx CH CK
 refine⟨o,x,ak,g,d,aF,I,cd.keep (fun b u _ e=>lW.s b u e) g (cd.add nx g dr),aL,di,aG,aD,az,fun v H' j M hd ny=>?_⟩
 have iS:=dM.new lW nx M
 exact⟨_,iS.sub,q _ _ iS (c8.weak (X:=fU.of H) (Y:=fU.of _) (fun x z=>by obtain⟨u,e⟩:=z;exact⟨u,lW.s _ _ e⟩) d hd)⟩
theorem SJ{a b:D}(aJ:bV a=ah)(ag:bV b=ah)(h:wF a*vm b<wF b*vm a):Sep (bW a) (bW b):=by
 obtain⟨s,Nu,_,rs,rfl,es⟩:=E8 aJ
 obtain⟨t,gt,_,rt,rfl,iY⟩:=E8 ag
 rw[es,iY]
 have h:pn s t:=h
 cases s with
 |nil=>exact Nu.elim
 | cons a r =>
  cases t with
  |nil=>exact gt.elim
  | cons b u =>
   have inr:∀{a:Int}{r:List Int},m6 (a::r)->sC r:=fun{a r}q x ao=>by
    have:=q.2 x ao
    unfold hQ at this
    omega
   exact SI Nu gt (rs.1 a (d5.mpr I)) (rt.1 b (d5.mpr I)) (inr rs) (inr rt) h
theorem S2{k:Fin 4}{a b:D}(aJ:Bs bV k a=ah)(ag:Bs bV k b=ah)(h:Gl k a b<0):Sep (Bt bW k a) (Bt bW k b):=by
 rcases vr k with rfl|rfl|rfl|rfl
 .exact absurd h (by show ¬(0:Int)<0;decide)
 ·have h:=wq.mp (show sgn (sa a) (sa b)<0 from h)
  cases a with
  | aQ x =>
   cases b with
   |aQ y =>
    cases x<;>cases y<;>first|exact absurd h (by decide)|exact⟨[],[],[],I,I⟩
   |_=>cases ag
  |_=>cases aJ
 ·have h:=wq.mp (show sgn (sa a) (sa b)<0 from h)
  cases a with
  | int x =>
   cases b with
   |int y =>
    have wI:=hg (show decide (hW x)=ah from aJ)
    have wJ:=hg (show decide (hW y)=ah from ag)
    exact L9 h wI.1 wJ.2
   |_=>cases ag
  |_=>cases aJ
 .exact SJ aJ ag (wq.mp (show sgn (wF a*vm b) (wF b*vm a)<0 from h))
theorem TS{s t u:ae}(aM:i6 t s=ah)(cC:i6 u s=ah)(h:pX (oS s t) (oS s u)<0):Sep (yF s (.str t)) (yF s (.str u)):=by
 have e:∀v:ae,yF s (.str v)=tH (fun x=>dj x.toNat (aE (s.length-1))) (oS s v):=fun v=>by
  show(_++[aF])=(_++[aF])
  unfold oS
  rw[gE]
  rfl
 have m:∀v:ae,i6 v s=ah->∀x,x∈oS s v->0<=x/\x<s.length:=fun v br x ao=>by
  obtain⟨c,hc,rfl⟩:=List.mem_map.mp ao
  have ai:c∈s.cps.toList:=by
   have:=e9.mp br c hc
   simpa using this
  have aj:=og ai
  rw[iB]at aj
  exact⟨by omega,by have:s.length=s.cps.size:=rfl;omega⟩
 rw[e,e]
 refine Lm (P:=fun x=>0<=x/\x<s.length) (fun x y ao aU r1=>AY (by omega) ?_) (m t aM) (m u cC) (ahg.mp h)
 exact Nat.lt_of_le_of_lt (show y.toNat<=s.length-1 by omega) (pG _)
theorem LW(g:D->List Bool)(o:D->D->Int)(p:D->Bool)(hs:∀x y,p x=ah->p y=ah->o x y<0->Sep (g x) (g y))(bz:∀x y,p x=ah->p y=ah->o x y=0->x=y):∀(xs aA:List D)(k:Nat),xs.all p=ah->aA.all p=ah->jX (fun _=>o) xs aA k<0->Sep ((xs.map fun d=>ah::g d).flatten++[aF]) ((aA.map fun d=>ah::g d).flatten++[aF])
 |[],[],k,_,_,h=>absurd h (by show ¬sgn 0 0<0;decide)
 |[],y::aA,k,_,_,_=>⟨[],[],_,rfl,rfl⟩
 |x::xs,[],k,_,_,h=>absurd (wq.mp (show sgn ((x::xs).length:Nat) ((([]:List D).length:Nat):Int)<0 from h)) (by rw[d6];show ¬(_:Int)<0;omega)
 | x::xs,y::aA,k,ao,aU,h=>by
  rw[List.all_cons,gZ]at ao aU
  rw[jX]at h
  rw[fD,j8,fD,j8,gD,gD]
  by_cases z:o x y=0
  ·rw[if_pos z]at h
   rw[bz x y ao.1 aU.1 z]
   exact(LW g o p hs bz xs aA (k+1) ao.2 aU.2 h).pre _
  ·rw[if_neg z]at h
   exact((hs x y ao.1 aU.1 h).pre [ah]).post _ _
mutual
theorem rx:∀(f:ba)(a b:D),eJ f->bw bV f a=ah->bw bV f b=ah->cY f a b<0->Sep (bf bW f a) (bf bW f b)
 |.bare k,a,b,_,aJ,ag,h=>by
  rw[bw]at aJ ag
  rw[cY]at h
  rw[bf,bf]
  exact S2 aJ ag h
 | .sp lo ay,a,b,_,aJ,ag,h=>by
  rw[bw]at aJ ag
  rw[cY]at h
  rw[bf,bf]
  have h:=wq.mp h
  cases a with
  | int x =>
   cases b with
   |int y =>
    have h:x<y:=h
    have wI:=hg (show decide (lo<=x/\x<=ay)=ah from aJ)
    have wJ:=hg (show decide (lo<=y/\y<=ay)=ah from ag)
    exact AY (by omega) (Nat.lt_of_le_of_lt (show(y-lo).toNat<=(ay-lo).toNat by omega) (pG _))
   |_=>cases ag
  |_=>cases aJ
 | .le s,a,b,_,aJ,ag,h=>by
  rw[bw]at aJ ag
  rw[cY]at h
  rw[bf,bf]
  cases a with
  | str t =>
   cases b with
   |str u =>
    have wI:=mr.mp (show(decide (t.length<=200)&&i6 t s)=ah from aJ)
    have wJ:=mr.mp (show(decide (u.length<=200)&&i6 u s)=ah from ag)
    exact TS wI.2 wJ.2 h
   |_=>cases ag
  |_=>cases aJ
 | .one k f,a,b,aL,aJ,ag,h=>by
  rw[bw]at aJ ag
  rw[cY]at h
  rw[bf,bf]
  rw[eJ]at aL
  have bz:∀x y,bw bV f x=ah->bw bV f y=ah->cY f x y=0->x=y:=fun x y ao aU z=>(rp f x y aL ao aU).z.mp z
  unfold Pb at aJ ag
  unfold Iy
  rcases rH k with rfl|rfl|rfl
  ·rw[if_neg (by decide)]at h
   rw[if_pos rfl]at aJ ag
   rw[if_pos rfl,if_pos rfl]
   cases a with
   | tup xs =>
    cases b with
    | tup aA =>
     rcases xs with _|⟨x,_|⟨_,_⟩⟩
     ·rcases aA with _|⟨y,_|⟨_,_⟩⟩
      .exact absurd h (by show ¬sgn 0 0<0;decide)
      .exact⟨[],[],_,I,I⟩
      .cases ag
     ·rcases aA with _|⟨y,_|⟨_,_⟩⟩
      .exact absurd h (by show ¬sgn 1 0<0;decide)
      ·have h:(if cY f x y=0 then sgn 0 0 else cY f x y)<0:=h
       split at h
       .exact absurd h (by decide)
       .exact(rx f x y aL aJ ag h).pre [ah]
      .cases ag
     .cases aJ
    |_=>cases ag
   |_=>cases aJ
  ·rw[if_neg (by decide)]at h
   rw[if_neg (by decide),if_pos rfl]at aJ ag
   rw[if_neg (by decide),if_pos rfl,if_neg (by decide),if_pos rfl]
   cases a with
   | lst xs =>
    cases b with
    |lst aA =>
     have wI:=mr.mp (show(decide (xs.length<=60)&&xs.all (bw bV f))=ah from aJ)
     have wJ:=mr.mp (show(decide (aA.length<=60)&&aA.all (bw bV f))=ah from ag)
     exact LW (bf bW f) (cY f) (bw bV f) (fun x y ao aU z=>rx f x y aL ao aU z) bz xs aA 0 wI.2 wJ.2 h
    |_=>cases ag
   |_=>cases aJ
  ·rw[if_pos rfl]at h
   rw[if_neg (by decide),if_neg (by decide)]at aJ ag
   rw[if_neg (by decide),if_neg (by decide),if_neg (by decide),if_neg (by decide)]
   exact(rx f b a aL ag aJ (by rw[xx];omega)).turn
 | .two k ns fs,a,b,aL,aJ,ag,h=>by
  rw[bw]at aJ ag
  rw[cY]at h
  rw[bf,bf]
  rw[eJ]at aL
  rcases td k with rfl|rfl
  ·rw[if_pos rfl]at h aJ ag
   rw[if_pos rfl,if_pos rfl]
   cases a with
   | tup xs =>
    cases b with
    |tup aA =>
     refine LN fs xs aA _ 0 (fun i f az=>?_) aL.2.2 aJ ag h
     have ay:=(g5.mp az).1
     show(ib fs).getD ((0+i)%fs.length) (fun _ _=>0)=_
     rw[Nat.zero_add,Nat.mod_eq_of_lt ay]
     exact xq fs i f az
    |_=>cases ag
   |_=>cases aJ
  ·rw[if_neg (by decide)]at h aJ ag
   rw[if_neg (by decide),if_neg (by decide)]
   cases a with
   | tup xs =>
    cases b with
    | tup aA =>
     rcases xs with _|⟨⟨⟩|_|_|n|_|_,_|⟨x,_|⟨_,_⟩⟩⟩<;>try cases aJ
     rcases aA with _|⟨⟨⟩|_|_|m|_|_,_|⟨y,_|⟨_,_⟩⟩⟩<;>try cases ag
     have aJ:ke bV fs ns n x=ah:=aJ
     have ag:ke bV fs ns m y=ah:=ag
     have h:(if n=m then(ib fs).getD (ns.idxOf n) (fun _ _=>0) x y else sgn (ns.idxOf n) (ns.idxOf m))<0:=h
     show Sep (mf bW fs ns 0 (fs.length-1) n x) (mf bW fs ns 0 (fs.length-1) m y)
     have nM:=rq fs ns n x aL.2.1 aJ
     have OU:=rq fs ns m y aL.2.1 ag
     by_cases z:n=m
     ·subst z
      rw[if_pos rfl]at h
      exact Mx fs ns 0 (fs.length-1) n x y aL.2.1 aL.2.2 aJ ag h
     ·rw[if_neg z]at h
      have h:=wq.mp h
      have cq:=og OU
      rw[u5 fs ns 0 n nM aL.2.1,u5 fs ns 0 m OU aL.2.1]
      refine(AY (by omega) (Nat.lt_of_le_of_lt (show 0+ns.idxOf m<=fs.length-1 by have:=aL.2.1;omega) (pG _))).post _ _
    |_=>cases ag
   |_=>cases aJ
theorem LN:∀(fs:List ba)(xs aA:List D)(G:Nat->D->D->Int)(k:Nat),(∀i f,fs[i]?=J f->G (k+i)=cY f)->gU fs->ej bV fs xs=ah->ej bV fs aA=ah->jX G xs aA k<0->Sep (gk bW fs xs) (gk bW fs aA)
 | [],xs,aA,G,k,_,_,ao,aU,h=>by
  rw[ej]at ao aU
  cases xs with
  |nil =>
   cases aA with
   |nil=>exact absurd h (by show ¬sgn 0 0<0;decide)
   |cons _ _=>cases aU
  |cons _ _=>cases ao
 |f::fs,[],aA,G,k,_,_,ao,aU,h=>by rw[ej]at ao;cases ao
 |f::fs,x::xs,[],G,k,_,_,ao,aU,h=>by rw[ej]at aU;cases aU
 | f::fs,x::xs,y::aA,G,k,hG,aL,ao,aU,h=>by
  rw[ej]at ao aU
  rw[gU]at aL
  have ao:=mr.mp (show(bw bV f x&&ej bV fs xs)=ah from ao)
  have aU:=mr.mp (show(bw bV f y&&ej bV fs aA)=ah from aU)
  have eM:G k=cY f:=hG 0 f rfl
  rw[jX,eM]at h
  rw[gk,gk]
  show Sep (bf bW f x++gk bW fs xs) (bf bW f y++gk bW fs aA)
  by_cases z:cY f x y=0
  ·rw[if_pos z]at h
   rw[(rp f x y aL.1 ao.1 aU.1).z.mp z]
   exact(LN fs xs aA G (k+1) (fun i g aX=>by rw[Nat.add_assoc,Nat.add_comm 1 i];exact hG (i+1) g aX) aL.2 ao.2 aU.2 h).pre _
  ·rw[if_neg z]at h
   exact(rx f x y aL.1 ao.1 aU.1 h).post _ _
theorem Mx:∀(fs:List ba)(ns:List ae)(k M:Nat)(n:ae)(x y:D),ns.length=fs.length->gU fs->ke bV fs ns n x=ah->ke bV fs ns n y=ah->(ib fs).getD (ns.idxOf n) (fun _ _=>0) x y<0->Sep (mf bW fs ns k M n x) (mf bW fs ns k M n y)
 |[],ns,k,M,n,x,y,_,_,ao,_,_=>by rw[ke]at ao;cases ao
 |f::fs,[],k,M,n,x,y,aD,_,ao,_,_=>by cases aD
 | f::fs,m::ns,k,M,n,x,y,aD,aL,ao,aU,h=>by
  rw[ke]at ao aU
  rw[mf,mf]
  rw[gU]at aL
  by_cases z:m=n
  ·subst z
   have cP:(m::ns).head?=J m:=rfl
   rw[if_pos cP]at ao aU
   rw[if_pos cP,if_pos cP]
   rw[List.idxOf_cons_self,ib]at h
   exact(rx f x y aL.1 ao aU h).pre _
  ·have wN:¬(m::ns).head?=J n:=fun e=>z (e8 e)
   rw[if_neg wN]at ao aU
   rw[if_neg wN,if_neg wN]
   rw[List.idxOf_cons,show(m == n)=aF from beq_eq_false_iff_ne.mpr z,cond_false,ib]at h
   exact Mx fs ns (k+1) M n x y (by simpa using aD) aL.2 ao aU h
end
def Std(w:Int)(a b:List Bool):Prop:=(w=0->a=b)/\(w<0->Sep a b)/\(0<w->Sep b a)
theorem Std.of{f:ba}{a b:D}(ok:eJ f)(aJ:bw bV f a=ah)(ag:bw bV f b=ah):Std (cY f a b) (bf bW f a) (bf bW f b) :=
 ⟨fun z=>by rw[(rp f a b ok aJ ag).z.mp z],rx f a b ok aJ ag,fun z=>rx f b a ok ag aJ (by rw[xx];omega)⟩
def jN(a b:List Bool):Prop:=¬Lt b a
theorem Gk{b c:List Bool}(h:jN a b)(aj:jN b c):jN a c:=fun z=>by
 rcases MN a b with x|x|x
 .exact aj (UZ z x)
 .exact aj (x ▸ z)
 .exact h x
theorem TU{b:List Bool}(h:jN a b)(aj:jN b a):a=b:=by
 rcases MN a b with x|x|x
 .exact absurd x aj
 .exact x
 .exact absurd x h
theorem MG:∀(a b:List (List Bool)),a.Pairwise jN->b.Pairwise jN->a.Perm b->a=b
 |[],b,_,_,p=>p.nil_eq
 |x::a,[],_,_,p=>(List.not_perm_cons_nil p).elim
 | x::a,y::b,aJ,ag,p=>by
  rw[List.pairwise_cons]at aJ ag
  have e:x=y:=by
   rcases c9.mp (p.mem_iff.mp (gF ..))with z|z
   .exact z
   ·rcases c9.mp (p.mem_iff.mpr (gF ..))with cL|cL
    .exact cL.symm
    .exact TU (aJ.1 _ cL) (ag.1 _ z)
  subst e
  rw[MG a b aJ.2 ag.2 p.cons_inv]
theorem MF:∀(ss:List (List Bool)),PyProof.Rows.sortedS (ss.map aP)=ah->ss.Pairwise jN
 |[],_ =>.nil
 |[_],_=>List.pairwise_singleton ..
 | a::b::r,h=>by
  have ai:(!PySem.Spec.ltCps (aP b).cps.toList (aP a).cps.toList&&PyProof.Rows.risingS (aP b) (r.map aP))=ah:=h
  rw[gZ]at ai
  have bT:=MF (b::r) ai.2
  have MP:jN a b:=fun z=>by
   have:=ai.1
   rw[PyProof.Rows.ltCps_eq,eu (show(aP b).cps.toList<(aP a).cps.toList from z)]at this
   cases this
  refine List.pairwise_cons.mpr ⟨fun y aU=>?_,bT⟩
  rcases c9.mp aU with rfl|z
  .exact MP
  .exact Gk MP ((List.pairwise_cons.mp bT).1 y z)
theorem Tf{x:List Bool}{l:List (List Bool)}(aD:l.Pairwise jN)(ai:∀y,y∈l.take k->Lt y x)(aj:∀y,l[k]?=J y->jN x y):(l.take k++x::l.drop k).Pairwise jN:=by
 have hd:∀y,y∈l.drop k->jN x y:=fun y aU=>by
  cases e:l[k]? with
  |none =>
   rw[List.drop_eq_nil_of_le (List.getElem?_eq_none_iff.mp e)]at aU
   cases aU
  | some z =>
   obtain⟨hk,vq⟩:=g5.mp e
   rw[nc hk,vq]at aU
   rcases c9.mp aU with rfl|aU
   .exact aj _ e
   ·have aY:=List.Pairwise.sublist (List.drop_sublist k l) aD
    rw[nc hk,vq]at aY
    exact Gk (aj _ e) ((List.pairwise_cons.mp aY).1 y aU)
 refine List.pairwise_append.mpr ⟨List.Pairwise.sublist (List.take_sublist k l) aD,List.pairwise_cons.mpr ⟨hd,List.Pairwise.sublist (List.drop_sublist k l) aD⟩,fun a aJ b ag=>?_⟩
 have NP:jN a x:=fun z=>List.lt_asymm z (ai a aJ)
 rcases c9.mp ag with rfl|ag
 .exact NP
 .exact Gk NP (hd b ag)
theorem EK{f Nd:af}{fd aaR:iP}(nb:dT mg)(F:d1 K mg "_law_order" Au ["_law_form_here","_law_one","_law_other"] f fd)(DQ:d1 K mg "_law_listed" Ak ["_law_forms","_law_one","_law_other"] Nd aaR):∀d:Nat,bq P w K mg base (2*d+4) "_law_order" ["_law_form_here","_law_one","_law_other"] (wz d)
 |0=>bq.none F fun vs H Q E z=>by obtain⟨_,_,_,g,_,_,_,_,_,h,_⟩:=z;have:=vh g;omega
 |d+1=>VH nb F (Wl nb DQ (EK nb F DQ d)) (EK nb F DQ d)
open PySem.W PySem.Spec PyProof.Rows in
theorem WW{X:bS}:jL X (.builtin "sorted") (fun xs H Q=>∃(a:af)(rs:List (List Bool)),xs=[.ref a]/\cK X.K H a (ea.hf rs)/\rs.length<64/\∀ss:List (List Bool),ss.Pairwise jN->ss.Perm rs->∀p,H p=aw->Q (.ref p) (upd H p (.lst (ea.hf ss)))):=by
 intro ar s U H xs us Q aa r h
 obtain⟨a,rs,rfl,bj,ai5,q⟩:=h
 obtain⟨u,rfl,e4⟩:=vals1 r
 obtain rfl:u=au.ref a:=e4
 obtain⟨bt,d0,pl,bz⟩:=aa.list bj
 have cM:=d0.length
 rw[ea.vj]at cM
 refine sorted_strs pl.isList (LK d0) (by omega) fun out aj3 a1 a2 a3=>?_
 obtain⟨ss,aS,aV⟩:=ea.Yo a2.symm rfl
 subst aS
 obtain⟨e,he⟩:=sortedAll_at s.heap bt out
 have aY:=aa.aL.fresh (a:=s.heap.objs.size+1) (Nat.le_succ _)
 refine⟨.ref (s.heap.objs.size+1),_,?_,I,q ss (MF ss a3) aV.symm _ aY⟩
 have fQ:=aV.length_eq
 refine aa.Dg (ch:=[]) (t':=s.toks) (fun b o _ eA=>sortedAll_old eA) (fun b ag=>nomatch ag) (Nat.le_succ _) ?_
 refine⟨by rw[ea.vj];exact dE (show ss.length<=64 by omega) (by decide),out.toList,e,K5 a1,?_⟩
 rw[he]
mutual
theorem F4:∀(f:ba),eJ f->lJ hasAll f
 |.bare k,h=>⟨by rw[mR];trivial,by rw[oT];rfl⟩
 |.sp a b,h=>by rw[eJ]at h;exact⟨by rw[mR];exact⟨h.1,h.2.2⟩,by rw[oT];rfl⟩
 |.le s,h=>by rw[eJ]at h;exact⟨by rw[mR];exact h,by rw[oT];rfl⟩
 |.one k f,h=>by
  rw[eJ]at h
  obtain⟨a,b⟩:=F4 f h
  exact⟨by rw[mR];exact a,by rw[oT];exact⟨I,b⟩⟩
 |.two k ns fs,h=>by
  rw[eJ]at h
  obtain⟨a,b⟩:=LR fs h.2.2
  exact⟨by rw[mR];exact⟨h.1,h.2.1,a⟩,by rw[oT];exact⟨I,b⟩⟩
theorem LR:∀(fs:List ba),gU fs->CR hasAll fs
 |[],_=>⟨by rw[sb];trivial,by rw[r2];trivial⟩
 |f::fs,h=>by
  rw[gU]at h
  obtain⟨a,b⟩:=F4 f h.1
  obtain⟨a2,eZ⟩:=LR fs h.2
  exact⟨by rw[sb];exact⟨a,a2⟩,by rw[r2];exact⟨b,eZ⟩⟩
end
inductive Pz(vs:List V)(H:aq)(Q:bJ)(E:cN):Prop where
 |mk (l:List Bool) (bg:vs=[.str (aP l)]) (ai:l.length<=15000000) (aj:((∃n,l=List.replicate n ah/\Q .aT H)\/∃b n,l=b++aF::List.replicate n ah/\Q (.str (aP (b++[ah]))) H)):Pz  vs H Q E
def Py:cD:=fun vs H Q E=>Pz  vs H Q E
theorem Wr(F:d1 K mg "behind_all" EV ["row"] f fd):bq P w K mg base 1 "behind_all" ["row"] Py:=by
 refine F.eO Ks (fun bx A _ s H vs Q E ax h=>?_)
 obtain⟨l,rfl,aD,h⟩:=h
 refine⟨_,(aI (bO 1 Ks.bo (hV PySem.F.plainAttrs_str PySem.F.slot_str_rstrip PySem.F.type_str_rstrip Yz (ab 0) (al cT aB)))
  (aR (bB (lU (b0 c2 (ab 1) cT) qv (aN eb (lA qW (ab 1) mu (kv (lB ll aC))) cT))))),?_⟩
 try dsimp only[c4,c5,c6,c7]
 refine⟨_,I,I,_,_,I,I,(by rw[eG];exact jn (by omega)),?_⟩
 rcases h with⟨n,rfl,q⟩|⟨b,n,rfl,q⟩
 ·have e:=KW [] n (.inl rfl)
  rw[List.nil_append]at e
  rw[e]
  refine⟨_,I,I,_,I,?_⟩
  refine iK (by rw[IL]) ?_
  exact⟨H,.refl (dx _),q⟩
 ·have e:=KW (b++[aF]) n (.inr ⟨b,rfl⟩)
  rw[gD]at e
  have e':b++aF::List.replicate n ah=b++([aF]++List.replicate n ah):=rfl
  rw[e',e]
  rw[dX]at aD
  refine⟨_,I,I,_,I,?_⟩
  refine fx (by rw[IL];intro z;have:=FH (V.str.inj z);simp at this) ?_
  refine⟨_,I,_,I,_,I,.inr ⟨_,I,(by rw[eG,dX];exact jn (by simp only[d6,List.length_nil];omega)),?_⟩⟩
  rw[Xz]
  refine .inr ⟨_,_,I,I,(by rw[s1,eG,eG];exact jn (by simp only[d6,List.length_nil];omega)),?_⟩
  rw[s1,ka]
  exact⟨H,.refl (dx _),q⟩
structure Sw(has:e7->Bool)(c:eQ)(n:Nat)(H:aq)(o lf dd gN:af)(ns:List ae)(fs:List ba)(ds dl d4:List D):Prop where
 ex:∃(wf wl jq:List V),cd c [] H (.two 0 ns fs) o/\H lf=J (.lst wf)/\bh H ds wf/\H dd=J (.tup wl)/\bh H dl wl/\H gN=J (.tup jq)/\bh H d4 jq
 ok:lJ has (.two 0 ns fs)
 aW:aM (.two 0 ns fs)<=n+1
 cq:ds.length<=1000
 cR:dl.length<=1
 yE:d4.length<=1
noncomputable def i8(fw:D->List Bool)(fs:List ba)(ds:List D):List Bool:=((List.range ds.length).map fun i=>bf fw (fs.getD i (.bare 0)) (ds.getD i .aT)).flatten
noncomputable def k6(fw:D->List Bool)(fs:List ba)(ds dl:List D):List Bool:=(dl.map fun d=>bf fw (fs.getD ds.length (.bare 0)) d).flatten
noncomputable def ow(bc:D->Bool)(fs:List ba)(ds:List D)(d:D):Bool:=bw bc (fs.getD ds.length (.bare 0)) d
noncomputable def BN(bc:D->Bool)(fs:List ba)(ds:List D):Bool:=(List.range ds.length).all fun i=>bw bc (fs.getD i (.bare 0)) (ds.getD i .aT)
noncomputable def BD(bc:D->Bool)(fs:List ba)(ds dl d4:List D):Bool:=decide (ds.length<fs.length)&&BN bc fs ds&&(dl.all (ow bc fs ds)&&d4.all (ow bc fs ds))
theorem va:2<=cj:=by decide
def JE(l:List Bool)(v:V):Prop:=(∃n,l=List.replicate n ah/\v=.aT)\/∃b n,l=b++aF::List.replicate n ah/\v=.str (aP (b++[ah]))
inductive QH(has:e7->Bool)(bc:D->Bool)(fw:D->List Bool)(c:eQ)(n:Nat)(vs:List V)(H:aq)(Q:bJ)(E:cN):Prop where
 |mk (o lf dd gN:af) (ns:List ae) (fs:List ba) (ds dl d4:List D) (bg:vs=[.ref o,.ref lf,.ref dd,.ref gN]) (ai:Sw has c n H o lf dd gN ns fs ds dl d4) (aj:BD bc fs ds dl d4=ah) (bE:(i8 fw fs ds).length+(k6 fw fs ds dl).length<=15000000) (cQ:(i8 fw fs ds).length+(k6 fw fs ds d4).length<=15000000) (eN:∀t v,H t=aw->((d4=[]/\JE (i8 fw fs ds) v)\/(d4≠[]/\v=.str (aP (i8 fw fs ds++k6 fw fs ds d4))))->Q (.ref t) (upd H t (.tup [.str (aP (i8 fw fs ds++k6 fw fs ds dl)),v]))):QH has bc fw c n vs H Q E
def QG(has:e7->Bool)(bc:D->Bool)(fw:D->List Bool)(c:eQ)(n:Nat):cD:=fun vs H Q E=>QH has bc fw c n vs H Q E
theorem L8(fw:D->List Bool)(fs:List ba)(ds:List D):k6 fw fs ds []=[]:=rfl
theorem qs(fw:D->List Bool)(fs:List ba)(ds:List D)(d:D):k6 fw fs ds [d]=bf fw (fs.getD ds.length (.bare 0)) d:=by
 unfold k6
 rw[fD,List.map_nil,j8,List.flatten_nil,List.append_nil]
theorem ry{l:List α}(h:l.length<=1):l=[]\/∃x,l=[x]:=by
 cases l with
 |nil=>exact .inl I
 |cons x r =>
  cases r with
  |nil=>exact .inr ⟨x,I⟩
  |cons y r=>simp at h
theorem XI(nb:dT mg)(T:na K (c.t 0))(F:d1 K mg "span_of" Fq ["form","first","low","high"] f fd)(DB:bq P w K mg base 1 "behind_all" ["row"] Py)(n3:hq P w K mg base (2*n+5) "row" ["self","value"] (fW c) (fun _=>zb has bc fw c n)):bq P w K mg base (2*n+6) "span_of" ["form","first","low","high"] (QG has bc fw c n):=by
 refine F.eO xn (fun bx A _ s H vs Q E ax h=>?_)
 obtain⟨o,lf,dd,gN,ns,fs,ds,dl,d4,rfl,fv,vI,gK,tp,q⟩:=h
 obtain⟨⟨wf,wl,jq,dr,tA,dV,rY,ip,vT,i1⟩,aL,di,kC,fQ,l6⟩:=fv
 obtain⟨_,ak,a1,a2,os,aH,_,_,ai,aj,oC⟩:=dr
 obtain⟨gr,i2,hZ⟩:=aL.two
 have ir:f7 fs<=n:=by rw[aM]at di;omega
 have nD:=eK.len fs oC
 have vR:=(lX gr).1
 have vU:=bh.len ds dV
 have tF:=bh.len dl ip
 have ajF:=bh.len d4 i1
 unfold BD at vI
 simp only[gZ,iR]at vI
 obtain⟨⟨h9,vL⟩,jE,vK⟩:=vI
 have fI:=e9.mp vL
 refine⟨_,(aI (cE (b0 CQ (b9 du I nb.dn dq (al (ab 1) aB)) (b9 du I nb.dn dq (al (ed (ab 0) I) aB))) (aR lz) cF)
  (aI (bO 4 xn.bo (hV PySem.F.plainAttrs_str PySem.F.slot_str_join PySem.F.type_str_join sY cT (al (ik ["part","value"] [] rfl (by decide+kernel) trivial (Un rfl nb.Ju (al (ed (ab 0) rfl) (al (ab 1) aB))) (fun _ _ _ _ _=>(pI rfl (jB (d7 (i:=0) (show(["part","value"]:List ae).Nodup by decide+kernel)) (jB (d7 (i:=1) (show(["part","value"]:List ae).Nodup by decide+kernel)) px)))) (fun _ _ _ _ _=>hu) (fun _ _ _ _ _=>(ij n3 ax (ab 0) (al (ab 1) aB) (hk:=by omega)))) aB)))
  (aI (bO 5 xn.bo (bG bH (ed (ab 0) rfl) (b9 du rfl nb.dn dq (al (ab 1) aB))))
  (aI (bO 6 xn.bo (lU (hi (ab 2)) (aN eb (ab 4) (ij n3 ax (ab 5) (al (bG bH (ab 2) aC) aB) (hk:=by omega))) (ab 4)))
  (aI (bO 7 xn.bo (lU (hi (ab 3)) (aN eb (ab 4) (ij n3 ax (ab 5) (al (bG bH (ab 3) aC) aB) (hk:=by omega))) (b6 DB ax (al (ab 4) aB) (hk:=by omega))))
  (aR (bB (jf (al (ab 6) (al (ab 7) aB)))))))))),?_⟩
 try dsimp only[c4,c5,c6,c7]
 refine⟨_,I,_,_,I,.inl ⟨_,bb tA,I⟩,_,I,o,c.t 0,ak,_,_,I,aH,T.cl,T.kZ,mP _ _ _ _ pN,_,_,I,.inl ⟨_,bb aj,I⟩,_,_,I,I,_,I,fx (by rw[cw,nD,vU];omega) ?_⟩
 refine⟨I,_,I,o,c.t 0,ak,_,_,I,aH,T.cl,T.kZ,mP _ _ _ _ pN,_,I,a2,lf,_,_,I,bb aj,bb tA,fun cW d8=>?_⟩
 refine SW (fun k=>V.str (aP (bf fw (fs.getD k (.bare 0)) (ds.getD k .aT)))) (fun U=>∃cP cL,U=[cP,cL]) (by rw[cw];omega) ⟨_,_,I⟩ d8 (bb aj) (bb tA) ?_ ?_
 ·rintro k x y ao aU bL H1 kN ⟨cP,cL,rfl⟩ er mC R b1
  rw[eL]at ao
  obtain⟨oX,yo,rfl⟩:=Uf.mp ao
  obtain⟨cm,pT,rK⟩:=eK.get fs oC yo
  obtain⟨iG,kB,oR⟩:=bh.get ds dV aU
  obtain⟨mJ,vM⟩:=hZ.get pT
  have aS:fs.getD k (.bare 0)=cm:=by rw[dN,pT];rfl
  have aV:ds.getD k .aT=iG:=by rw[dN,kB];rfl
  have hk:k∈List.range ds.length:=List.mem_range.mpr (g5.mp kB).1
  have rS:=fI k hk
  have aY:=A0 (List.mem_map_of_mem (f:=fun i=>bf fw (fs.getD i (.bare 0)) (ds.getD i .aT)) hk)
  have nF:(bf fw (fs.getD k (.bare 0)) (ds.getD k .aT)).length<=(i8 fw fs ds).length:=aY
  rw[aS,aV]at b1 rS nF
  have o4:=er.trans (dg (o:=df.tup [V.ref oX,y]) mC)
  obtain⟨fG,fH,eI,li⟩:=cd.row cm (cd.keep (fun b u _ e=>o4 b u e) cm rK)
  refine⟨kN,_,I,bI aG,I,_,_,I,_,_,I,I,?_⟩
  refine⟨_,I,oX,slot cm,fG,fH,I,eI,li,?_⟩
  exact⟨_,I,slot cm,oX,cm,y,iG,I,I,cd.keep (fun b u _ e=>o4 b u e) cm rK,mJ,by omega,c3.same o4 iG oR,rS,by omega,b1 _ _ ⟨_,_,rfl⟩ (dx _)⟩
 intro av c1 gS
 have e:(List.range (min (os.map V.ref).length wf.length)).map (fun k=>V.str (aP (bf fw (fs.getD k (.bare 0)) (ds.getD k .aT))))=(((List.range ds.length).map fun k=>bf fw (fs.getD k (.bare 0)) (ds.getD k .aT)).map aP).map V.str:=by
  rw[cw,vU,nD,Nat.min_eq_right (by omega),gE,gE];rfl
 rw[e]at gS
 refine⟨_,cW,_,I,I,bb gS,by rw[AZ];show(i8 fw fs ds).length<=_;exact jn (by omega),?_⟩
 rw[rh]
 have Z5:((List.range ds.length).map fun k=>bf fw (fs.getD k (.bare 0)) (ds.getD k .aT)).flatten=i8 fw fs ds:=rfl
 rw[Z5]
 obtain⟨kk,Om⟩:∃kk,os[ds.length]?=J kk:=⟨_,cp (by omega)⟩
 obtain⟨g,aX,abz⟩:=eK.get fs oC Om
 obtain⟨HM,ajj⟩:=hZ.get aX
 have iI:fs.getD ds.length (.bare 0)=g:=by rw[dN,aX];rfl
 have BZ:=cd.keep (fun b u _ e=>c1 b u e) g abz
 obtain⟨fG,fH,eI,li⟩:=cd.row g BZ
 refine⟨_,I,o,c.t 0,ak,_,_,I,c1 _ _ aH,T.cl,T.kZ,mP _ _ _ _ pN,_,I,_,_,I,.inl ⟨_,bb (c1 _ _ tA),I⟩,.inl (.inl ⟨_,_,_,_,I,I,bb (c1 _ _ aj),(by rw[vU];exact cB (by rw[eL,Om];rfl)),?_⟩)⟩
 have y3:∀{a b:List Bool},a.length+b.length<=15000000->(aP a).length+(aP b).length<=cj:=fun h=>by rw[eG,eG];exact jn (by omega)
 have BR:(i8 fw fs ds).length<=15000000:=by omega
 rcases ry fQ with rfl|⟨x,rfl⟩
 ·obtain rfl:wl=[]:=ip
  refine⟨_,I,aF,.inr (.inl ⟨_,bI (c1 _ _ rY),I⟩),dW ⟨_,I,?_⟩⟩
  have l0:i8 fw fs ds++k6 fw fs ds []=i8 fw fs ds:=by rw[L8,List.append_nil]
  rw[l0]at q
  rcases ry l6 with rfl|⟨y,rfl⟩
  ·obtain rfl:jq=[]:=i1
   refine⟨_,I,aF,.inr (.inl ⟨_,bI (c1 _ _ vT),I⟩),dW ?_⟩
   rcases Lj (i8 fw fs ds)with⟨m,hm⟩|⟨b,m,hm⟩
   .exact⟨_,I,_,I,BR,.inl ⟨m,hm,_,I,_,I,va,fun t aM=>⟨_,.new (c1.free aM) (c1.trans (dg aM)) aG trivial,q t _ (c1.free aM) (.inl ⟨I,.inl ⟨m,hm,I⟩⟩)⟩⟩⟩
   .exact⟨_,I,_,I,BR,.inr ⟨b,m,hm,_,I,_,I,va,fun t aM=>⟨_,.new (c1.free aM) (c1.trans (dg aM)) aG trivial,q t _ (c1.free aM) (.inl ⟨I,.inr ⟨b,m,hm,I⟩⟩)⟩⟩⟩
  ·obtain⟨hD,r,rfl,aU,dt⟩:=i1
   obtain rfl:r=[]:=dt
   have Hv:bw bc g y=ah:=by
    have:=e9.mp vK y (d5.mpr rfl)
    unfold ow at this
    rwa [iI]at this
   rw[qs,iI]at tp
   refine⟨_,I,ah,.inr (.inl ⟨_,bI (c1 _ _ vT),I⟩),e3 ?_⟩
   refine⟨_,I,_,I,kk,slot g,fG,fH,I,eI,li,_,I,.inl (.inr ⟨_,_,_,_,I,I,bI (c1 _ _ vT),cB (j:=0) I,slot g,kk,g,hD,y,I,I,BZ,HM,by omega,c3.same c1 y aU,Hv,by omega,.inr ⟨_,_,rfl,rfl,y3 tp,?_⟩⟩)⟩
   rw[ka]
   refine⟨_,I,_,I,va,fun t aM=>⟨_,.new (c1.free aM) (c1.trans (dg aM)) aG trivial,q t _ (c1.free aM) (.inr ⟨by simp,by rw[qs,iI]⟩)⟩⟩
 ·obtain⟨hD,r,rfl,ao,dt⟩:=ip
  obtain rfl:r=[]:=dt
  have aca:bw bc g x=ah:=by
   have:=e9.mp jE x (d5.mpr rfl)
   unfold ow at this
   rwa [iI]at this
  have NQ:=gK
  rw[qs,iI]at NQ
  have l0:i8 fw fs ds++k6 fw fs ds [x]=i8 fw fs ds++bf fw g x:=by rw[qs,iI]
  rw[l0]at q
  refine⟨_,I,ah,.inr (.inl ⟨_,bI (c1 _ _ rY),I⟩),e3 ?_⟩
  refine⟨_,I,_,I,kk,slot g,fG,fH,I,eI,li,_,I,.inl (.inr ⟨_,_,_,_,I,I,bI (c1 _ _ rY),cB (j:=0) I,slot g,kk,g,hD,x,I,I,BZ,HM,by omega,c3.same c1 x ao,aca,by omega,.inr ⟨_,_,rfl,rfl,y3 NQ,?_⟩⟩)⟩
  rw[ka]
  rcases ry l6 with rfl|⟨y,rfl⟩
  ·obtain rfl:jq=[]:=i1
   refine⟨_,I,aF,.inr (.inl ⟨_,bI (c1 _ _ vT),I⟩),dW ?_⟩
   rcases Lj (i8 fw fs ds)with⟨m,hm⟩|⟨b,m,hm⟩
   .exact⟨_,I,_,I,BR,.inl ⟨m,hm,_,I,_,I,va,fun t aM=>⟨_,.new (c1.free aM) (c1.trans (dg aM)) aG trivial,q t _ (c1.free aM) (.inl ⟨I,.inl ⟨m,hm,I⟩⟩)⟩⟩⟩
   .exact⟨_,I,_,I,BR,.inr ⟨b,m,hm,_,I,_,I,va,fun t aM=>⟨_,.new (c1.free aM) (c1.trans (dg aM)) aG trivial,q t _ (c1.free aM) (.inl ⟨I,.inr ⟨b,m,hm,I⟩⟩)⟩⟩⟩
  ·obtain⟨hD,r,rfl,aU,dt⟩:=i1
   obtain rfl:r=[]:=dt
   have Hv:bw bc g y=ah:=by
    have:=e9.mp vK y (d5.mpr rfl)
    unfold ow at this
    rwa [iI]at this
   rw[qs,iI]at tp
   refine⟨_,I,ah,.inr (.inl ⟨_,bI (c1 _ _ vT),I⟩),e3 ?_⟩
   refine⟨_,I,_,I,kk,slot g,fG,fH,I,eI,li,_,I,.inl (.inr ⟨_,_,_,_,I,I,bI (c1 _ _ vT),cB (j:=0) I,slot g,kk,g,hD,y,I,I,BZ,HM,by omega,c3.same c1 y aU,Hv,by omega,.inr ⟨_,_,rfl,rfl,y3 tp,?_⟩⟩)⟩
   rw[ka]
   refine⟨_,I,_,I,va,fun t aM=>⟨_,.new (c1.free aM) (c1.trans (dg aM)) aG trivial,q t _ (c1.free aM) (.inr ⟨by simp,by rw[qs,iI]⟩)⟩⟩
noncomputable def tc(row:List Bool):V->Bool
 |.str e=>decide ((aP row).cps.toList<e.cps.toList)
 |_=>ah
noncomputable def rowsOf(fw:D->List Bool)(fs:List ba)(ds:List D):List (List Bool):=(List.range ds.length).map fun i=>bf fw (fs.getD i (.bare 0)) (ds.getD i .aT)
theorem sF{fw:D->List Bool}{fs:List ba}(h:i<ds.length):(rowsOf fw fs ds)[i]?=J (bf fw (fs.getD i (.bare 0)) (ds.getD i .aT)):=by
 unfold rowsOf
 rw[eL,List.getElem?_range h];rfl
theorem qn(fw:D->List Bool)(fs:List ba)(ds:List D):(rowsOf fw fs ds).length=ds.length:=by unfold rowsOf;rw[cw,kQ]
theorem vg{f:ba}{a b:D}(ok:eJ f)(aJ:bw bV f a=ah)(ag:bw bV f b=ah):z7 (bf bW f a) (bf bW f b)/\(cY f a b=0↔bf bW f a=bf bW f b)/\(cY f a b<0↔Sep (bf bW f a) (bf bW f b)):=by
 have S:=Std.of ok aJ ag
 have Ig:∀x:List Bool,¬Sep x x:=fun x s=>sW s (qt s)
 rcases(show cY f a b=0\/cY f a b<0\/0<cY f a b by omega)with z|z|z
 ·refine⟨.inl (S.1 z),⟨fun _=>S.1 z,fun _=>z⟩,⟨fun h=>by omega,fun h=>?_⟩⟩
  rw[S.1 z]at h
  exact(Ig _ h).elim
 ·have s:=S.2.1 z
  exact⟨.inr (.inl s),⟨fun h=>by omega,fun h=>by rw[h]at s;exact(Ig _ s).elim⟩,⟨fun _=>s,fun _=>z⟩⟩
 ·have s:=S.2.2 z
  exact⟨.inr (.inr s),⟨fun h=>by omega,fun h=>by rw[h]at s;exact(Ig _ s).elim⟩,⟨fun h=>by omega,fun h=>(sW s (qt h)).elim⟩⟩
noncomputable def jF(fs:List ba)(es ds dl d4:List D):Bool:=(List.range ds.length).all (fun i=>decide (cY (fs.getD i (.bare 0)) (es.getD i .aT) (ds.getD i .aT)=0))&&(dl.all (fun x=>!decide (cY (fs.getD ds.length (.bare 0)) (es.getD ds.length .aT) x<0))&&d4.all (fun y=>decide (cY (fs.getD ds.length (.bare 0)) (es.getD ds.length .aT) y<0)))
theorem F3{fs:List ba}(ok:gU fs)(h:i<fs.length):eJ (fs.getD i (.bare 0))/\aM (fs.getD i (.bare 0))<=f7 fs:=by
 rw[dN,cp h]
 exact sV ok (cp h)
theorem adv{fs:List ba}(ok:gU fs)(ajf:es.length=fs.length)(N0:∀i,i<es.length->bw bV (fs.getD i (.bare 0)) (es.getD i .aT)=ah)(aD:ds.length<fs.length)(aM:BN bV fs ds=ah)(acq:dl.length<=1)(aco:d4.length<=1)(jE:dl.all (ow bV fs ds)=ah)(vK:d4.all (ow bV fs ds)=ah)
  (br:(d4=[]/\JE (i8 bW fs ds) v)\/(d4≠[]/\v=.str (aP (i8 bW fs ds++k6 bW fs ds d4)))) :
  (!decide ((aP (rowsOf bW fs es).flatten).cps.toList<(aP (i8 bW fs ds++k6 bW fs ds dl)).cps.toList)&&tc (rowsOf bW fs es).flatten v)=jF fs es ds dl d4:=by
 have eA:i8 bW fs ds=(rowsOf bW fs ds).flatten:=rfl
 rw[eA]at br ⊢
 have Je:∀i,i<ds.length->eJ (fs.getD i (.bare 0))/\bw bV (fs.getD i (.bare 0)) (es.getD i .aT)=ah/\bw bV (fs.getD i (.bare 0)) (ds.getD i .aT)=ah:=fun i ay=>⟨(F3 ok (by omega)).1,N0 i (by omega),e9.mp aM i (List.mem_range.mpr ay)⟩
 have keys:(∃R',rowsOf bW fs es=rowsOf bW fs ds++R')↔(List.range ds.length).all (fun i=>decide (cY (fs.getD i (.bare 0)) (es.getD i .aT) (ds.getD i .aT)=0))=ah:=by
  constructor
  ·rintro⟨R',e⟩
   refine e9.mpr fun i ay=>eu ?_
   have ay:=List.mem_range.mp ay
   obtain⟨k,ai,aj⟩:=Je i ay
   have g1:=sF (fw:=bW) (fs:=fs) (ds:=es) (i:=i) (by omega)
   rw[e,List.getElem?_append_left (by rw[qn];exact ay),sF ay]at g1
   exact(vg k ai aj).2.1.mpr (e8 g1).symm
  ·intro h
   refine⟨(rowsOf bW fs es).drop ds.length,?_⟩
   apply List.ext_getElem?
   intro i
   rcases g4 i ds.length with y|y
   ·rw[List.getElem?_append_left (by rw[qn];exact y),sF y,sF (by omega)]
    obtain⟨k,ai,aj⟩:=Je i y
    have:=hg (e9.mp h i (List.mem_range.mpr y))
    exact congrArg J ((vg k ai aj).2.1.mp this)
   .rw[List.getElem?_append_right (by rw[qn];exact y),List.getElem?_drop,qn,show ds.length+(i-ds.length)=i by omega]
 have O9:=(F3 ok aD).1
 have N1:=N0 ds.length (by omega)
 unfold jF
 rcases Ld (F:=rowsOf bW fs ds) (R:=rowsOf bW fs es) (by rw[qn,qn];omega) (fun j a b aJ ag=>by
   have b2:j<ds.length:=by have:=(g5.mp aJ).1;rwa [qn]at this
   obtain⟨k,ai,aj⟩:=Je j b2
   rw[sF b2]at aJ
   rw[sF (by omega)]at ag
   rw[<-e8 aJ,<-e8 ag]
   exact(vg k ai aj).1)with⟨R',Gy⟩|⟨aW,s⟩
 ·rw[keys.mp ⟨R',Gy⟩,Bool.true_and]
  have x3:=sF (fw:=bW) (fs:=fs) (ds:=es) (i:=ds.length) (by omega)
  rw[Gy,List.getElem?_append_right (by rw[qn];exact b8 _),qn,Nat.sub_self]at x3
  cases R' with
  |nil=>cases x3
  | cons r Ef =>
   have g6:r=bf bW (fs.getD ds.length (.bare 0)) (es.getD ds.length .aT):=e8 x3
   rw[Gy]
   congr 1
   ·rcases ry acq with rfl|⟨x,rfl⟩
    ·rw[L8,List.append_nil]
     have:¬((aP (rowsOf bW fs ds++r::Ef).flatten).cps.toList<(aP (rowsOf bW fs ds).flatten).cps.toList):=AA ⟨(r::Ef).flatten,by rw[List.flatten_append]⟩
     rw[fC this];rfl
    ·have gI:bw bV (fs.getD ds.length (.bare 0)) x=ah:=e9.mp jE x (d5.mpr rfl)
     have T:=vg O9 N1 gI
     rw[<-g6]at T
     rw[qs,List.all_cons,List.all_nil,Bool.and_true]
     congr 1
     rw[Bool.eq_iff_iff,iR,iR,T.2.2]
     have L:=Zb (F:=rowsOf bW fs ds) (R':=Ef) T.1
     exact⟨fun a=>Classical.byContradiction fun b=>L.mpr b a,fun b=>Classical.byContradiction fun a=>L.mp a b⟩
   ·rcases br with⟨rfl,l2⟩|⟨jU,rfl⟩
    ·rw[List.all_nil]
     rcases l2 with⟨n,_,rfl⟩|⟨b,n,ag,rfl⟩
     .rfl
     ·show decide _=ah
      refine eu ?_
      rw[List.flatten_append,ag]
      exact W3
    ·rcases ry aco with rfl|⟨y,rfl⟩
     .exact absurd I jU
     ·have jT:bw bV (fs.getD ds.length (.bare 0)) y=ah:=e9.mp vK y (d5.mpr rfl)
      have T:=vg O9 N1 jT
      rw[<-g6]at T
      rw[qs,List.all_cons,List.all_nil,Bool.and_true]
      show decide _=_
      rw[Bool.eq_iff_iff,iR,iR,T.2.2]
      exact Ya T.1
 ·have hk:(List.range ds.length).all (fun i=>decide (cY (fs.getD i (.bare 0)) (es.getD i .aT) (ds.getD i .aT)=0))=aF:=by
   rw[<-Bool.not_eq_true]
   exact fun z=>aW (keys.mpr z)
  rw[hk,Bool.false_and]
  rcases s with s|s
  ·have:=qt (s.post [] (k6 bW fs ds dl))
   rw[List.append_nil]at this
   rw[eu this];rfl
  ·have:tc (rowsOf bW fs es).flatten v=aF:=by
    rcases br with⟨rfl,l2⟩|⟨jU,rfl⟩
    ·rcases l2 with⟨n,ag,rfl⟩|⟨b,n,ag,rfl⟩
     ·rw[ag]at s
      exact absurd s TN
     ·rw[ag]at s
      exact fC (X9 s)
    ·have aj:=sW (s.post (k6 bW fs ds d4) [])
     rw[List.append_nil]at aj
     exact fC aj
   rw[this,Bool.and_false]
theorem Yi(fw:D->List Bool)(fs:List ba)(es:List D)(h:es.length=fs.length):gk fw fs es=(rowsOf fw fs es).flatten:=by
 rw[AP fw fs es h]
 unfold rowsOf
 rw[h]
theorem LZ(x:List Bool)(rs:List (List Bool)):vX (.str (aP x)) (hf rs)=decide (x∈rs):=by
 unfold vX
 induction rs with
 |nil=>rfl
 | cons r rs bT =>
  show((aP r == aP x)||(hf rs).any fun y=>mA y (.str (aP x)))=decide (x∈r::rs)
  rw[bT]
  by_cases h:x=r
  .subst h;simp
  ·have:(aP r == aP x)=aF:=beq_false_of_ne fun z=>h (FH z).symm
   rw[this];simp[h]
theorem Lq(rs:List (List Bool)):(hf rs).all qC=ah:=by
 rw[e9]
 intro v br
 obtain⟨r,_,rfl⟩:=List.mem_map.mp br
 rfl
noncomputable def k5(cm:af)(m:Int)(l:af):List (ae×V):=[("form",.ref cm),("room",.int m),("rows",.ref l)]
structure xi(K:bM)(C:af):Prop where
 cl:fY K C
 kZ:jv K C "form"
 aeb:jv K C "room"
 wh:jv K C "rows"
theorem ahh:¬(("form":ae)="room"):=by decide+kernel
theorem Pn:¬(("form":ae)="rows"):=by decide+kernel
theorem Po:¬(("room":ae)="rows"):=by decide+kernel
theorem ahe:(("rows":ae) == "form")=aF:=by decide+kernel
theorem ahf:(("rows":ae) == "room")=aF:=by decide+kernel
theorem ahn(cm:V):eY "form" cm []=([("form",cm)]:List (ae×V)):=rfl
theorem aho(cm m:V):eY "room" m ([("form",cm)]:List (ae×V))=([("form",cm),("room",m)]:List (ae×V)):=by simp only[eY,ahh,if_false]
theorem ahp(cm m l:V):eY "rows" l ([("form",cm),("room",m)]:List (ae×V))=([("form",cm),("room",m),("rows",l)]:List (ae×V)):=by simp only[eY,Pn,Po,if_false]
theorem ahq(cm:af)(m:Int)(l jW:af):eY "rows" (.ref jW) (k5 cm m l)=k5 cm m jW:=by simp only[k5,eY,Pn,Po,if_false,if_true]
theorem Pr(cm:af)(m:Int)(l:af):(k5 cm m l).lookup ("form":ae)=J (.ref cm):=by simp[k5]
theorem CY(cm:af)(m:Int)(l:af):(k5 cm m l).lookup ("rows":ae)=J (.ref l):=by simp[k5,List.lookup,ahe,ahf]
theorem Ps(cm:af)(m:Int)(l:af)(ai:(x == ("form":ae))=aF:=by decide+kernel)(aj:(x == ("room":ae))=aF:=by decide+kernel)(bE:(x == ("rows":ae))=aF:=by decide+kernel):(k5 cm m l).lookup x=aw:=by simp[k5,List.lookup,ai,aj,bE]
inductive Qy(C:af)(vs:List V)(H:aq)(Q:bJ)(E:cN):Prop where
 |mk (p ak cm:af) (m:Int) (bg:vs=[.ref p,.ref cm,.int m]) (ai:H p=J (.ins C ak [])) (aj:2<=m) (bE:m<=20) (cQ:∀l,H l=aw->Q .aT (upd (upd H p (.ins C ak (k5 cm m l))) l (.lst []))):Qy C vs H Q E
def Qx(C:af):cD:=fun vs H Q E=>Qy C vs H Q E
theorem XJ(GR:gX mg "LEAST_ROOM" (.int 2))(GX:gX mg "MOST_ROOM" (.int 20))(T:xi K C)(F:dG K "__init__" "Shelf.__init__" EW f fd):de P w K mg base dv 1 f fd ["self","form","room"] (Qx C):=by
 refine F.fK Wb (fun bx A _ s H vs Q E ax h=>?_)
 obtain⟨p,ak,cm,m,rfl,aY,aj,vw,q⟩:=h
 refine⟨_,(aI (cE (gc.pt (j6 (b0 jm (ab 2) (lV GR)) (lq (b0 jG (ab 2) (lV GX))))) (aR lz) cF)
  (aI (iE (ab 0) (ab 1) rfl)
  (aI (iE (ab 0) (ab 2) rfl)
  (aR (iE (ab 0) (h6 aB) rfl))))),?_⟩
 try dsimp only[c4,c5,c6,c7]
 refine⟨_,I,.inl ⟨_,_,I,I,_,I,fx (by omega) ⟨_,I,_,_,I,I,_,I,fx (by omega) ?_⟩⟩⟩
 refine⟨_,I,_,I,p,C,ak,_,I,aY,T.cl,T.kZ,(by show 0<1000;decide),?_⟩
 rw[ahn]
 refine⟨_,I,_,I,p,C,ak,_,I,aG,T.cl,T.aeb,(by show 1<1000;decide),?_⟩
 rw[aho,fN]
 refine⟨UF _,fun l aD=>?_⟩
 have nC:l≠p:=fun z=>by rw[z,aG]at aD;cases aD
 have lG:H l=aw:=by rw[bK nC]at aD;exact aD
 refine⟨_,I,p,C,ak,_,I,(by rw[bK (eF nC)];exact aG),T.cl,T.wh,(by show 2<1000;decide),?_⟩
 rw[ahp]
 refine⟨_,Sub.Ie (o:=df.lst []) aY lG (fun b u ag e=>?_) aG (by rw[bK nC];exact aG) trivial,q l lG⟩
 rw[bK ag,bK (f5 e lG),bK ag]
 exact e
def xh(H:aq)(s C ak cm:af)(m:Int)(l:af)(rs:List (List Bool)):Prop:=H s=J (.ins C ak (k5 cm m l))/\H l=J (.lst (hf rs))
inductive Qq(C:af)(c:eQ)(n:Nat)(vs:List V)(H:aq)(Q:bJ)(E:cN):Prop where
 |mk (s ak cm l:af) (m:Int) (v:V) (g:ba) (d:D) (rs:List (List Bool)) (bg:vs=[.ref s,v]) (ai:xh H s C ak cm m l rs) (aj:cd c [] H g cm) (bE:lJ hasAll g) (cQ:aM g<=n) (eN:c3 H d v) (jj:bw bV g d=ah) (nt:(bf bW g d).length<=15000000) (nu:rs.length<60) (oA:(bf bW g d∈rs->Q (.aQ aF) H)) (G1:(bf bW g d∉rs->∀jW ss,H jW=aw->ss.Pairwise jN->ss.Perm (rs++[bf bW g d])->Q (.aQ ah) (upd (upd H s (.ins C ak (k5 cm m jW))) jW (.lst (hf ss))))):Qq C c n vs H Q E
def Qp(C:af)(c:eQ)(n:Nat):cD:=fun vs H Q E=>Qq C c n vs H Q E
theorem Ux(nb:dT mg)(T:xi K C)(F:dG K "put" "Shelf.put" Ax f fd)(n3:hq P w K mg base (2*n+5) "row" ["self","value"] (fW c) (fun _=>zb hasAll bV bW c n)):de P w K mg base dv (2*n+6) f fd ["self","value"] (Qp C c n):=by
 refine F.fK Kw (fun bx A _ s H vs Q E ax h=>?_)
 obtain⟨p,ak,cm,l,m,v,g,d,rs,rfl,⟨aY,aD⟩,dr,aL,di,hd,az,cM,aW,cu,bX⟩:=h
 obtain⟨ZY,aaV,aS,aV⟩:=cd.row g dr
 refine⟨_,(aI (bO 2 Kw.bo (ij n3 ax (ed (ab 0) I) (al (ab 1) aB) (hk:=by omega)))
  (aI (cE (Bc Le (ab 2) (ed (ab 0) rfl) (by with_unfolding_all rfl)) (aR (bB jO)) cF)
  (aI (iE (ab 0) (b9 WW rfl nb.ahk YZ (al (aN Uu (ed (ab 0) rfl) (h6 (al (ab 2) aB))) aB)) rfl)
  (aR (bB jO))))),?_⟩
 try dsimp only[c4,c5,c6,c7]
 generalize Cm:bf bW g d=r at cM cu bX
 refine⟨_,I,p,C,ak,_,_,I,aY,T.cl,T.kZ,Pr ..,cm,slot g,ZY,aaV,I,aS,aV,_,I,slot g,cm,g,v,d,I,I,dr,aL,di,hd,az,by rw[Cm];exact cM,?_⟩
 rw[Cm]
 by_cases ao:r∈rs
 ·refine⟨_,I,_,I,p,C,ak,_,_,I,aY,T.cl,T.wh,CY ..,l,hf rs,I,.inl (bb aD),I,Lq rs,ah,(by rw[LZ,eu ao];rfl),e3 ?_⟩
  exact⟨H,.refl (dx _),cu ao⟩
 ·refine⟨_,I,_,I,p,C,ak,_,_,I,aY,T.cl,T.wh,CY ..,l,hf rs,I,.inl (bb aD),I,Lq rs,aF,(by rw[LZ,fC ao];rfl),dW ?_⟩
  refine⟨_,I,p,C,ak,_,_,I,aY,T.cl,T.wh,CY ..,_,I,(by show 1<=cj;decide),fun cf nF=>?_⟩
  have Pt:=dg (o:=df.lst [V.str (aP r)]) nF
  refine⟨l,cf,_,_,I,I,Pt _ _ aD,aG,(by rw[vj];exact jn (by show rs.length+1<=_;omega)),fun IA acH=>?_⟩
  have gh:hf rs++[V.str (aP r)]=hf (rs++[r]):=(UP rs [r]).symm
  rw[gh]
  have Pu:=Pt.trans (dg (o:=df.lst (hf (rs++[r]))) acH)
  refine⟨IA,rs++[r],I,bb aG,(by rw[dX];show rs.length+1<64;omega),fun ss HY acJ yS Cj=>?_⟩
  have Pw:=Pu.trans (dg (o:=df.lst (hf ss)) Cj)
  have G2:H yS=aw:=Pu.free Cj
  have ad9:yS≠p:=(f5 aY G2).symm
  refine⟨_,I,p,C,ak,_,I,Pw _ _ aY,T.cl,T.wh,(by show 3<1000;decide),?_⟩
  rw[ahq]
  refine⟨_,Sub.Ie (o:=df.lst (hf ss)) aY G2 (fun b u ag e=>?_) aG (by rw[bK ad9];exact aG) trivial,bX ao yS ss G2 HY acJ⟩
  rw[bK ag]
  exact Pw b u e
noncomputable def o7(st:List Bool)(b5:V)(r:List Bool):Bool:=!decide ((aP r).cps.toList<(aP st).cps.toList)&&tc r b5
noncomputable def Cw(st:List Bool)(b5:V):V->Bool
 |.str z=>!decide (z.cps.toList<(aP st).cps.toList)&&(match b5 with|.str e=>decide (z.cps.toList<e.cps.toList)|_=>ah)
 |_=>aF
theorem Lk(st:List Bool)(b5:V)(r:List Bool):Cw st b5 (.str (aP r))=o7 st b5 r:=by
 cases b5<;>rfl
theorem XQ(st:List Bool)(b5:V)(g:D->List Bool)(es:List D):List.map id (List.filter (Cw st b5) (hf (es.map g)))=hf ((es.filter fun d=>o7 st b5 (g d)).map g):=by
 rw[List.map_id]
 unfold hf
 rw[gE,gE,List.filter_map,show(Cw st b5 ∘ ((fun r=>V.str (aP r)) ∘ g))=fun d=>o7 st b5 (g d)from funext fun d=>Lk st b5 (g d)]
inductive QM(C:af)(c:eQ)(n:Nat)(vs:List V)(H:aq)(Q:bJ)(E:cN):Prop where
 |mk (s ak cm l:af) (m:Int) (g:ba) (es:List D) (st:List Bool) (b5:V) (bg:vs=[.ref s,.str (aP st),b5]) (ai:xh H s C ak cm m l (es.map (bf bW g))) (aj:cd c [] H g cm) (bE:lJ hasAll g) (cQ:aM g<=n) (eN:(∀d,d∈es->bw bV g d=ah/\(bf bW g d).length<=15000000)) (jj:es.length<=60) (nt:(b5=.aT\/∃e,b5=.str (aP e))) (nu:∀r ws H',Ext H H'->H' r=J (.lst ws)->bh H' (es.filter fun d=>o7 st b5 (bf bW g d)) ws->Q (.ref r) H'):QM C c n vs H Q E
def QL(C:af)(c:eQ)(n:Nat):cD:=fun vs H Q E=>QM C c n vs H Q E
theorem TK(nb:dT mg)(T:xi K C)(F:dG K "told" "Shelf.told" Ap f fd)(DN:bq P w K mg base (2*n+6) "read_all" ["form","signs"] (Qr hasAll bV bW c n)):de P w K mg base dv (2*n+7) f fd ["self","start","end"] (QL C c n):=by
 refine F.fK Kt (fun bx A _ s H vs Q E ax h=>?_)
 obtain⟨p,ak,cm,l,m,g,es,st,b5,rfl,⟨aY,aD⟩,dr,aL,di,B9,aW,ab0,q⟩:=h
 refine⟨_,(aI (sN (i:=3)  ["row"] [(1,"start"),(2,"end")] Kt.bo I I I (by decide+kernel) ⟨I,.inl I,I,.inl I,trivial⟩ (h0 (ed (ab 0) I)) (fun _ _ _ _ _=>(d7 (i:=0) (show(["row","start","end"]:List ae).Nodup by decide+kernel))) (fun _ _ _ _ _=>(F0 (gc.pt (oq (b0 O6 (ab 1) (ab 0)) (od (gc.pt (j6 (b0 xI (ab 2) qv) (lq (b0 jm (ab 0) (ab 2)))))))))) (fun _ _ _ _ _=>(ab 0)))
  (aR (bB (ik ["row"] [(0,"self")] rfl (by decide+kernel) ⟨rfl,.inl rfl,trivial⟩ (h0 (ab 3)) (fun _ _ _ _ _=>(d7 (i:=0) (show(["row","self"]:List ae).Nodup by decide+kernel))) (fun _ _ _ _ _=>hu) (fun _ _ _ _ _=>(b6 DN ax (al (ed (ab 1) rfl) (al (ab 0) aB)) (hk:=by omega))))))),?_⟩
 try dsimp only[c4,c5,c6,c7]
 refine fT fun N b3 =>.inl ⟨_,I,p,C,ak,_,_,I,aY,T.cl,T.wh,CY ..,l,I,⟨_,bb aD⟩,fun cW d8=>?_⟩
 refine Xq (K:=K) (a:=l) (xs:=hf (es.map (bf bW g))) (Cw st b5) id (fun U=>∃z,U=[z,J (.str (aP st)),J b5]) (by rw[vj,cw];exact jn (by omega)) ⟨_,I⟩ d8 (bb aD) ?_ ?_
 ·rintro x ao bL H1 ⟨z,rfl⟩ er R R' b1
  obtain⟨r,HQ,rfl⟩:=List.mem_map.mp ao
  have b1:=b1 [J (.str (aP r)),J (.str (aP st)),J b5] ⟨_,rfl⟩
  rw[Lk]at b1
  refine⟨_,I,_,I,.inr ⟨_,_,I,I,_,I,?_⟩⟩
  have aS:o7 st b5 r=(!decide ((aP r).cps.toList<(aP st).cps.toList)&&tc r b5):=rfl
  cases ai:(!decide ((aP r).cps.toList<(aP st).cps.toList))with
  |false =>
   rw[aS,ai,Bool.false_and,if_neg (by decide)]at b1
   exact dW (dW b1)
  | true =>
   rw[aS,ai,Bool.true_and]at b1
   refine e3 ?_
   rcases ab0 with rfl|⟨e,rfl⟩
   ·rw[show tc r V.aT=ah from rfl,if_pos rfl]at b1
    exact⟨_,I,I,_,I,iK I (e3 ⟨_,I,b1⟩)⟩
   ·refine⟨_,I,I,_,I,fx (fun z=>nomatch z) ⟨_,I,_,I,.inr ⟨_,_,I,I,_,I,?_⟩⟩⟩
    have aV:tc r (V.str (aP e))=decide ((aP r).cps.toList<(aP e).cps.toList):=rfl
    rw[aV]at b1
    cases aj:decide ((aP r).cps.toList<(aP e).cps.toList)with
    |false =>
     rw[aj,if_neg (by decide)]at b1
     exact dW b1
    |true =>
     rw[aj,if_pos rfl]at b1
     exact e3 ⟨_,I,b1⟩
 rw[XQ]
 obtain⟨fi,jE⟩:∃fi,fi=es.filter fun d=>o7 st b5 (bf bW g d):=⟨_,rfl⟩
 rw[<-jE]at q ⊢
 have Ca:∀d,d∈fi->bw bV g d=ah/\(bf bW g d).length<=15000000:=fun d hd=>B9 d (by rw[jE]at hd;exact(List.mem_filter.mp hd).1)
 have Cb:fi.length<=60:=by rw[jE];exact dE (List.length_filter_le ..) aW
 have lW:Ext H (upd H cW (.lst (hf (fi.map (bf bW g))))):=Ext.lst d8
 have Gw:upd H cW (.lst (hf (fi.map (bf bW g)))) cW=J (.lst (hf (fi.map (bf bW g)))):=aG
 generalize upd H cW (.lst (hf (fi.map (bf bW g))))=H1 at lW Gw ⊢
 refine b3 _ _ (.inl ⟨_,I,cW,I,⟨_,bb Gw⟩,fun hr gS=>?_⟩)
 refine uU (K:=K) (a:=cW) (xs:=hf (fi.map (bf bW g))) (fun i aA av=>Ext H1 av/\bP (⟨fun a=>a=hr⟩:fU) av (fi.take i) aA) (fun U=>∃z,U=[z,J (.ref p)]) (by rw[vj,cw];omega) ⟨_,I⟩ ?_ ⟨Ext.lst gS,I⟩ ?_ ?_
 ·rintro i aA av ⟨iS,_⟩
  exact bb (iS.s _ _ Gw)
 ·rintro i x ao aA bL av ⟨z,rfl⟩ ⟨iS,dV⟩ kA _ R b1
  obtain⟨d,hd,rfl⟩:∃d,fi[i]?=J d/\x=V.str (aP (bf bW g d)):=by
   rw[eL,eL]at ao
   cases e:fi[i]? with
   |none=>rw[e]at ao;cases ao
   |some d=>rw[e]at ao;exact⟨d,I,(e8 ao).symm⟩
  obtain⟨f1,f2⟩:=Ca d (fE hd)
  have J5:=lW.trans iS
  refine⟨_,I,p,C,ak,_,_,I,J5.s _ _ aY,T.cl,T.kZ,Pr ..,_,I,cm,g,d,I,cd.keep (fun b u _ e=>J5.s b u e) g dr,aL,di,f2,f1,fun v bQ nd br=>?_⟩
  have nw:=nd.s _ _ kA
  refine b1 _ _ _ ⟨_,I⟩ nw ⟨Ext.set gS (iS.trans nd) nw,?_⟩
  have iY:fi.take (i+1)=fi.take i++[d]:=by rw[jy,hd];rfl
  rw[iY]
  have k:∀b u,b∉(⟨fun a=>a=hr⟩:fU)->bQ b=J u->upd bQ hr (.lst (aA++[v])) b=J u:=fun b u nb e=>by
   rw[bK fun z=>nb z];exact e
  exact bP.snoc (c8.keep k _ (c8.weak (X:=(⟨fun a=>a=hr⟩:fU)) (Y:=fU.of av) (fun x ao=>by rw[show x=hr from ao];exact⟨_,kA⟩) _ br)) _ (bP.keep k _ (bP.keep (fun b u _ e=>nd.s b u e) _ dV))
 rintro aA av kh abv ⟨iS,dV⟩
 rw[vj,cw,List.take_length]at dV
 exact⟨_,(lW.trans iS).sub,q hr aA av (lW.trans iS) abv (bP.at _ dV)⟩
inductive Qu(vs:List V)(H:aq)(Q:bJ)(E:cN):Prop where
 |mk (p:af) (X:List af) (bg:vs=[.ref p]) (ai:m5 p H) (aj:p∈X) (bE:mi X H) (cQ:∀v H' ns fs,d2 p H H'->2<=fs.length->En X H' (.two 0 ns fs) v 4 45->Q v H'):Qu  vs H Q E
def Qt:cD:=fun vs H Q E=>Qu  vs H Q E
theorem Wk(nb:dT mg)(F:d1 K mg "_law_record" ER ["_law_pool_here"] f fd)(ig:bq P w K mg base 1 "_law_next" ["_law_pool_here"] za)(p8:bq P w K mg base 1 "_law_names" ["_law_cell","_law_many"] C3)(uy:bq P w K mg base 6 "_law_form" ["_law_pool_here","_law_deep"] (C0 3)):bq P w K mg base 7 "_law_record" ["_law_pool_here"] Qt:=by
 refine F.eO w7 (fun bx A _ s H vs Q E ax h=>?_)
 obtain⟨p,X,rfl,cG,eB,dJ,q⟩:=h
 refine⟨_,(aI (bO 1 w7.bo (b6 ig ax (al (ab 0) aB) (hk:=by omega)))
  (aI (bO 2 w7.bo (b6 p8 ax (al (b6 ig ax (al (ab 0) aB) (hk:=by omega)) (al (aN eb aC (aN dI (ab 1) aC)) aB)) (hk:=by omega)))
  (aI (bO 3 w7.bo (h6 aB))
  (aI (kK h2.never rfl (lY rfl nb.k4 (al (b9 du rfl nb.dn dq (al (ab 2) aB)) aB)) (d7 (i:=4) w7.bo rfl (by exact Or.inl I))
   (aR (iW (hV PySem.F.plainAttrs_list PySem.F.slot_list_append PySem.F.type_list_append qo (ab 3) (al (jf (al (bG bH (ab 2) (ab 4)) (al (b6 uy ax (al (ab 0) (al (aN k0 (aN dI (aN hh (ab 1) aC) aC) (mw qc rfl nb.nH nh (al (fO c2 (ab 4) (aN dI (aN hh (ab 1) aC) (b9 du rfl nb.dn dq (al (ab 2) aB)))) aB))) aB)) (hk:=by omega)) aB))) aB)))))
  (aR (bB (jf (al cT (al (ab 3) aB))))))))),?_⟩
 try dsimp only[c4,c5,c6,c7]
 refine fT fun N b3=>⟨_,I,p,I,cG,fun c eC l7=>b3 _ _ ?_⟩
 have cx:=d2.pop cG l7
 generalize upd H p (.lst (eC.map V.int))=H1 at cx ⊢
 obtain⟨yK,ajr,aau⟩:=iD c 3 (by decide)
 have aiX:c%3=((yK:Nat):Int):=aau
 obtain⟨iw,ajt⟩:∃iw,iw=yK+2:=⟨_,rfl⟩
 have aV:(2:Int)+c%3=((iw:Nat):Int):=by omega
 refine fT fun N b3=>⟨_,I,p,I,cx.l,fun f6 dc kg=>⟨_,I,_,_,I,I,(by show(0:Int)<3;decide),.inl ⟨_,_,I,I,f6,iw,by dsimp only;rw[aV];rfl,by omega,by omega,fun D ns dB i2 gr=>b3 _ _ ?_⟩⟩⟩
 have eh:=cx.trans (d2.pop cx.l kg)
 have fM:=eh.ext (Ext.lst (xs:=ns.map V.str) dB)
 refine fT fun N b3=>⟨UF _,fun l aD=>b3 _ _ ?_⟩
 have w0:=Ext.lst (xs:=[]) aD
 have kq:=fM.ext w0
 have lG:H l=aw:=fM.free aD
 have vy:H D=aw:=eh.free dB
 have nC:l≠p:=fM.ne aD
 have G5:D≠l:=fun z=>by rw[<-z,aG]at aD;cases aD
 have rW:l∉X:=fun z=>by obtain⟨y,aU⟩:=dJ l z;rw[lG]at aU;cases aU
 have vz:D∉l::X:=fun z=>by
  rcases c9.mp z with z|z
  .exact G5 z
  .obtain⟨y,aU⟩:=dJ D z;rw[vy]at aU;cases aU
 have iZ:upd (upd (upd H1 p (.lst (dc.map V.int))) D (.lst (ns.map V.str))) l (.lst []) D=J (.lst (ns.map V.str)):=w0.s _ _ aG
 have ti:=aG (H:=upd (upd H1 p (.lst (dc.map V.int))) D (.lst (ns.map V.str))) (a:=l) (o:=df.lst [])
 generalize upd (upd (upd H1 p (.lst (dc.map V.int))) D (.lst (ns.map V.str))) l (.lst [])=fZ at kq iZ ti ⊢
 obtain⟨dY,HC,GB⟩:=iD (c/9) iw (by omega)
 obtain⟨s7,pS,aal⟩:=iD (c/3) 3 (by decide)
 have aak:c/3%3=((s7:Nat):Int):=aal
 have yH:(ns.map V.str).length=iw:=by rw[cw];exact i2
 refine fT fun N b3=>⟨_,I,_,_,I,.inl ⟨_,bb iZ,I⟩,_,I,by rw[yH];omega,by rw[yH];omega,?_⟩
 rw[yH]
 have b5:(((iw:Nat):Int)).toNat=iw:=by omega
 rw[b5]
 refine pC (fun i U av=>d2 p H av/\mi (l::X) av/\av D=J (.lst (ns.map V.str))/\∃fs vs z,U=[J (.ref p),J (.int c),J (.ref D),J (.ref l),z]/\w4 X l 3 (i+if dY<i then 40 else 0) av ns i fs vs) ?_ ?_ ?_
 ·refine⟨kq,?_,iZ,[],[],aw,I,⟨ti,by rw[List.take_zero,hy];rfl,rfl,by rw[gU];trivial,by rw[f7];omega,by rw[j0];omega⟩⟩
  intro x ao
  rcases c9.mp ao with z|z
  .subst z;exact⟨_,ti⟩
  .exact(dJ.grow kq) x z
 ·rintro i U av ay ⟨g2,lD,gS,fs,vs,z,rfl,aa⟩
  have gi:i<ns.length:=by omega
  have ym:ns[i]?=J ns[i]:=cp gi
  have jk:ey (ns.map V.str) (0+((i:Nat):Int))=J (.str ns[i]):=by rw[Int.zero_add];exact cB (by rw[eL,ym];rfl)
  refine⟨_,I,.inl ⟨I,_,bb aa.ls⟩,_,I,_,I,.inl (.inl ⟨_,_,_,_,I,I,bb gS,jk,?_⟩)⟩
  refine⟨_,I,_,I,_,_,I,I,⟨by decide,by decide⟩,_,_,rfl,rfl,(by show(0:Int)<3;decide),?_⟩
  refine⟨_,I,_,I,_,_,I,I,⟨by decide,by decide⟩,_,rfl,_,_,rfl,.inl ⟨_,bb gS,rfl⟩,_,_,rfl,rfl,(by rw[yH];omega),rfl,.inl (.inr ⟨_,rfl,?_⟩)⟩
  rw[yH]
  have GA:decide (V.int (0+((i:Nat):Int))=V.int (c/9%((iw:Nat):Int)))=decide (i=dY):=by
   rw[GB];exact decide_eq_decide.mpr ⟨fun h=>by have:=V.int.inj h;omega,fun h=>by rw[h,Int.zero_add]⟩
  rw[GA]
  obtain⟨kz,Ho,ev,Hp⟩:∃kz:Nat,kz<3/\(c/3%3)*(if decide (i=dY)=ah then 1 else 0)=((kz:Nat):Int)/\(kz=if i=dY then s7 else 0):=⟨if i=dY then s7 else 0,by split<;>omega,by rw[aak];by_cases z:i=dY<;>simp only[z,decide_true,decide_false,if_true,if_false]<;>simp,rfl⟩
  refine .inl ⟨_,_,I,I,.inr (by split<;>exact⟨by decide,by decide⟩),p,kz,l::X,(by rw[<-ev];rfl),Ho,g2.l,en _ eB,lD,fun part bQ abl g3 HO=>⟨lp,fun T bZ=>?_⟩⟩
  have l6:bQ l=J (.lst vs):=g3.k _ _ nC aa.ls
  have pq:=Ext.tup (xs:=[V.str ns[i],part]) bZ
  have cM:vs.length=i:=by
   rw[bh.len _ (bP.at _ aa.ds),pw,aa.ln]
  refine⟨l,_,_,I,I,pq.s _ _ l6,(by rw[cM];exact fB (show i<100000 by omega) (by decide)),?_⟩
  obtain⟨h3,uE,i5⟩:=aa.step lD eB nC g3 HO (by omega) bZ ym (by have:=(lX gr).2 _ (List.getElem_mem gi);omega)
  refine⟨((g2.trans g3).ext pq).set lG (pq.s _ _ l6) nC,uE,i5 _ _ vz (g3.k _ _ (fun z=>vz (by rw[z];exact en _ eB)) gS),_,_,_,I,⟨h3.ls,h3.ds,h3.ln,h3.ok,h3.aM,?_⟩⟩
  refine dE h3.dD ?_
  rw[Hp]
  by_cases z:i=dY
  .rw[if_pos z,if_neg (by omega),if_pos (by omega)];omega
  ·rw[if_neg z]
   by_cases cL:dY<i
   .rw[if_pos cL,if_pos (by omega)];omega
   .rw[if_neg cL];omega
 ·rintro U av ⟨g2,lD,gS,fs,vs,z,rfl,aa⟩
  refine b3 _ _ ⟨_,I,lp,fun T bZ=>?_⟩
  have sy:=Ext.tup (xs:=[V.str (sk 0),V.ref l]) bZ
  have oy:=g2.ext sy
  have Iv:ns.take iw=ns:=UV (by omega)
  have dV:=aa.ds
  rw[Iv]at dV
  have jl:vs.length=iw:=by rw[bh.len _ (bP.at _ aa.ds),pw,aa.ln]
  have hA:T∉X:=(dJ.grow oy).no aG
  refine⟨_,oy.sub,q _ _ ns fs oy (by rw[aa.ln];omega) ⟨?_,?_,?_,?_⟩⟩
  ·rw[ep]
   exact⟨T,_,I,hA,aG,⟨_,_,I,⟨I,Ma 0⟩,_,_,I,⟨l,vs,I,rW,sy.s _ _ aa.ls,bP.weak (fun y aU=>en _ aU) _ (bP.same sy.s dV),by omega⟩,rfl⟩,by simp⟩
  .rw[eJ];exact⟨gr,by rw[aa.ln,i2],aa.ok⟩
  .rw[aM];have:=aa.aM;omega
  ·rw[dD]
   have:=aa.dD
   rw[if_pos HC]at this
   omega
theorem AX:∀(B:List Nat)(n:Nat),((List.range n).map fun i=>B.getD i 0).sum<=B.sum
 |_,0=>UF _
 | [],n+1=>by
  have:∀l:List Nat,(l.map fun i=>([]:List Nat).getD i 0).sum=0:=fun l=>by
   induction l with
   |nil=>rfl
   |cons a l bT=>rw[fD,List.sum_cons,bT];rfl
  rw[this];exact UF _
 |b::B,n+1=>by
  rw[List.range_succ_eq_map,fD,List.sum_cons,gE,List.sum_cons]
  exact Nat.add_le_add_left (AX B n) b
theorem Mb(f g:Nat->Nat):∀l:List Nat,(l.map fun i=>f i+g i).sum=(l.map f).sum+(l.map g).sum
 |[]=>rfl
 |a::l=>by rw[fD,fD,fD,List.sum_cons,List.sum_cons,List.sum_cons,Mb f g l];omega
theorem FE(f g:Nat->Nat):∀l:List Nat,(∀i,i∈l->f i<=g i)->(l.map f).sum<=(l.map g).sum
 |[],_=>b8 _
 |a::l,h=>by
  rw[fD,fD,List.sum_cons,List.sum_cons]
  exact Nat.add_le_add (h a (gF ..)) (FE f g l fun i ay=>h i (en _ ay))
noncomputable abbrev yT(fs:List ba)(es:List D)(i:Nat):Nat:=(bf bW (fs.getD i (.bare 0)) (es.getD i .aT)).length
theorem FG(fs:List ba)(es:List D):(rowsOf bW fs es).flatten.length=((List.range es.length).map (yT fs es)).sum:=by
 unfold rowsOf
 rw[List.length_flatten,gE];rfl
structure hI(fs:List ba)(B:List Nat)(es:List D):Prop where
 l:es.length=fs.length
 f:∀i,i<es.length->bw bV (fs.getD i (.bare 0)) (es.getD i .aT)=ah
 b:∀i,i<es.length->yT fs es i<=B.getD i 0
 h:ei es<=5
theorem Lv(k:Nat)(l:List D)(h:ei l<=5):ei (l.take k)<=5:=by
 induction l generalizing k with
 |nil=>rw[List.take_nil];exact h
 | cons d l bT =>
  cases k with
  |zero=>rw[List.take_zero,ei];omega
  |succ k =>
   rw[List.take_succ_cons,ei]
   rw[ei]at h
   have:=bT k (by omega)
   omega
theorem hI.mix{fs:List ba}{a b:List D}(aJ:hI fs B a)(ag:hI fs B b)(hk:k<=fs.length):hI fs B (a.take k++b.drop k):=by
 have ajN:=aJ.l
 have OL:=ag.l
 have lt:(a.take k).length=k:=by rw[ht];omega
 have gl:∀i,i<k->(a.take k++b.drop k).getD i .aT=a.getD i .aT:=fun i ay=>by
  rw[dN,List.getElem?_append_left (by omega),List.getElem?_take,if_pos ay,<-dN]
 have Nt:∀i,k<=i->(a.take k++b.drop k).getD i .aT=b.getD i .aT:=fun i ay=>by
  rw[dN,List.getElem?_append_right (by omega),lt,List.getElem?_drop,show k+(i-k)=i by omega,<-dN]
 have adO:(a.take k++b.drop k).length=fs.length:=by rw[dX,lt,je];omega
 refine⟨adO,fun i ay=>?_,fun i ay=>?_,?_⟩
 ·rcases g4 i k with z|z
  .rw[gl i z];exact aJ.f i (by omega)
  .rw[Nt i z];exact ag.f i (by omega)
 ·show(bf _ _ _).length<=_
  rcases g4 i k with z|z
  .rw[gl i z];exact aJ.b i (by omega)
  .rw[Nt i z];exact ag.b i (by omega)
 ·have ai:=aJ.h
  have aj:=ag.h
  have ZU:∀(k:Nat)(l:List D),ei l<=5->ei (l.drop k)<=5:=fun k l h=>by
   induction l generalizing k with
   |nil=>rw[List.drop_nil];exact h
   | cons d l bT =>
    cases k with
    |zero=>exact h
    |succ k =>
     rw[ei]at h
     exact bT k (by omega)
  have ap:∀a b:List D,ei a<=5->ei b<=5->ei (a++b)<=5:=fun a b x y=>by
   induction a with
   |nil=>exact y
   |cons d l bT =>
    rw[List.cons_append,ei]
    rw[ei]at x
    have:=bT (by omega)
    omega
  exact ap _ _ (Lv k a ai) (ZU k b aj)
theorem hI.mono{fs:List ba}{JB:List Nat}(h:hI fs B es)(ag:∀i,i<fs.length->B.getD i 0<=JB.getD i 0):hI fs JB es:=⟨h.l,h.f,fun i ay=>dE (h.b i ay) (ag i (by have:=h.l;omega)),h.h⟩
noncomputable def rz(fs:List ba)(B:List Nat)(es:List D):List Nat:=(List.range fs.length).map fun i=>B.getD i 0+yT fs es i
theorem FU(fs:List ba)(B:List Nat)(es:List D)(h:i<fs.length):(rz fs B es).getD i 0=B.getD i 0+yT fs es i:=by
 unfold rz
 rw[dN,eL,List.getElem?_range h];rfl
theorem S6{fs:List ba}(B:List Nat)(h:es.length=fs.length):(rz fs B es).sum<=B.sum+(rowsOf bW fs es).flatten.length:=by
 unfold rz
 rw[Mb (fun i=>B.getD i 0) (yT fs es),FG,h]
 exact Nat.add_le_add_right (AX B _) _
theorem FZ{fs:List ba}(h:es.length=fs.length):bf bW (.two 0 ns fs) (.tup es)=(rowsOf bW fs es).flatten:=by
 rw[bf]
 show gk bW fs es=_
 exact Yi bW fs es h
theorem Tn{fs:List ba}{d:D}(h:bw bV (.two 0 ns fs) d=ah):∃es,d=.tup es/\ej bV fs es=ah:=by
 rw[bw,if_pos rfl]at h
 cases d with
 |tup es=>exact⟨es,I,h⟩
 |_=>cases h
theorem hI.all{fs:List ba}(h:hI fs B es):ej bV fs es=ah:=by
 have key:∀(fs:List ba)(es:List D),es.length=fs.length->(∀i,i<es.length->bw bV (fs.getD i (.bare 0)) (es.getD i .aT)=ah)->ej bV fs es=ah:=fun fs=>by
  induction fs with
  |nil =>
   intro es h _
   cases es with
   |nil=>rw[ej];rfl
   |cons e es=>cases h
  | cons f fs bT =>
   intro es h az
   cases es with
   |nil=>cases h
   |cons e es =>
    rw[ej]
    show(bw bV f e&&ej bV fs es)=ah
    rw[gZ]
    exact⟨az 0 (Nat.zero_lt_succ _),bT es (by simpa using h) fun i ay=>az (i+1) (Nat.succ_lt_succ ay)⟩
 exact key _ _ h.l h.f
theorem bP.cut{α:Type}[Membership af α]{X:α}{H:aq}:∀(ds:List D){vs:List V}(k:Nat),bP X H ds vs->bP X H (ds.take k) (vs.take k)/\bP X H (ds.drop k) (vs.drop k)
 |[],vs,k,h=>by
  obtain rfl:vs=[]:=h
  rw[List.take_nil,List.drop_nil,List.take_nil,List.drop_nil]
  exact⟨I,I⟩
 |d::ds,vs,0,h=>⟨rfl,h⟩
 |d::ds,vs,k+1,h=>by
  obtain⟨v,r,rfl,q,bX⟩:=h
  obtain⟨a,b⟩:=bP.cut ds k bX
  exact⟨⟨v,r.take k,I,q,a⟩,b⟩
theorem bP.app{α:Type}[Membership af α]{X:α}{H:aq}:∀(ds:List D){vs us:List V}{es:List D},bP X H ds vs->bP X H es us->bP X H (ds++es) (vs++us)
 |[],vs,us,es,h,aj=>by
  obtain rfl:vs=[]:=h
  exact aj
 |d::ds,vs,us,es,h,aj=>by
  obtain⟨v,r,rfl,q,bX⟩:=h
  exact⟨v,r++us,I,q,bP.app ds bX aj⟩
theorem bP.at2{α:Type}[Membership af α]{X:α}{H:aq}:∀(ds:List D){vs:List V}{i:Nat}{v:V},bP X H ds vs->vs[i]?=J v->∃d,ds[i]?=J d/\c8 X H d v
 |[],vs,i,v,h,e=>by
  obtain rfl:vs=[]:=h
  cases e
 |d::ds,vs,i,v,h,e=>by
  obtain⟨hp,r,rfl,q,bX⟩:=h
  cases i with
  |zero=>cases e;exact⟨d,I,q⟩
  |succ i=>exact bP.at2 ds bX e
theorem Gg(l:List V)(n:Nat):kx l aw (J (n:Int))=l.take n:=by
 unfold kx cA.cV
 dsimp only
 rw[if_neg (by omega),List.drop_zero,Nat.sub_zero,Int.toNat_natCast]
 rcases g4 n l.length with z|z
 .rw[Nat.min_eq_left (by omega)]
 .rw[Nat.min_eq_right z,List.take_length,UV z]
theorem SV(xs:List V)(k:Nat)(h:k<=xs.length):kx xs (J ((k:Nat):Int)) aw=xs.drop k:=by
 unfold kx
 rw[cA.o3,cA.wo,Nat.min_eq_left h]
 exact UV (by rw[je];exact b8 _)
structure SG(p L:af)(X:List af)(fs:List ba)(H:aq)(i:Nat)(ws:List V)(ds:List D)(B:List Nat):Prop where
 e:H L=J (.lst ws)
 d:bP (L::X) H ds ws
 n:ds.length=i
 b:B.sum+150000*pl H p<=13500000+14000*i
 v:∀d,d∈ds->∃es,d=.tup es/\hI fs B es
inductive QT(vs:List V)(H:aq)(Q:bJ)(E:cN):Prop where
 |mk (p:af) (e6:V) (ns:List ae) (fs:List ba) (X:List af) (bg:vs=[.ref p,e6]) (ai:p∈X) (aj:m5 p H) (bE:js X H) (cQ:c8 X H (ep (.two 0 ns fs)) e6) (eN:eJ (.two 0 ns fs)) (jj:aM (.two 0 ns fs)<=4) (nt:dD (.two 0 ns fs)<=45) (nu:2<=fs.length) (oA:∀L ws ds B H',d2 p H H'->H L=aw->H' L=J (.lst ws)->bP (L::X) H' ds ws->ds.length=9->B.sum<=14000000->(∀d,d∈ds->∃es,d=.tup es/\hI fs B es)->Q (.ref L) H'):QT  vs H Q E
def QS:cD:=fun vs H Q E=>QT  vs H Q E
set_option maxHeartbeats 2000000 in
theorem Wh(nb:dT mg)(F:d1 K mg "_law_values" EM ["_law_pool_here","_law_form_here"] f fd)(ig:bq P w K mg base 1 "_law_next" ["_law_pool_here"] wy)(p9:bq P w K mg base 7 "_law_value" ["_law_pool_here","_law_form_here"] (C7 4)):bq P w K mg base 8 "_law_values" ["_law_pool_here","_law_form_here"] QS:=by
 refine F.eO rm (fun bx A _ s H vs Q E ax h=>?_)
 obtain⟨p,e6,ns,fs,X,rfl,eB,cG,dJ,oJ,aL,di,gy,N2,q⟩:=h
 refine⟨_,(aI (bO 2 rm.bo (h6 aB))
  (aI (kK h2.never rfl (lY rfl nb.k4 (al aC aB)) (d7 (i:=3) rm.bo rfl (by exact Or.inl I))
   (aI (bO 4 rm.bo (b6 p9 ax (al (ab 0) (al (ab 1) aB)) (hk:=by omega)))
   (aI (bO 5 rm.bo (b6 ig ax (al (ab 0) aB) (hk:=by omega)))
   (aI (cE (gc.pt (oq (b0 jG (b9 du rfl nb.dn dq (al (ab 2) aB)) aC) (od (b0 jG (aN dI (ab 5) aC) aC)))) (aI (bO 6 rm.bo (bG bH (ab 2) (aN dI (aN hh (ab 5) aC) (b9 du rfl nb.dn dq (al (ab 2) aB)))))
    (aI (bO 7 rm.bo (aN dI (aN hh (ab 5) aC) (b9 du rfl nb.dn dq (al (ab 6) aB))))
    (aR (bO 4 rm.bo (aN (dQ.or TH eb) (lA t9 (ab 6) mu (kv (ab 7))) (lA t9 (ab 4) (kv (ab 7)) mu)))))) cF)
   (aR (iW (hV PySem.F.plainAttrs_list PySem.F.slot_list_append PySem.F.type_list_append qo (ab 2) (al (ab 4) aB))))))))
  (aR (bB (ab 2))))),?_⟩
 try dsimp only[c4,c5,c6,c7]
 refine fT fun N b3=>⟨UF _,fun L hY=>b3 _ _ ?_⟩
 have B0:L≠p:=fun z=>by obtain⟨n,e,_⟩:=cG;rw[<-z,hY]at e;cases e
 have Ck:p∈L::X:=en _ eB
 have SH:Ext H (upd H L (.lst [])):=Ext.lst hY
 have Sg:d2 p H (upd H L (.lst [])):=(d2.refl cG).ext SH
 have yl:pl H p<=90:=by obtain⟨n,e,aW⟩:=cG;rw[s3 e,cw];exact aW
 have abQ:c8 (L::X) H (ep (.two 0 ns fs)) e6:=c8.add hY _ oJ
 have ac0:∀{es:List D}{k:Nat},eH (.tup es)<=k+1->ei es<=k:=fun{es k}h=>by rw[eH]at h;omega
 refine fT fun N b3=>⟨_,I,by decide,by decide,?_⟩
 refine pC (fun i U av=>∃ws ds B fL mU pe pf wL,U=[J (.ref p),J e6,J (.ref L),fL,mU,pe,pf,wL]/\d2 p H av/\SG p L X fs av i ws ds B) ?_ ?_ ?_
 .exact⟨[],[],[],_,_,_,_,_,I,Sg,aG,I,I,by rw[vk B0];show 0+_<=_;omega,fun d hd=>nomatch hd⟩
 ·rintro i U av ay ⟨ws,ds,B,fL,mU,pe,pf,wL,rfl,eh,aa⟩
  have ajl:i<9:=ay
  have NO:∀{H':aq},d2 p av H'->js (L::X) H':=fun{H'}G=>(js.add (dJ.grow eh) aa.e).grow G
  refine fT fun N b3=>⟨_,I,_,I,p,e6,_,L::X,I,Ck,eh.l,NO (d2.refl eh.l),c8.grow Ck eh abQ,aL,by omega,by omega,fun v iH bQ fM oK iq i1 l8=>b3 _ _ ?_⟩
  obtain⟨es,rfl,jE⟩:=Tn iq
  obtain⟨le,hz⟩:=vd jE
  rw[FZ le]at l8
  obtain⟨T,us,rfl,hA,ez,Ox,kX⟩:=oK
  have ajS:=bh.len es (bP.at es Ox)
  have Dk:hI fs (rz fs B es) es:=⟨le,fun j b2=>by
   have aS:fs[j]?=J (fs.getD j (.bare 0)):=by rw[dN,cp (by omega)];rfl
   have aV:es[j]?=J (es.getD j .aT):=by rw[dN,cp b2];rfl
   exact hz j _ _ aS aV,fun j b2=>by rw[FU fs B es (by omega)];omega,by have:=ac0 (es:=es) (k:=4) (by omega);omega⟩
  refine fT fun N b3=>⟨_,I,p,I,fM.l,fun c eC l7 hc=>b3 _ _ ?_⟩
  have kq:=d2.pop fM.l l7
  have Cj:pl (upd bQ p (.lst (eC.map V.int))) p<=pl bQ p:=by
   rw[s3 aG,cw]
   rcases hc with z|⟨cP,cL,_⟩
   .omega
   .rw[cL];exact UF _
  generalize upd bQ p (.lst (eC.map V.int))=fZ at kq Cj ⊢
  have zx:=fM.trans kq
  have Sh:=eh.trans zx
  have iL:∀{b u},b∉L::X->bQ b=J u->fZ b=J u:=fun{b u}nb e=>kq.k _ _ (fun z=>nb (by rw[z];exact Ck)) e
  have vo:=iL hA ez
  have Cr:bP (L::X) fZ es us:=bP.keep (fun b u nb e=>iL nb e) _ Ox
  have vH:bP (L::X) fZ ds ws:=bP.keep (fun b u nb e=>zx.k _ _ (fun z=>nb (by rw[z];exact Ck)) e) _ aa.d
  have BH:fZ L=J (.lst ws):=zx.k _ _ B0 aa.e
  have tF:ws.length=i:=by rw[bh.len ds (bP.at ds vH)];exact aa.n
  refine fT fun N b3=>?_
  have ck:∀(eR:af)(zj:List V)(ov:List D)(fm:aq)(pf wL:Option V),Ext fZ fm->eR∉L::X->fm eR=J (.tup zj)->bP (L::X) fm ov zj->zj.length<=1000->hI fs (rz fs B es) ov->N [J (.ref p),J e6,J (.ref L),J (.int (0+((i:Nat):Int))),J (.ref eR),J (.int c),pf,wL] fm:=fun eR zj ov fm pf wL jz kE mz tr rV qQ=>by
   refine b3 _ _ ?_
   have ta:=jz.s _ _ BH
   refine⟨_,I,.inl ⟨I,_,bb ta⟩,_,I,L,_,_,I,I,ta,by rw[tF];exact fB (show i<100000 by omega) (by decide),?_⟩
   have OI:∀b u,b∉L::X->fm b=J u->upd fm L (.lst (ws++[V.ref eR])) b=J u:=fun b u nb e=>by
    rw[bK fun z=>nb (by rw[z];exact gF ..)];exact e
   have B6:c8 (L::X) fm (.tup ov) (.ref eR):=⟨eR,zj,rfl,kE,mz,tr,rV⟩
   refine⟨_,ds++[.tup ov],rz fs B es,_,_,_,_,_,I,(Sh.ext jz).set hY ta B0,aG,bP.snoc (c8.keep OI _ B6) _ (bP.keep OI _ (bP.same jz.s vH)),by rw[dX,aa.n];rfl,?_,fun d hd=>?_⟩
   ·rw[vk B0,qu jz kq.l]
    have ai:=S6 (fs:=fs) B le
    have aj:=aa.b
    obtain⟨bE,cQ⟩:=l8
    have eN:300*dD (.two 0 ns fs)<=300*45:=Nat.mul_le_mul_left _ gy
    omega
   ·rcases List.mem_append.mp hd with z|z
    ·obtain⟨e,he,br⟩:=aa.v d z
     exact⟨e,he,br.mono fun j b2=>by rw[FU fs B es b2];omega⟩
    .rw[d5.mp z];exact⟨ov,I,qQ⟩
  have keep:=ck T us es fZ
  refine⟨_,I,_,_,I,.inl ⟨_,bb BH,I⟩,_,_,I,I,_,I,e2 (fun fu=>?_) (fun fu=>dW (keep _ _ (Ext.refl _) hA vo Cr kX Dk))⟩
  refine⟨_,I,_,_,I,I,(by show(0:Int)<3;decide),_,_,I,I,_,I,e2 (fun f6=>?_) (fun f6=>keep _ _ (Ext.refl _) hA vo Cr kX Dk)⟩
  have OA:0<ws.length:=by omega
  obtain⟨j,b2,hK⟩:=iD (c/3) ws.length OA
  have OB:ws[j]?=J ws[j]:=cp b2
  obtain⟨hj,i0,mO⟩:=bP.at2 ds vH OB
  obtain⟨qB,rfl,hM⟩:=aa.v hj (fE i0)
  obtain⟨kN,ja,aaK,ajW,xS,Oy,mN⟩:=mO
  have OO:=bh.len qB (bP.at qB Oy)
  have hM:hI fs (rz fs B es) qB:=hM.mono fun j b2=>by rw[FU fs B es b2];omega
  have cq:=hM.l
  refine fT fun Sn Hb=>⟨_,I,_,I,_,_,I,I,⟨by decide,by decide⟩,_,rfl,_,_,rfl,.inl ⟨_,bb BH,rfl⟩,_,_,rfl,rfl,(by omega),.inl (.inl ⟨L,ws,_,V.ref kN,rfl,rfl,bb BH,by rw[hK,<-aaK];exact cB OB,Hb _ _ ?_⟩)⟩
  obtain⟨k,hk,kU⟩:=iD (c/30) ja.length (by omega)
  refine fT fun Sn Hb=>⟨_,I,_,_,I,I,⟨by decide,by decide⟩,_,rfl,_,_,rfl,.inr ⟨_,bI xS,rfl⟩,_,_,rfl,rfl,(by omega),Hb _ _ ?_⟩
  dsimp only
  rw[kU]
  have s0:∀{n m:Nat},m<=n->cA.cV n n (J ((m:Nat):Int))=m/\cA.cV n 0 (J ((m:Nat):Int))=m:=fun{n m}h=>⟨by rw[cA.o3];omega,by rw[cA.o3];omega⟩
  refine⟨_,I,_,I,_,I,.inl (.inl ⟨kN,ja,I,bI xS,fun z=>by have:=z.2;rw[(s0 (by omega)).1]at this;omega,fun kO nz=>?_⟩)⟩
  rw[Gg]
  have iS:=Ext.tup (xs:=ja.take k) nz
  have Gz:upd fZ kO (.tup (ja.take k)) kO=J (.tup (ja.take k)):=aG
  generalize upd fZ kO (.tup (ja.take k))=fm at iS Gz ⊢
  have rC:=iS.s _ _ vo
  have cR:(ja.take k).length=k:=by rw[ht];omega
  rcases Nat.eq_zero_or_pos k with rfl|ajL
  ·refine⟨_,I,_,I,_,I,.inl (.inr ⟨T,us,I,bI rC,(s0 (UF _)).2,by rw[cA.wo],?_⟩)⟩
   refine .inl ⟨kO,T,_,us,I,I,bI Gz,bI rC,jn (by omega),fun _=>?_,fun z=>absurd (by rw[List.take_zero]) z,fun z=>absurd (by rw[List.take_zero]) z⟩
   exact ck T us es fm _ _ iS hA rC (bP.same iS.s Cr) kX Dk
  ·refine⟨_,I,_,I,_,I,.inl (.inl ⟨T,us,I,bI rC,fun z=>by have:=z.1;rw[(s0 (by omega)).2]at this;omega,fun uZ x8=>?_⟩)⟩
   rw[SV us k (by omega)]
   have nd:=Ext.tup (xs:=us.drop k) x8
   have xU:upd fm uZ (.tup (us.drop k)) uZ=J (.tup (us.drop k)):=aG
   generalize upd fm uZ (.tup (us.drop k))=d9 at nd xU ⊢
   have yE:(us.drop k).length=us.length-k:=je ..
   refine .inl ⟨kO,uZ,_,_,I,I,bI (nd.s _ _ Gz),bI xU,jn (by omega),fun z=>by rw[z]at cR;rw[List.length_nil]at cR;omega,fun _ z=>by rw[z]at yE;rw[List.length_nil]at yE;omega,fun _ _ z3 NN=>?_⟩
   have rj:=Ext.tup (xs:=ja.take k++us.drop k) NN
   have J6:=iS.trans (nd.trans rj)
   have aec:z3∉L::X:=(NO (zx.ext (iS.trans nd))).no NN
   refine ck z3 _ (qB.take k++es.drop k) _ _ _ J6 aec aG (bP.same J6.s (bP.app _ (bP.cut qB k Oy).1 (bP.cut es k Cr).2)) (by rw[dX,cR,yE];omega) (hM.mix Dk (by omega))
 ·rintro U av ⟨ws,ds,B,fL,mU,pe,pf,wL,rfl,eh,aa⟩
  refine b3 _ _ ⟨_,I,_,eh.sub,q L ws ds B av eh hY aa.e aa.d aa.n (by have:=aa.b;omega) aa.v⟩
structure z2(H:aq)(f:ba)(n:Nat)(ds:List D)(vs:List V):Prop where
 a:bh H ds vs
 t:∀d,d∈ds->bw bV f d=ah/\eH d<=50
 n:ds.length<=n
 s:(ds.map (bf bW f)).Pairwise jN
theorem bh.app{H:aq}:∀(ds:List D){vs us:List V}{es:List D},bh H ds vs->bh H es us->bh H (ds++es) (vs++us)
 |[],vs,us,es,h,aj=>by
  obtain rfl:vs=[]:=h
  exact aj
 |d::ds,vs,us,es,h,aj=>by
  obtain⟨v,r,rfl,q,bX⟩:=h
  exact⟨v,r++us,I,q,bh.app ds bX aj⟩
theorem bh.cut{H:aq}:∀(ds:List D){vs:List V}(k:Nat),bh H ds vs->bh H (ds.take k) (vs.take k)/\bh H (ds.drop k) (vs.drop k)
 |[],vs,k,h=>by
  obtain rfl:vs=[]:=h
  rw[List.take_nil,List.drop_nil,List.take_nil,List.drop_nil]
  exact⟨I,I⟩
 |d::ds,vs,0,h=>⟨rfl,h⟩
 |d::ds,vs,k+1,h=>by
  obtain⟨v,r,rfl,q,bX⟩:=h
  obtain⟨a,b⟩:=bh.cut ds k bX
  exact⟨⟨v,r.take k,I,q,a⟩,b⟩
theorem z2.ins{f:ba}{n:Nat}{x:D}(h:z2 H f n ds vs)(ok:eJ f)(ao:c3 H x v)(gI:bw bV f x=ah)(ak:eH x<=50)(ai:∀i y,i<k->ds[i]?=J y->cY f y x<0)(aj:∀y,ds[k]?=J y->¬cY f y x<0):z2 H f (n+1) (ds.take k++x::ds.drop k) (vs.take k++v::vs.drop k):=by
 obtain⟨a,b⟩:=bh.cut ds k h.a
 refine⟨bh.app _ a ⟨v,_,I,ao,b⟩,fun d hd=>?_,?_,?_⟩
 ·rcases List.mem_append.mp hd with z|z
  .exact h.t d (List.mem_of_mem_take z)
  ·rcases c9.mp z with rfl|z
   .exact⟨gI,ak⟩
   .exact h.t d (List.mem_of_mem_drop z)
 ·have:=h.n
  rw[dX,d6,ht,je]
  omega
 ·rw[fo,fD,List.map_take,List.map_drop]
  refine Tf h.s (fun y aU=>?_) (fun y aU=>?_)
  ·obtain⟨i,ay⟩:=List.getElem?_of_mem aU
   rw[List.getElem?_take]at ay
   split at ay
   ·rename_i adu
    rw[eL]at ay
    cases e:ds[i]? with
    |none=>rw[e]at ay;cases ay
    |some d =>
     rw[e]at ay
     obtain rfl:=e8 ay
     exact qt (rx f d x ok (h.t d (fE e)).1 gI (ai i d adu e))
   .cases ay
  ·rw[eL]at aU
   cases e:ds[k]? with
   |none=>rw[e]at aU;cases aU
   | some d =>
    rw[e]at aU
    obtain rfl:=e8 aU
    have fd:=(h.t d (fE e)).1
    have:=aj d e
    have S:=Std.of ok fd gI
    by_cases z:cY f d x=0
    ·rw[S.1 z]
     exact fun q=>List.lt_irrefl _ q
    .exact sW (S.2.2 (by omega))
theorem LY(l:List α)(k:Nat)(x:α):(l.take k++x::l.drop k).Perm (x::l):=by
 have:=List.perm_middle (a:=x) (l₁:=l.take k) (l₂:=l.drop k)
 rwa [List.take_append_drop]at this
theorem Mn{fs:List ba}{e6:V}(h:c3 H (ep (.two 0 ns fs)) e6):∃T mQ me w,e6=.ref T/\H T=J (.tup [.str w,.ref mQ])/\H mQ=J (.lst me)/\bh H (hy fs ns) me:=by
 rw[ep]at h
 obtain⟨T,us,rfl,ez,⟨w,r,rfl,⟨hw,_⟩,l,dZ,rfl,⟨mQ,me,rfl,gp,aY,_⟩,ax⟩,_⟩:=h
 obtain rfl:dZ=[]:=ax
 subst hw
 exact⟨T,mQ,me,_,I,ez,gp,aY⟩
theorem SO{fs:List ba}{me:List V}(aW:ns.length=fs.length)(h:bh H (hy fs ns) me)(ay:i<fs.length):∃T n v,ey me ((i:Nat):Int)=J (.ref T)/\H T=J (.tup [.str n,v])/\c3 H (ep (fs.getD i (.bare 0))) v:=by
 have aD:me.length=fs.length:=by rw[bh.len _ h,pw]
 have e:me[i]?=J me[i]:=cp (by omega)
 obtain⟨f,n,T,v,aS,aV,gh,_,jC,s8⟩:=rv fs ns aW (bh.ak _ h) e
 have iI:fs.getD i (.bare 0)=f:=by rw[dN,aS];rfl
 rw[iI]
 exact⟨T,n,v,by rw[<-gh];exact cB e,jC,c8.at _ s8⟩
theorem bh.item(h:bh H ds vs)(ay:i<ds.length):∃v,ey vs ((i:Nat):Int)=J v/\c3 H (ds.getD i .aT) v:=by
 have aD:=bh.len ds h
 have e:vs[i]?=J vs[i]:=cp (by omega)
 obtain⟨d,aS,aV⟩:=bh.get ds h e
 exact⟨_,cB e,by rw[dN,aS];exact aV⟩
theorem Lx{n:Nat}(h:ei ds<=n)(ay:i<ds.length):eH (ds.getD i .aT)<=n:=by
 rw[dN,cp ay]
 exact Mo h (cp ay)
structure JM(H:aq)(e6:V)(T lf dd gN:af)(ns:List ae)(fs:List ba)(es ds dl d4:List D):Prop where
 f:c3 H (ep (.two 0 ns fs)) e6
 o:eJ (.two 0 ns fs)
 h:aM (.two 0 ns fs)<=4
 ev:∃wv,H T=J (.tup wv)/\bh H es wv
 rE:∃wf,H lf=J (.lst wf)/\bh H ds wf
 gp:∃wl,H dd=J (.tup wl)/\bh H dl wl
 xW:∃jq,H gN=J (.tup jq)/\bh H d4 jq
 n:es.length=fs.length
 hz:∀i,i<es.length->bw bV (fs.getD i (.bare 0)) (es.getD i .aT)=ah
 eC:ds.length<fs.length
 fd:BN bV fs ds=ah
 dc:dl.length<=1
 CB:d4.length<=1
 fi:dl.all (ow bV fs ds)=ah
 ai0:d4.all (ow bV fs ds)=ah
 aiU:ei es<=5
theorem UH{fs:List ba}(ay:i<ds.length)(z:cY (fs.getD i (.bare 0)) (es.getD i .aT) (ds.getD i .aT)≠0):jF fs es ds dl d4=aF:=by
 unfold jF
 rw[Bool.and_eq_false_iff]
 left
 rw[<-Bool.not_eq_true]
 exact fun h=>z (hg (e9.mp h i (List.mem_range.mpr ay)))
theorem TY{fs:List ba}(h:∀j,j<ds.length->cY (fs.getD j (.bare 0)) (es.getD j .aT) (ds.getD j .aT)=0):jF fs es ds dl d4=(dl.all (fun x=>!decide (cY (fs.getD ds.length (.bare 0)) (es.getD ds.length .aT) x<0))&&d4.all (fun y=>decide (cY (fs.getD ds.length (.bare 0)) (es.getD ds.length .aT) y<0))):=by
 unfold jF
 have e:(List.range ds.length).all (fun i=>decide (cY (fs.getD i (.bare 0)) (es.getD i .aT) (ds.getD i .aT)=0))=ah:=e9.mpr fun i ay=>eu (h i (List.mem_range.mp ay))
 rw[e,Bool.true_and]
inductive PZ(vs:List V)(H:aq)(Q:bJ)(E:cN):Prop where
 |mk (e6:V) (T lf dd gN:af) (ns:List ae) (fs:List ba) (es ds dl d4:List D) (bg:vs=[e6,.ref T,.ref lf,.ref dd,.ref gN]) (ai:JM H e6 T lf dd gN ns fs es ds dl d4) (aj:Q (.aQ (jF fs es ds dl d4)) H):PZ  vs H Q E
def PY:cD:=fun vs H Q E=>PZ  vs H Q E
set_option maxHeartbeats 2000000 in
theorem Yu(nb:dT mg)(F:d1 K mg "_law_in" FF ["_law_form_here","_law_value_here","_law_first","_law_low","_law_high"] f fd)(lP:bq P w K mg base 12 "_law_order" ["_law_form_here","_law_one","_law_other"] (wz 4)):bq P w K mg base 13 "_law_in" ["_law_form_here","_law_value_here","_law_first","_law_low","_law_high"] PY:=by
 refine F.eO Fp (fun bx A _ s H vs Q E ax h=>?_)
 obtain⟨e6,T,lf,dd,gN,ns,fs,es,ds,dl,d4,rfl,⟨Cs,aL,di,⟨wv,ev,B9⟩,⟨wf,rE,dV⟩,⟨wl,gp,ip⟩,⟨jq,xW,i1⟩,aW,Ca,l7,ab4,kg,HH,jE,vK,NW⟩,q⟩:=h
 refine⟨_,(aI (kK h2.never I (lY I nb.k4 (al (b9 du I nb.dn dq (al (ab 2) aB)) aB)) (d7 (i:=5) Fp.bo I (by exact Or.inl rfl))
   (aR (cE (b0 qR (b6 lP ax (al (bG bH (bG bH (bG bH (ab 0) aC) (ab 5)) aC) (al (bG bH (ab 1) (ab 5)) (al (bG bH (ab 2) (ab 5)) aB))) (hk:=by omega)) aC) (aR (bB jO)) cF)))
  (aI (bO 6 Fp.bo (bG bH (bG bH (bG bH (ab 0) aC) (b9 du rfl nb.dn dq (al (ab 2) aB))) aC))
  (aI (cE (gc.pt (oq (b0 c2 (b9 du rfl nb.dn dq (al (ab 3) aB)) aC) (od (b0 jm (b6 lP ax (al (ab 6) (al (bG bH (ab 1) (b9 du rfl nb.dn dq (al (ab 2) aB))) (al (bG bH (ab 3) aC) aB))) (hk:=by omega)) aC)))) (aR (bB jO)) cF)
  (aR (bB (Bp (fO c2 (b9 du rfl nb.dn dq (al (ab 4) aB)) aC) (jQ (fO jm (b6 lP ax (al (ab 6) (al (bG bH (ab 1) (b9 du rfl nb.dn dq (al (ab 2) aB))) (al (bG bH (ab 4) aC) aB))) (hk:=by omega)) aC)))))))),?_⟩
 try dsimp only[c4,c5,c6,c7]
 obtain⟨m9,mQ,me,w,rfl,xV,xY,oN⟩:=Mn Cs
 rw[eJ]at aL
 obtain⟨gr,i2,mK⟩:=aL
 have vR:=(lX gr).1
 have aji:f7 fs<=3:=by rw[aM]at di;omega
 have OP:=bh.len ds dV
 have ajU:=bh.len dl ip
 have ajT:=bh.len d4 i1
 have pt:∀i,i<fs.length->∃T n v,ey me ((i:Nat):Int)=J (.ref T)/\H T=J (.tup [.str n,v])/\c3 H (ep (fs.getD i (.bare 0))) v/\eJ (fs.getD i (.bare 0))/\aM (fs.getD i (.bare 0))<=4:=fun i ay=>by
  obtain⟨T,n,v,a,b,c⟩:=SO i2 oN ay
  obtain⟨yQ,wi⟩:=F3 mK ay
  exact⟨T,n,v,a,b,c,yQ,by omega⟩
 have ab5:∀i,i<ds.length->bw bV (fs.getD i (.bare 0)) (ds.getD i .aT)=ah:=fun i ay=>e9.mp ab4 i (List.mem_range.mpr ay)
 refine fT fun N b3=>⟨_,I,_,_,I,.inl ⟨_,bb rE,I⟩,_,I,by omega,by omega,?_⟩
 rw[OP,show(((ds.length:Nat):Int)).toNat=ds.length by omega]
 refine pC (fun i U av=>av=H/\∃z,U=[J (.ref m9),J (.ref T),J (.ref lf),J (.ref dd),J (.ref gN),z,aw]/\∀j,j<i->cY (fs.getD j (.bare 0)) (es.getD j .aT) (ds.getD j .aT)=0) ⟨I,_,I,fun j b2=>absurd b2 (Nat.not_lt_zero _)⟩ ?_ ?_
 ·rintro i U av ay ⟨rfl,z,rfl,ag⟩
  obtain⟨SE,n,v,a1,a2,a3,a4,a5⟩:=pt i (by omega)
  obtain⟨ail,gG,eZ⟩:=bh.item B9 (i:=i) (by omega)
  obtain⟨aj5,fu,f6⟩:=bh.item dV (i:=i) (by omega)
  rw[<-Int.zero_add ((i:Nat):Int)]at a1 gG fu
  refine⟨_,I,.inl (.inr ⟨_,_,_,_,I,I,bI xV,cB (j:=1) I,_,I,.inl (.inl ⟨_,_,_,_,I,I,bb xY,a1,.inl (.inr ⟨_,_,_,_,I,I,bI a2,cB (j:=1) I,?_⟩)⟩)⟩)⟩
  refine⟨_,I,_,I,.inl (.inr ⟨_,_,_,_,I,I,bI ev,gG,_,I,_,I,.inl (.inl ⟨_,_,_,_,I,I,bb rE,fu,?_⟩)⟩)⟩
  refine⟨_,_,_,_,_,_,I,a3,a4,a5,eZ,f6,Ca i (by omega),ab5 i ay,by have:=Lx NW (i:=i) (by omega);omega,?_⟩
  refine⟨I,_,I,?_⟩
  by_cases z:cY (fs.getD i (.bare 0)) (es.getD i .aT) (ds.getD i .aT)=0
  ·rw[eu (congrArg V.int z)]
   refine dW ⟨I,_,I,fun j b2=>?_⟩
   rcases g4 j i with y|y
   .exact ag j y
   .rw[show j=i by omega];exact z
  ·rw[fC fun e=>z (V.int.inj e)]
   refine e3 ⟨_,.refl (dx _),?_⟩
   rw[UH ay z]at q
   exact q
 ·rintro U av ⟨rfl,z,rfl,ag⟩
  refine b3 _ _ ?_
  rw[TY ag]at q
  obtain⟨SE,n,v,a1,a2,a3,a4,a5⟩:=pt ds.length l7
  obtain⟨ail,gG,eZ⟩:=bh.item B9 (i:=ds.length) (by omega)
  have f1:=Ca ds.length (by omega)
  have hj:=Lx NW (i:=ds.length) (by omega)
  have f2:∀x,ow bV fs ds x=bw bV (fs.getD ds.length (.bare 0)) x:=fun _=>rfl
  rw[<-OP]at a1 gG
  generalize aX:fs.getD ds.length (.bare 0)=g at a3 a4 a5 f1 f2 q
  generalize he:es.getD ds.length .aT=eM at eZ f1 hj q
  clear aX he ag pt
  refine fT fun N b3=>⟨_,I,.inl (.inr ⟨_,_,_,_,I,I,bI xV,cB (j:=1) I,_,I,_,_,I,.inl ⟨_,bb rE,I⟩,.inl (.inl ⟨_,_,_,_,I,I,bb xY,a1,.inl (.inr ⟨_,_,_,_,I,I,bI a2,cB (j:=1) I,b3 _ _ ?_⟩)⟩)⟩)⟩
  refine fT fun N b3=>?_
  have ck:dl.all (fun x=>!decide (cY g eM x<0))=ah->N [J (.ref m9),J (.ref T),J (.ref lf),J (.ref dd),J (.ref gN),z,J v] av:=fun tg=>by
   refine b3 _ _ ?_
   rw[tg,Bool.true_and]at q
   rcases ry HH with rfl|⟨y,rfl⟩
   ·obtain rfl:jq=[]:=i1
    exact⟨_,I,_,_,I,.inr ⟨_,bI xW,I⟩,I,_,I,e3 ⟨_,.refl (dx _),q⟩⟩
   ·obtain⟨hD,r,rfl,aU,dt⟩:=i1
    obtain rfl:r=[]:=dt
    have jT:bw bV g y=ah:=by rw[<-f2];exact e9.mp vK y (d5.mpr I)
    rw[List.all_cons,List.all_nil,Bool.and_true]at q
    refine⟨_,I,_,_,I,.inr ⟨_,bI xW,I⟩,I,_,I,dW ?_⟩
    refine⟨_,I,_,I,_,I,_,_,I,.inl ⟨_,bb rE,I⟩,.inl (.inr ⟨_,_,_,_,I,I,bI ev,gG,_,I,.inl (.inr ⟨_,_,_,_,I,I,bI xW,cB (j:=0) I,?_⟩)⟩)⟩
    exact⟨_,_,_,_,_,_,I,a3,a4,a5,eZ,aU,f1,jT,by omega,.inl ⟨_,_,rfl,rfl,_,.refl (dx _),q⟩⟩
  rcases ry kg with rfl|⟨x,rfl⟩
  ·obtain rfl:wl=[]:=ip
   exact⟨_,I,_,_,I,.inr ⟨_,bI gp,I⟩,I,_,I,fx (fun z=>nomatch V.int.inj z) (dW (ck I))⟩
  ·obtain⟨hD,r,rfl,ao,dt⟩:=ip
   obtain rfl:r=[]:=dt
   have gI:bw bV g x=ah:=by rw[<-f2];exact e9.mp jE x (d5.mpr I)
   refine⟨_,I,_,_,I,.inr ⟨_,bI gp,I⟩,I,_,I,iK I ?_⟩
   refine⟨_,I,_,I,_,I,_,_,I,.inl ⟨_,bb rE,I⟩,.inl (.inr ⟨_,_,_,_,I,I,bI ev,gG,_,I,.inl (.inr ⟨_,_,_,_,I,I,bI gp,cB (j:=0) I,?_⟩)⟩)⟩
   refine⟨_,_,_,_,_,_,I,a3,a4,a5,eZ,ao,f1,gI,by omega,.inl ⟨_,_,rfl,rfl,_,rfl,e2 (fun c=>?_) (fun c=>ck ?_)⟩⟩
   ·refine⟨_,.refl (dx _),?_⟩
    rw[List.all_cons,eu c]at q
    exact q
   .rw[List.all_cons,List.all_nil,fC c];rfl
theorem Yx{l:List (List Bool)}{x:List Bool}(h:l.Nodup)(ao:x∉l):(l.take k++x::l.drop k).Nodup:=(LY l k x).nodup_iff.mpr (List.nodup_cons.mpr ⟨ao,h⟩)
structure Ek(H:aq)(f:ba)(n:Nat)(ds:List D)(vs:List V):Prop where
 s:z2 H f n ds vs
 u:(ds.map (bf bW f)).Nodup
inductive QE(d:Nat)(vs:List V)(H:aq)(Q:bJ)(E:cN):Prop where
 |mk (e6:V) (L:af) (f:ba) (ds:List D) (jo:List V) (bg:vs=[e6,.ref L]) (ai:c3 H (ep f) e6) (aj:eJ f) (bE:aM f<=d) (cQ:H L=J (.lst jo)) (eN:bh H ds jo) (jj:(∀x,x∈ds->bw bV f x=ah/\eH x<=50)) (nt:ds.length<=1000) (nu:∀r fP fk,H r=aw->Ek H f ds.length fP fk->(∀x,x∈fP↔x∈ds)->Q (.ref r) (upd H r (.lst fk))):QE d vs H Q E
def QD(d:Nat):cD:=fun vs H Q E=>QE d vs H Q E
theorem VD(nb:dT mg)(F:d1 K mg "_law_sorted" EN ["_law_form_here","_law_some"] f fd)(lP:bq P w K mg base (2*d+4) "_law_order" ["_law_form_here","_law_one","_law_other"] (wz d)):bq P w K mg base (2*d+5) "_law_sorted" ["_law_form_here","_law_some"] (QD d):=by
 refine F.eO w6 (fun bx A _ s H vs Q E ax h=>?_)
 obtain⟨e6,L,g,ds,jo,rfl,Cs,ok,di,l0,dV,iq,aW,q⟩:=h
 refine⟨_,(aI (bO 2 w6.bo (h6 aB))
  (aI (kK h2.never rfl (h0 (ab 1)) (d7 (i:=3) w6.bo rfl (by exact Or.inl I))
   (aI (bO 4 w6.bo aC)
   (aI (ro h2.never (gc.pt (oq (b0 jm (ab 4) (b9 du rfl nb.dn dq (al (ab 2) aB))) (od (b0 jm (b6 lP ax (al (ab 0) (al (bG bH (ab 2) (ab 4)) (al (ab 3) aB))) (hk:=by omega)) aC))))
    (aR (bO 4 w6.bo (aN eb (ab 4) aC))))
   (aR (cE (gc.pt (j6 (b0 c2 (ab 4) (b9 du rfl nb.dn dq (al (ab 2) aB))) (lq (b0 jG (b6 lP ax (al (ab 0) (al (bG bH (ab 2) (ab 4)) (al (ab 3) aB))) (hk:=by omega)) aC)))) (aR (iW (hV PySem.F.plainAttrs_list PySem.F.slot_list_insert PySem.F.type_list_insert YA (ab 2) (al (ab 4) (al (ab 3) aB))))) cF)))))
  (aR (bB (ab 2))))),?_⟩
 try dsimp only[c4,c5,c6,c7]
 refine fT fun N b3=>⟨UF _,fun r tN=>b3 _ _ ?_⟩
 have cM:=bh.len ds dV
 have ajV:L≠r:=fun z=>by rw[z,tN]at l0;cases l0
 refine fT fun N b3 =>.inl ⟨_,I,L,I,⟨_,bb ((dg tN) _ _ l0)⟩,FP (K:=K) (a:=L) (xs:=jo) (fun i U av=>∃cP cL fP fk,U=[J e6,J (.ref L),J (.ref r),cP,cL]/\Ek H g i fP fk/\(∀x,x∈fP↔x∈ds.take i)/\av=upd H r (.lst fk)) ⟨_,_,[],[],I,⟨⟨I,(fun _ z=>nomatch z),b8 _,.nil⟩,List.nodup_nil⟩,fun x=>Iff.rfl,I⟩ ?_ ?_ ?_⟩
 ·rintro i U av ay ⟨_,_,_,fk,_,_,_,rfl⟩
  exact bb ((dg tN) _ _ l0)
 ·rintro i x U av ao ⟨cP,cL,fP,fk,rfl,⟨S,J4⟩,pm,rfl⟩
  obtain⟨hE,ex,oQ⟩:=bh.get ds dV ao
  obtain⟨gI,ak⟩:=iq hE (fE ex)
  have s2:=dg (o:=df.lst fk) tN
  have cR:=bh.len fP S.a
  have ay:i<ds.length:=(g5.mp ex).1
  have ajz:=S.n
  have g6:upd H r (df.lst fk) r=J (.lst fk):=aG
  have vp:ds.take (i+1)=ds.take i++[hE]:=by rw[jy,ex];rfl
  refine fT fun N b3=>b3 _ _ ?_
  refine fT fun N b3=>⟨fun m U av=>∃k:Nat,m=fk.length-k/\k<=fk.length/\U=[J e6,J (.ref L),J (.ref r),J x,J (.int ((k:Nat):Int))]/\(∀i y,i<k->fP[i]?=J y->cY g y hE<0)/\av=upd H r (.lst fk),⟨_,0,I,UF _,I,fun _ _ z=>(Nat.not_lt_zero _ z).elim,I⟩,?_⟩
  rintro m U av ⟨k,rfl,hk,rfl,Hj,rfl⟩
  have ck:(∀y,fP[k]?=J y->¬cY g y hE<0)->N [J e6,J (.ref L),J (.ref r),J x,J (.int ((k:Nat):Int))] (upd H r (.lst fk)):=fun Hg=>by
   refine b3 _ _ ?_
   have app:(∀y,fP[k]?=J y->cY g y hE≠0)->∃cP cL MY Rd,[J e6,J (.ref L),J (.ref r),J x,J (.int ((k:Nat):Int))]=[J e6,J (.ref L),J (.ref r),cP,cL]/\Ek H g (i+1) MY Rd/\(∀x,x∈MY↔x∈ds.take (i+1))/\upd H r (.lst (fk.take k++x::fk.drop k))=upd H r (.lst Rd):=fun jU=>by
    refine⟨_,_,_,_,I,⟨S.ins ok oQ gI ak Hj Hg,?_⟩,fun y=>?_,I⟩
    ·rw[fo,fD,List.map_take,List.map_drop]
     refine Yx J4 fun z=>?_
     obtain⟨y,aU,rG⟩:=List.mem_map.mp z
     obtain⟨j,b2⟩:=List.getElem?_of_mem aU
     have jT:=(S.t y aU).1
     have eM:=(vg ok jT gI).2.1.mpr rG
     rcases Nat.lt_trichotomy j k with w|w|w
     .have:=Hj j y w b2;omega
     .rw[w]at b2;exact jU y b2 eM
     ·
      obtain⟨uj,oR⟩:∃uj,fP[k]?=J uj:=⟨_,cp (by have:=(g5.mp b2).1;omega)⟩
      have aaS:=(S.t uj (fE oR)).1
      have ai:0<cY g uj hE:=by have:=Hg uj oR;have:=jU uj oR;omega
      have aj:=(Std.of ok aaS gI).2.2 ai
      have bE:jN (bf bW g uj) (bf bW g y):=by
       have:=List.pairwise_iff_getElem.mp S.s k j (by rw[cw];exact(g5.mp oR).1) (by rw[cw];exact(g5.mp b2).1) w
       rw[j7,j7,(g5.mp oR).2,(g5.mp b2).2]at this
       exact this
      rw[rG]at bE
      exact bE (qt aj)
    ·rw[(LY fP k hE).mem_iff,vp,List.mem_append,d5,c9,pm y]
     exact or_comm
   by_cases vQ:k=fk.length
   ·refine⟨_,I,_,I,_,_,I,.inl ⟨_,bb g6,I⟩,I,_,I,iK (by rw[vQ]) ?_⟩
    refine⟨_,I,.inl ⟨I,_,bb g6⟩,_,I,_,I,r,fk,((k:Nat):Int),k,x,I,I,g6,I,hk,by omega,?_⟩
    rw[fN]
    exact app fun y aU=>by have:=(g5.mp aU).1;omega
   ·have acn:k<fk.length:=by omega
    obtain⟨v,br⟩:∃v,fk[k]?=J v:=⟨_,cp acn⟩
    obtain⟨y,aU,vW⟩:=bh.get fP S.a br
    obtain⟨jT,Gs⟩:=S.t y (fE aU)
    refine⟨_,I,_,I,_,_,I,.inl ⟨_,bb g6,I⟩,I,_,I,fx (fun z=>vQ (by have:=V.int.inj z;omega)) ?_⟩
    refine⟨_,I,_,I,_,I,r3 (.inl g6) br ?_⟩
    refine⟨_,I,e6,v,x,g,y,hE,I,c3.same s2 _ Cs,ok,di,c3.same s2 _ vW,c3.same s2 _ oQ,jT,gI,Gs,_,_,I,I,_,I,e2 (fun f6=>?_) (fun f6=>?_)⟩
    ·refine⟨_,I,.inl ⟨I,_,bb g6⟩,_,I,_,I,r,fk,((k:Nat):Int),k,x,I,I,g6,I,hk,by omega,?_⟩
     rw[fN]
     exact app fun z bz=>by rw[aU]at bz;obtain rfl:=e8 bz;omega
    ·have eM:cY g y hE=0:=by have:=Hg y aU;omega
     have GL:y=hE:=(rp g y hE ok jT gI).z.mp eM
     refine⟨_,_,fP,fk,I,⟨⟨S.a,S.t,by omega,S.s⟩,J4⟩,fun w=>?_,rfl⟩
     rw[vp,List.mem_append,d5,pm w]
     refine⟨.inl,fun z=>z.elim id fun z=>?_⟩
     rw[z,<-GL]
     exact(pm y).mp (fE aU)
  refine⟨_,I,_,I,_,_,I,.inl ⟨_,bb g6,I⟩,.inl ⟨_,_,I,I,_,I,e2 (fun fu=>?_) (fun fu=>?_)⟩⟩
  ·have vQ:k<fk.length:=by omega
   obtain⟨v,br⟩:∃v,fk[k]?=J v:=⟨_,cp vQ⟩
   obtain⟨y,aU,vW⟩:=bh.get fP S.a br
   obtain⟨jT,Gs⟩:=S.t y (fE aU)
   refine⟨_,I,_,I,_,I,r3 (.inl g6) br ?_⟩
   refine⟨_,I,e6,v,x,g,y,hE,I,c3.same s2 _ Cs,ok,di,c3.same s2 _ vW,c3.same s2 _ oQ,jT,gI,Gs,.inl ⟨_,_,I,I,_,I,e2 (fun f6=>?_) (fun f6=>?_)⟩⟩
   ·refine⟨fun cg H'=>∃bY,bY<fk.length-k/\∃k:Nat,bY=fk.length-k/\k<=fk.length/\cg=[J e6,J (.ref L),J (.ref r),J x,J (.int ((k:Nat):Int))]/\(∀i y,i<k->fP[i]?=J y->cY g y hE<0)/\H'=upd H r (.lst fk),fun _ _ h=>h,?_⟩
    refine⟨_,I,.inl ⟨_,_,I,I,fk.length-(k+1),by omega,k+1,rfl,vQ,rfl,fun i z oL bz=>?_,rfl⟩⟩
    by_cases e:i=k
    ·subst e
     rw[aU]at bz
     obtain rfl:=e8 bz
     exact f6
    .exact Hj i z (by omega) bz
   ·refine ck fun z bz=>?_
    rw[aU]at bz
    obtain rfl:=e8 bz
    exact f6
  ·refine dW (ck fun z bz=>?_)
   have:=(g5.mp bz).1
   omega
 ·rintro U av ⟨_,_,fP,fk,rfl,S,pm,rfl⟩
  refine b3 _ _ ?_
  rw[cM]at S pm
  rw[List.take_length]at pm
  exact⟨_,I,_,.new tN (dg tN) aG trivial,q r fP fk tN S pm⟩
noncomputable def hC{α:Type}(keep:Nat->Bool):List α->Nat->List α
 |[],_=>[]
 |x::xs,k=>if keep k=ah then x::hC keep xs (k+1)else hC keep xs (k+1)
theorem LM{α:Type}(keep:Nat->Bool)(x:α):∀(l:List α)(k:Nat),hC keep (l++[x]) k=hC keep l k++(if keep (k+l.length)=ah then [x]else [])
 |[],k=>by
  show(if keep k=ah then x::hC keep [] (k+1)else hC keep [] (k+1))=_
  rw[show k+([]:List α).length=k from rfl];rfl
 |y::l,k=>by
  show(if keep k=ah then y::hC keep (l++[x]) (k+1)else hC keep (l++[x]) (k+1))=(if keep k=ah then y::hC keep l (k+1)else hC keep l (k+1))++_
  rw[LM keep x l (k+1),show k+(y::l).length=k+1+l.length by rw[d6];omega]
  split<;>rfl
theorem Gb{α:Type}(keep:Nat->Bool):∀(l:List α)(k:Nat),(hC keep l k).length<=l.length
 |[],k=>b8 _
 |y::l,k=>by
  have:=Gb keep l (k+1)
  rw[hC,d6]
  split
  .rw[d6];omega
  .omega
theorem bh.hC{H:aq}{P:D->Bool}(keep:Nat->Bool):∀(ds:List D){vs:List V}(k:Nat),bh H ds vs->(∀i d,ds[i]?=J d->keep (k+i)=P d)->bh H (ds.filter P) (KR.hC keep vs k)
 |[],vs,k,h,_=>by
  obtain rfl:vs=[]:=h
  exact rfl
 | d::ds,vs,k,h,hk=>by
  obtain⟨v,r,rfl,q,bX⟩:=h
  have e:=hk 0 d rfl
  have bT:=bh.hC keep ds (k+1) bX fun i d' h'=>by
   have:=hk (i+1) d' h'
   rwa [show k+(i+1)=k+1+i by omega]at this
  rw[KR.hC]
  rw[show k+0=k from rfl]at e
  cases z:P d with
  |true =>
   rw[e,z,if_pos rfl,List.filter_cons_of_pos z]
   exact⟨v,_,I,q,bT⟩
  |false =>
   rw[e,z,if_neg (by decide),List.filter_cons_of_neg (by rw[z];decide)]
   exact bT
theorem cK.keep{K:bM}{a:af}(h:cK K H a xs)(k:∀u,H a=J u->H' a=J u):cK K H' a xs:=by
 rcases h with(h|⟨o,h⟩)|h
 .exact .inl (.inl (k _ h))
 .exact .inl (.inr ⟨o,k _ h⟩)
 .exact .inr h
theorem WU{K:bM}{a:af}{D:af}(keep:Nat->Bool)(S:St->Prop)(bz:xs.length<=cj)(bg:S eV)(dB:H D=aw)(aD:cK K H a xs)
  (aM:∀i x,xs[i]?=J x->∀bL H1,S bL->ef H H1->∀(R:St->V->aq->Prop)(R':St->aq->Prop),(∀bu,S bu->if keep i=ah then R bu x H1 else R' bu H1)->g x bL H1 fun bu av=>gb bu av fun b bQ=>if b=ah then cI bu bQ fun y fZ=>R bu y fZ else R' bu bQ)
  (bj:Q (.ref D) (upd H D (.lst (hC keep xs 0)))) :
  lO (pv K a) g gb cI Q eV H D:=by
 have ahr:∀l:List V,cK K (upd H D (.lst l)) a xs:=fun l=>cK.keep aD fun u e=>dg dB _ _ e
 refine⟨fun i m bL av=>i<=xs.length/\m=xs.length-i/\S bL/\av=upd H D (.lst (hC keep (xs.take i) 0)),⟨xs.length,UF _,I,bg,I⟩,?_⟩
 rintro i m bL av ⟨ai,rfl,aj,rfl⟩
 have fQ:=ahr (hC keep (xs.take i) 0)
 rcases g4 i xs.length with z|z
 ·refine .inr ⟨⟨xs,xs[i],fQ,cp z⟩,?_⟩
  rintro x bQ ⟨rfl,ao⟩
  have ao:=ao xs fQ
  have iY:hC keep (xs.take (i+1)) 0=hC keep (xs.take i) 0++(if keep i=ah then [x]else []):=by
   rw[jy,ao]
   show hC keep (xs.take i++[x]) 0=_
   rw[LM,ht,Nat.min_eq_left (by omega),Nat.zero_add]
  have hs:=Gb keep (xs.take i) 0
  rw[ht]at hs
  refine aM i x ao bL _ aj (dg dB) (fun bu y d9=>∃zs bY,d9 D=J (.lst zs)/\zs.length<cj/\bY<xs.length-i/\(i+1<=xs.length/\bY=xs.length-(i+1)/\S bu/\upd d9 D (.lst (zs++[y]))=upd H D (.lst (hC keep (xs.take (i+1)) 0)))) (fun bu d9=>∃bY,bY<xs.length-i/\(i+1<=xs.length/\bY=xs.length-(i+1)/\S bu/\d9=upd H D (.lst (hC keep (xs.take (i+1)) 0)))) fun bu fS=>?_
  by_cases ag:keep i=ah
  ·rw[if_pos ag]
   exact⟨_,xs.length-(i+1),aG,by omega,by omega,by omega,rfl,fS,by rw[fN,iY,if_pos ag]⟩
  ·rw[if_neg ag]
   exact⟨xs.length-(i+1),by omega,by omega,rfl,fS,by rw[iY,if_neg ag,List.append_nil]⟩
 ·have e:i=xs.length:=by omega
  subst e
  rw[List.take_length]at fQ ⊢
  exact .inl ⟨⟨xs,fQ,b8 _⟩,bj⟩
theorem hI.len{fs:List ba}(h:hI fs B es):(bf bW (.two 0 ns fs) (.tup es)).length<=B.sum:=by
 rw[FZ h.l,FG]
 exact dE (FE _ (fun i=>B.getD i 0) _ fun i ay=>h.b i (List.mem_range.mp ay)) (AX B _)
theorem hI.fit{fs:List ba}(h:hI fs B es):bw bV (.two 0 ns fs) (.tup es)=ah:=by
 rw[bw,if_pos rfl]
 exact h.all
theorem K4(h:i<k):(es.take k).getD i .aT=es.getD i .aT:=by
 rw[dN,List.getElem?_take,if_pos h,<-dN]
theorem hI.ZI{fs:List ba}(h:hI fs B es)(hk:k<=fs.length):(i8 bW fs (es.take k)).length<=((List.range k).map fun i=>B.getD i 0).sum/\BN bV fs (es.take k)=ah:=by
 have aD:(es.take k).length=k:=by rw[ht,h.l];omega
 have fQ:=h.l
 refine⟨?_,e9.mpr fun i ay=>?_⟩
 ·show(rowsOf bW fs (es.take k)).flatten.length<=_
  rw[FG,aD]
  refine FE _ _ _ fun i ay=>?_
  have ay:=List.mem_range.mp ay
  show(bf _ _ _).length<=_
  rw[K4 ay]
  exact h.b i (by omega)
 ·have ay:=List.mem_range.mp ay
  rw[aD]at ay
  show bw _ _ _=ah
  rw[K4 ay]
  exact h.f i (by omega)
structure p2(fs:List ba)(B:List Nat)(k:Nat)(dl:List D):Prop where
 n:dl.length<=1
 f:∀x,x∈dl->bw bV (fs.getD k (.bare 0)) x=ah
 b:∀x,x∈dl->(bf bW (fs.getD k (.bare 0)) x).length<=B.getD k 0
theorem p2.all{fs:List ba}(h:p2 fs B k dl)(hk:ds.length=k):dl.all (ow bV fs ds)=ah/\(k6 bW fs ds dl).length<=B.getD k 0:=by
 refine⟨e9.mpr fun x ao=>?_,?_⟩
 ·show bw bV (fs.getD ds.length (.bare 0)) x=ah
  rw[hk];exact h.f x ao
 ·rcases ry h.n with rfl|⟨x,rfl⟩
  .exact UF _
  .rw[qs,hk];exact h.b x (d5.mpr I)
theorem hI.MS{fs:List ba}(h:hI fs B es)(hk:k<fs.length):p2 fs B k [es.getD k .aT]:=⟨b8 _,(fun x ao=>by rw[d5.mp ao];exact h.f k (by have:=h.l;omega)),(fun x ao=>by rw[d5.mp ao];exact h.b k (by have:=h.l;omega))⟩
theorem p2.none{fs:List ba}:p2 fs B k []:=⟨UF _,(fun x ao=>nomatch ao),(fun x ao=>nomatch ao)⟩
theorem My{a b:Nat}(aJ:a<=((List.range k).map fun i=>B.getD i 0).sum)(ag:b<=B.getD k 0):a+b<=B.sum:=by
 have:=AX B (k+1)
 rw[List.range_succ,fo,List.sum_append,fD,List.map_nil,List.sum_cons,List.sum_nil]at this
 omega
theorem Ih{a b:V}{B:Prop}(h:a=b)(k:B):if(!decide (a=b))=ah then A else B:=by
 rw[eu h];exact k
theorem Ms(l:List V)(k:Nat)(h:k<l.length):kx l (J ((k:Nat):Int)) (J (((k:Nat):Int)+1))=[l[k]]:=by
 unfold kx
 rw[cA.o3,show(((k:Nat):Int)+1)=((k+1:Nat):Int) by omega,cA.o3,Nat.min_eq_left (by omega),Nat.min_eq_left (by omega),Nat.add_sub_cancel_left,nc h]
 rfl
theorem Mt(l:List V):kx l aw (J ((0:Nat):Int))=[]:=by rw[Gg];exact List.take_zero
theorem UY:de P w K mg base dv k f fd aK ua:=⟨fun _ _ _ _ h=>h.elim,fun _ _ _ _ _ _ _ _ _ _ _ _ _ h=>h.elim⟩
theorem Cc{fA d3 pB m7 R:e1}{D:Ends}(h:∀R':e1,(∀U H,R D U H->R' D U H)->kH fA (kH d3 (kH pB (kH m7 R'))) D U H):kH fA (kH d3 (kH pB (kH m7 R))) D U H:=h R fun _ _ z=>z
inductive P7(K:bM)(vs:List V)(H:aq)(Q:bJ)(E:cN):Prop where
 |mk (a:af) (ns:List Int) (bg:vs=[.ref a]) (ai:cK K H a (ns.map V.int)) (aj:ns.length<=63) (bE:∀H',Q (.aQ ah) H'):P7 K vs H Q E
def C1(K:bM):cD:=fun vs H Q E=>P7 K vs H Q E
set_option maxHeartbeats 4000000 in
theorem Zq{f lh:af}{c:eQ}{fd:iP}(nb:dT mg)(T:xi K lh)(ff:fY K lh)(F:dG K "law" "law" Gj f fd)
  (DI:bq P w K mg base 1 "_law_pool" ["_law_script"] (Qn K)) (DJ:bq P w K mg base 7 "_law_record" ["_law_pool_here"] Qt) (p7:bq P w K mg base 15 "_law_made" ["_law_form_here"] (C2 c 8)) (DM:bq P w K mg base 8 "_law_values" ["_law_pool_here","_law_form_here"] QS) (DG:bq P w K mg base 1 "_law_cell_at" ["_law_script","_law_k"] (PC K))
  (D5:j4 P w K mg base 1 "Shelf" lh ["self","form","room"] (Qx lh)) (D7:hb P w K mg base 14 lh "put" ["self","value"] (Qp lh c 4)) (D8:hb P w K mg base 15 lh "told" ["self","start","end"] (QL lh c 4)) (DO:bq P w K mg base 14 "span_of" ["form","first","low","high"] (QG hasAll bV bW c 4)) (zv:bq P w K mg base 13 "_law_in" ["_law_form_here","_law_value_here","_law_first","_law_low","_law_high"] PY) (DL:bq P w K mg base 13 "_law_sorted" ["_law_form_here","_law_some"] (QD 4)) (wY:bq P w K mg base 13 "_law_same" ["_law_found","_law_due"] (C4 12))
  (n3:hq P w K mg base 13 "row" ["self","value"] (fW c) (fun _=>zb hasAll bV bW c 4)):de P w K mg base dv 17 f fd ["_law_script"] (C1 K):=by
 refine F.fK j9 (fun bx A _ s H vs Q E ax h=>?_)
 obtain⟨a,kj,rfl,dk,aD,q⟩:=h
 refine⟨_,(aI (bO 1 j9.bo (b6 DI ax (al (ab 0) aB) (hk:=by omega)))
  (aI (bO 2 j9.bo (b6 DJ ax (al (ab 1) aB) (hk:=by omega)))
  (aI (bO 3 j9.bo (b6 p7 ax (al (ab 2) aB) (hk:=by omega)))
  (aI (bO 4 j9.bo (b6 DM ax (al (ab 1) (al (ab 2) aB)) (hk:=by omega)))
  (aI (sN (i:=5)  ["_law_k"] [(0,"_law_script")] j9.bo rfl rfl rfl (by decide+kernel) ⟨rfl,.inl rfl,trivial⟩ (lY rfl nb.k4 (al aC aB)) (fun _ _ _ _ _=>(d7 (i:=0) (show(["_law_k","_law_script"]:List ae).Nodup by decide+kernel))) (fun _ _ _ _ _=>hu) (fun _ _ _ _ _=>(aN hh (b6 DG ax (al (ab 1) (al (ab 0) aB)) (hk:=by omega)) aC)))
  (aI (bO 6 j9.bo (qk D5 ax (al (ab 3) (al (aN eb aC (aN dI (bG bH (ab 5) aC) aC)) aB)) (hk:=by omega)))
  (aI (kK h2.never rfl (h0 (ab 4)) (d7 (i:=7) j9.bo rfl (by first|exact Or.inl I|exact Or.inr I))
   (aR (iW (xw D7 ff ax (ab 6) (al (ab 7) aB) (hk:=by omega)))))
  (aI (bO 8 j9.bo (aN dI (bG bH (ab 5) aC) (b9 du rfl nb.dn dq (al (bG bH (ab 2) aC) aB))))
  (aI (bO 9 j9.bo (mw KB rfl nb.yG xF (al (lA t9 (bG bH (ab 4) (aN dI (bG bH (ab 5) aC) aC)) mu (kv (ab 8))) aB)))
  (aI (bO 10 j9.bo (lA t9 (lA t9 (bG bH (ab 4) (aN dI (bG bH (ab 5) aC) aC)) (kv (ab 8)) (kv (aN eb (ab 8) aC))) mu (kv (aN dI (bG bH (ab 5) aC) aC))))
  (aI (bO 11 j9.bo (lA t9 (lA t9 (bG bH (ab 4) (aN dI (aN hh (bG bH (ab 5) aC) aC) aC)) (kv (ab 8)) (kv (aN eb (ab 8) aC))) mu (kv (aN dI (bG bH (ab 5) aC) aC))))
  (aI (bO 12 j9.bo (mw KB rfl nb.yG xF (al (ab 9) aB)))
  (aI (bO 13 j9.bo (b6 DO ax (al (ab 3) (al (ab 12) (al (ab 10) (al (ab 11) aB)))) (hk:=by omega)))
  (aI (cE (gc.pt (j6 (jP (hi (b9 iU rfl nb.i4 iT (al (ab 13) (al (iX (v :=.ty "tuple") rfl nb.q1 ql rfl) aB))))) (j6 (b0 (Iw (wm ax)) (b9 du rfl nb.dn dq (al (ab 13) aB)) aC) (j6 (jP (hi (b9 iU rfl nb.i4 iT (al (bG bH (ab 13) aC) (al (iX (v :=.ty "str") rfl nb.zf xJ rfl) aB))))) (lq (b0 (Iw (wm ax)) (ab 12) (ab 9))))))) (aR (bB jO)) cF)
  (aI (cE (gc.pt (oq (b0 Tz (bG bH (ab 13) aC) qv) (od (jP (hi (b9 iU rfl nb.i4 iT (al (bG bH (ab 13) aC) (al (iX (v :=.ty "str") rfl nb.zf xJ rfl) aB)))))))) (aR (bB jO)) cF)
  (aI (sN (i:=14)  ["_law_value_here"] [(2,"_law_form_here"),(9,"_law_first"),(10,"_law_low"),(11,"_law_high")] j9.bo rfl rfl rfl (by decide+kernel) ⟨rfl,.inl rfl,rfl,.inl rfl,rfl,.inl rfl,rfl,.inl rfl,trivial⟩ (h0 (b6 DL ax (al (ab 2) (al (ab 4) aB)) (hk:=by omega))) (fun _ _ _ _ _=>(d7 (i:=0) (show(["_law_value_here","_law_form_here","_law_first","_law_low","_law_high"]:List ae).Nodup by decide+kernel))) (fun _ _ _ _ _=>(F0 (hi (b6 zv ax (al (ab 1) (al (ab 0) (al (ab 2) (al (ab 3) (al (ab 4) aB))))) (hk:=by omega))))) (fun _ _ _ _ _=>(ab 0)))
  (aI (kK h2.never rfl (h0 (ab 4)) (d7 (i:=7) j9.bo rfl (by first|exact Or.inl I|exact Or.inr I))
   (aI (bO 15 j9.bo (ij n3 ax (ab 3) (al (ab 7) aB) (hk:=by omega)))
   (aI (bO 16 j9.bo (jg (fO O6 (bG bH (ab 13) aC) (ab 15)) (jQ (Bp (fO xI (bG bH (ab 13) aC) qv) (jQ (fO jm (ab 15) (bG bH (ab 13) aC)))))))
   (aR (cE (b0 (Iw (wm ax)) (ab 16) (b6 zv ax (al (ab 2) (al (ab 7) (al (ab 9) (al (ab 10) (al (ab 11) aB))))) (hk:=by omega))) (aR (bB jO)) cF)))))
  (aR (bB (b6 wY ax (al (xw D8 ff ax (ab 6) (al (bG bH (ab 13) aC) (al (bG bH (ab 13) aC) aB)) (hk:=by omega)) (al (ab 14) aB)) (hk:=by omega))))))))))))))))))))),?_⟩
 try dsimp only[c4,c5,c6,c7]
 refine Cc fun Eg oD=>?_
 refine fT fun N b3=>⟨_,I,a,kj,I,dk,aD,fun p ms aY hm=>b3 _ _ ?_⟩
 have pA:=dg (o:=df.lst (ms.map V.int)) aY
 have gx:upd H p (.lst (ms.map V.int)) p=J (.lst (ms.map V.int)):=aG
 have Hc:m5 p (upd H p (.lst (ms.map V.int))):=⟨ms,aG,hm⟩
 generalize upd H p (.lst (ms.map V.int))=H1 at pA gx Hc ⊢
 have oE:mi [p] H1:=fun x ao=>by rw[d5.mp ao];exact⟨_,gx⟩
 have CT:p∈[p]:=d5.mpr rfl
 have tk:∀H',d2 p H1 H'->cK K H' a (kj.map V.int):=fun H' G=>cK.keep dk fun u e=>G.k _ _ (f5 e aY) (pA _ _ e)
 have NJ:∀H',d2 p H1 H'->ef H H':=fun H' G b u e=>G.k _ _ (f5 e aY) (pA _ _ e)
 refine fT fun N b3=>⟨_,I,p,[p],I,Hc,CT,oE,fun v av ns fs eh N2 bZ=>b3 _ _ ?_⟩
 have ft:=bZ.h
 have hs:=bZ.s
 have aL:=bZ.o
 have lD:js [p] av:=fun x ao=>by rw[d5.mp ao];obtain⟨n,e,_⟩:=eh.l;exact⟨_,e⟩
 refine fT fun N b3=>⟨_,I,v,_,[p],I,lD,bZ.d,bZ.o,by omega,fun o bQ mh BX=>b3 _ _ ?_⟩
 have fM:=eh.ext mh
 have pS:=bZ.d.same mh.s
 have B2:=lD.ext mh.s
 refine fT fun N b3=>⟨_,I,_,I,p,v,ns,fs,[p],I,CT,fM.l,B2,pS,aL,ft,hs,N2,fun L ws ds B fZ kq ai6 l0 dV ajx tg ma=>b3 _ _ (oD _ _ ?_)⟩
 clear oD b3
 refine Cc fun Eg oD=>?_
 have DU:=fM.trans kq
 have BY:cd c [p] fZ (.two 0 ns fs) o:=cd.keep (fun b u nb e=>kq.k b u (fun z=>nb (by rw[z];exact CT)) e) _ BX
 have rQ:=c8.grow CT kq pS
 have rM:=tk _ DU
 have m7:=NJ _ DU
 have vH:bh fZ ds ws:=bP.at ds dV
 have BY:=cd.weak (fun x(ao:x∈([]:List af))=>nomatch ao) _ BY
 have rQ:=c8.at _ rQ
 clear NJ tk DU kq B2 pS fM BX mh lD bZ eh oE Hc gx pA dV
 refine fT fun N b3=>⟨_,I,by decide,by decide,fun Cl Ny=>?_⟩
 refine Xp (n:=6) (fun k=>V.int (kj.getD k 0/5)) (fun U=>∃z,U=[z,J (.ref a)]) (by decide) ⟨_,I⟩ Ny ?_ ?_
 ·rintro i ay bL fm ⟨z,rfl⟩ acP R b1
  refine⟨_,I,_,I,a,kj,i,by show [V.ref a,V.int (0+((i:Nat):Int))]=_;rw[Int.zero_add],cK.keep rM fun u e=>acP _ _ e,aD,_,_,rfl,rfl,⟨by decide,by decide⟩,?_⟩
  exact b1 _ ⟨_,I⟩
 have jz:=Ext.lst (xs:=(List.range 6).map fun k=>V.int (kj.getD k 0/5)) Ny
 have ou:upd fZ Cl (.lst ((List.range 6).map fun k=>V.int (kj.getD k 0/5))) Cl=J (.lst [.int (kj.getD 0 0/5),.int (kj.getD 1 0/5),.int (kj.getD 2 0/5),.int (kj.getD 3 0/5),.int (kj.getD 4 0/5),.int (kj.getD 5 0/5)]):=aG
 generalize kj.getD 0 0/5=eM at ou
 generalize kj.getD 1 0/5=aS at ou
 generalize kj.getD 2 0/5=aV at ou
 generalize kj.getD 3 0/5=gh at ou
 generalize kj.getD 4 0/5=jC at ou
 generalize kj.getD 5 0/5=s8 at ou
 refine b3 _ _ ?_
 generalize upd fZ Cl (.lst _)=fm at jz ou ⊢
 have ta:=jz.s _ _ l0
 have Hq:=bh.same jz.s _ vH
 have NB:=cd.keep (fun b u _ e=>jz.s b u e) _ BY
 have B6:=c3.same jz.s _ rQ
 have Ei:=m7.trans jz.s
 obtain⟨m0,yl,aar⟩:=iD eM 19 (by decide)
 have aiW:eM%19=((m0:Nat):Int):=aar
 refine fT fun N b3=>⟨_,I,_,I,.inl (.inl ⟨_,_,_,_,I,I,bb ou,cB (j:=0) I,_,_,I,I,(by show(0:Int)<19;decide),.inl ⟨_,_,I,I,fun gm ak r9 CH CK=>?_⟩⟩)⟩
 refine⟨gm,ak,o,_,I,aG,by omega,by omega,fun l lG=>⟨rfl,b3 _ _ ?_⟩⟩
 rw[fN]
 have CM:l≠gm:=fun z=>by rw[z,aG]at lG;cases lG
 rw[bK CM]at lG
 obtain⟨m,hm⟩:∃m:Int,m=2+eM%19:=⟨_,rfl⟩
 rw[<-hm]
 have kC:upd (upd fm ak (.own gm)) gm (.ins lh ak (k5 o m l)) l=aw:=by rw[bK CM];exact lG
 have oj:=(Ext.made (C:=lh) (fs:=k5 o m l) r9 CH CK).trans (Ext.lst (xs:=[]) kC)
 have HX:xh (upd (upd (upd fm ak (.own gm)) gm (.ins lh ak (k5 o m l))) l (.lst [])) gm lh ak o m l []:=⟨by rw[bK (eF CM)];exact aG,aG⟩
 generalize upd (upd (upd fm ak (.own gm)) gm (.ins lh ak (k5 o m l))) l (.lst [])=d9 at oj HX ⊢
 have Hr:bP [gm] d9 ds ws:=bP.keep (fun b u _ e=>oj.s b u e) _ (bP.add r9 _ (bh.ak _ Hq))
 have G7:cd c [gm] d9 (.two 0 ns fs) o:=cd.keep (fun b u _ e=>oj.s b u e) _ (cd.add r9 _ NB)
 have NT:c8 [gm] d9 (ep (.two 0 ns fs)) v:=c8.keep (fun b u _ e=>oj.s b u e) _ (c8.add r9 _ (c3.ak _ B6))
 have BI:=oj.s _ _ ta
 have M0:=oj.s _ _ ou
 have pU:L≠gm:=f5 ta r9
 have CC:Cl≠gm:=f5 ou r9
 have JX:=Ei.trans oj.s
 have md:∀b u,H b=J u->b≠gm:=fun b u e=>f5 (Ei _ _ e) r9
 have Ci:=F4 _ aL
 have fI:∀d,d∈ds->bw bV (.two 0 ns fs) d=ah/\(bf bW (.two 0 ns fs) d).length<=14000000/\eH d<=6:=fun d hd=>by
  obtain⟨es,rfl,br⟩:=ma d hd
  exact⟨br.fit,dE br.len tg,by rw[eH];have:=br.h;omega⟩
 have adV:=bh.len ds Hq
 clear Hq NB B6 ta ou oj jz vH BY rQ rM lG kC CM r9 CH CK Ei m7
 refine fT fun N b3 =>.inl ⟨_,I,L,I,⟨_,bb BI⟩,FP (K:=K) (a:=L) (xs:=ws) (fun i U av=>∃z l rs,U=[J (.ref a),J (.ref p),J v,J (.ref o),J (.ref L),J (.ref Cl),J (.ref gm),z,aw,aw,aw,aw,aw,aw,aw,aw,aw]/\dM gm d9 av/\xh av gm lh ak o m l rs/\rs.Pairwise jN/\rs.Nodup/\rs.length<=i/\∀r,r∈rs↔∃d,d∈ds.take i/\r=bf bW (.two 0 ns fs) d) ⟨_,l,[],I,dM.refl _ _,HX,.nil,List.nodup_nil,b8 _,fun r=>⟨(fun h=>nomatch h),(fun z=>by obtain⟨d,h,_⟩:=z;cases h)⟩⟩ ?_ ?_ ?_⟩
 ·rintro i U av ay ⟨z,l,rs,_,M2,_⟩
  exact bb (M2.k _ _ pU BI)
 ·rintro i x U av ao ⟨z,l,rs,rfl,M2,c1,nF,mN,kg,qL⟩
  obtain⟨d,hd,oQ⟩:=bP.at2 ds Hr ao
  obtain⟨f1,f2,_⟩:=fI d (fE hd)
  have ay:i<ds.length:=(g5.mp hd).1
  have dY:∀b u,b∉[gm]->d9 b=J u->av b=J u:=fun b u nb e=>M2.k b u (fun z=>nb (by rw[z];exact d5.mpr I)) e
  have vp:ds.take (i+1)=ds.take i++[d]:=by rw[jy,hd];rfl
  have mem:∀IJ:List (List Bool),(∀r,r∈IJ↔r∈rs\/r=bf bW (.two 0 ns fs) d)->∀r,r∈IJ↔∃d,d∈ds.take (i+1)/\r=bf bW (.two 0 ns fs) d:=fun IJ h r=>by
   rw[h r,qL r,vp]
   refine⟨fun z=>z.elim (fun⟨d,ai,aj⟩=>⟨d,List.mem_append_left _ ai,aj⟩) fun z=>⟨d,mq _ (d5.mpr I),z⟩,fun⟨d',ai,aj⟩=>?_⟩
   rcases List.mem_append.mp ai with z|z
   .exact .inl ⟨d',z,aj⟩
   .rw[d5.mp z]at aj;exact .inr aj
  refine⟨_,I,gm,ak,_,I,c1.1,Ps ..,_,I,gm,ak,o,l,m,x,.two 0 ns fs,d,rs,I,c1,cd.weak (fun x(ao:x∈([]:List af))=>nomatch ao) _ (cd.keep dY _ G7),Ci,ft,c8.at _ (c8.keep dY _ oQ),f1,by omega,by omega,fun gi=>?_,fun acy jW ss rV HY HP=>?_⟩
  .exact⟨_,l,rs,I,M2,c1,nF,mN,by omega,mem rs fun r=>⟨.inl,fun z=>z.elim id fun z=>by rw[z];exact gi⟩⟩
  ·have O1:jW≠gm:=(f5 c1.1 rV).symm
   have H3:(rs++[bf bW (.two 0 ns fs) d]).Nodup:=List.nodup_append.mpr ⟨mN,List.nodup_cons.mpr ⟨List.not_mem_nil,List.nodup_nil⟩,fun x ao y aU e=>acy (by rw[d5.mp aU]at e;rw[<-e];exact ao)⟩
   refine⟨_,jW,ss,I,(M2.trans (dM.move c1.1)).ext (Ext.lst (by rw[bK O1];exact rV)),⟨by rw[bK (eF O1)];exact aG,aG⟩,HY,HP.nodup_iff.mpr H3,by rw[HP.length_eq,dX];show rs.length+1<=_;omega,mem ss fun r=>?_⟩
   rw[HP.mem_iff,List.mem_append,d5]
 rintro U hF ⟨z,l,rs,rfl,xb,HU,acI,ac1,Oh,Og⟩
 rw[adV,List.take_length]at Og
 refine b3 _ _ ?_
 have dY:∀b u,b∉[gm]->d9 b=J u->hF b=J u:=fun b u nb e=>xb.k b u (fun z=>nb (by rw[z];exact d5.mpr I)) e
 have Hs:=bP.at _ (bP.keep dY _ Hr)
 have G8:=cd.weak (fun x(ao:x∈([]:List af))=>nomatch ao) _ (cd.keep dY _ G7)
 have NU:=c8.at _ (c8.keep dY _ NT)
 have xR:=xb.k _ _ pU BI
 have s9:=xb.k _ _ CC M0
 have JY:ef H hF:=fun b u e=>xb.k _ _ (md _ _ e) (JX _ _ e)
 clear dY Hr G7 NT BI M0 xb pU CC JX md b3 Oh HX
 obtain⟨m9,mQ,me,hD,rfl,xV,xY,oN⟩:=Mn NU
 have ON:me.length=fs.length:=by rw[bh.len _ oN,pw]
 obtain⟨k,hk,kU⟩:=iD aS fs.length (by omega)
 refine fT fun N b3=>⟨_,I,.inl (.inl ⟨_,_,_,_,I,I,bb s9,cB (j:=1) I,_,I,.inl (.inr ⟨_,_,_,_,I,I,bI xV,cB (j:=1) I,_,_,I,.inl ⟨_,bb xY,I⟩,_,_,I,I,(by rw[ON];omega),b3 _ _ (oD _ _ ?_)⟩)⟩)⟩
 clear oD b3
 dsimp only
 rw[ON,kU]
 refine Cc fun Eg oD=>?_
 have pick:∀e:Int,∃(T:af)(us:List V)(es:List D),ey ws (e%9)=J (.ref T)/\hF T=J (.tup us)/\bh hF es us/\hI fs B es/\us.length=fs.length:=fun e=>by
  obtain⟨j,b2,hK⟩:=iD e 9 (by decide)
  have hK:e%9=((j:Nat):Int):=hK
  have hw:ws[j]?=J ws[j]:=cp (by omega)
  obtain⟨d,hd,ao⟩:=bh.get ds Hs hw
  obtain⟨es,rfl,br⟩:=ma d (fE hd)
  obtain⟨T,us,aS,aV,gh,_⟩:=ao
  exact⟨T,us,es,by rw[hK];exact(cB hw).trans (congrArg J aS),aV,gh,br,by rw[bh.len es gh];exact br.l⟩
 have s0:∀{n m:Nat},m<=n->cA.cV n n (J ((m:Nat):Int))=m/\cA.cV n 0 (J ((m:Nat):Int))=m:=fun{n m}h=>⟨by rw[cA.o3];omega,by rw[cA.o3];omega⟩
 obtain⟨kN,ja,qB,a1,xS,kX,hM,OO⟩:=pick aV
 refine fT fun N b3=>⟨_,I,_,I,.inl (.inl ⟨_,_,_,_,I,I,bb s9,cB (j:=2) I,_,_,I,I,(by show(0:Int)<9;decide),.inl (.inl ⟨_,_,_,_,I,I,bb xR,a1,_,I,_,I,.inl (.inl ⟨kN,ja,I,bI xS,fun z=>by have:=z.2;rw[(s0 (by omega)).1]at this;omega,fun kO nz=>⟨_,_,rfl,.inr (bI aG),fun cq kC=>b3 _ _ ?_⟩⟩)⟩)⟩)⟩
 rw[Gg]at kC ⊢
 have sP:=(Ext.tup (xs:=ja.take k) nz).trans (Ext.lst (xs:=ja.take k) kC)
 have qz:upd (upd hF kO (.tup (ja.take k))) cq (.lst (ja.take k)) cq=J (.lst (ja.take k)):=aG
 generalize upd (upd hF kO (.tup (ja.take k))) cq (.lst (ja.take k))=DY at sP qz ⊢
 obtain⟨uZ,Jj,aaC,a3,xU,Ov,H8,adT⟩:=pick gh
 obtain⟨z3,Jk,aaD,a4,vo,Ow,H9,adU⟩:=pick (jC/2)
 have item:∀{us:List V}{es:List D},bh hF es us->hI fs B es->∀h:k<us.length,c3 hF (es.getD k .aT) us[k]:=fun{us es}hd br h=>by
  obtain⟨v,aS,aV⟩:=bh.item hd (i:=k) (by have:=br.l;omega)
  rw[cB (cp h)]at aS
  rw[e8 aS];exact aV
 refine fT fun N b3=>?_
 suffices ck:∀dd wl dl qb,Ext DY qb->qb dd=J (.tup wl)->bh qb dl wl->p2 fs B k dl->N [J (.ref a),J (.ref p),J (.ref m9),J (.ref o),J (.ref L),J (.ref Cl),J (.ref gm),z,J (.int ((k:Nat):Int)),J (.ref cq),J (.ref dd),aw,aw,aw,aw,aw,aw] qb by
  refine⟨_,I,_,I,.inl (.inl ⟨_,_,_,_,I,I,bb (sP.s _ _ s9),cB (j:=3) I,_,_,I,I,(by show(0:Int)<9;decide),.inl (.inl ⟨_,_,_,_,I,I,bb (sP.s _ _ xR),a3,_,I,_,I,_,I,.inl ⟨_,_,I,I,_,I,.inl (.inl ⟨uZ,Jj,I,bI (sP.s _ _ xU),fun z=>?_,fun t bZ=>?_⟩)⟩⟩)⟩)⟩
  ·have ai:=z.1
   have aj:=z.2
   try dsimp only at aj
   rw[show(((k:Nat):Int)+1)=((k+1:Nat):Int) by omega,(s0 (by omega)).1]at aj
   rw[(s0 (by omega)).2]at ai
   omega
  dsimp only
  rw[Ms Jj k (by omega)]
  have qq:=sP.trans (Ext.tup (xs:=[Jj[k]'(by omega)]) bZ)
  refine⟨_,I,.inl (.inl ⟨_,_,_,_,I,I,bb (qq.s _ _ s9),cB (j:=4) I,_,_,I,I,(by show(0:Int)<2;decide),_,I,?_⟩)⟩
  have ag:jC%2=((0:Nat):Int)\/jC%2=((1:Nat):Int):=by omega
  rcases ag with ag|ag
  ·dsimp only
   rw[ag]
   refine .inl (.inl ⟨t,_,I,bI aG,(fun z=>by have:=z.2;rw[(s0 (UF _)).1]at this;cases this),fun gs nz=>?_⟩)
   rw[Mt]
   exact ck gs [] [] _ ((Ext.tup bZ).trans (Ext.tup nz)) aG I p2.none
  ·dsimp only
   rw[ag]
   refine .inl (.inr ⟨t,_,I,bI aG,I,(s0 (b8 _)).1,?_⟩)
   exact ck t _ [aaC.getD k .aT] _ (Ext.tup bZ) aG ⟨_,_,I,c3.same qq.s _ (item Ov H8 _),I⟩ (H8.MS hk)
 intro dd wl dl qb Er Nb ip aQ
 refine b3 _ _ ?_
 clear b3
 have qq:=sP.trans Er
 refine fT fun N b3=>?_
 suffices ck:∀gN jq d4 sA,Ext qb sA->sA gN=J (.tup jq)->bh sA d4 jq->p2 fs B k d4->N [J (.ref a),J (.ref p),J (.ref m9),J (.ref o),J (.ref L),J (.ref Cl),J (.ref gm),z,J (.int ((k:Nat):Int)),J (.ref cq),J (.ref dd),J (.ref gN),aw,aw,aw,aw,aw] sA by
  refine⟨_,I,_,I,.inl (.inl ⟨_,_,_,_,I,I,bb (qq.s _ _ s9),cB (j:=4) I,_,_,I,I,⟨by decide,by decide⟩,_,_,rfl,rfl,(by show(0:Int)<9;decide),.inl (.inl ⟨_,_,_,_,rfl,rfl,bb (qq.s _ _ xR),a4,_,rfl,_,rfl,_,rfl,.inl ⟨_,_,rfl,rfl,_,rfl,.inl (.inl ⟨z3,Jk,rfl,bI (qq.s _ _ vo),fun z=>?_,fun t bZ=>?_⟩)⟩⟩)⟩)⟩
  ·have ai:=z.1
   have aj:=z.2
   try dsimp only at aj
   rw[show(((k:Nat):Int)+1)=((k+1:Nat):Int) by omega,(s0 (by omega)).1]at aj
   rw[(s0 (by omega)).2]at ai
   omega
  dsimp only
  rw[Ms Jk k (by omega)]
  have om:=qq.trans (Ext.tup (xs:=[Jk[k]'(by omega)]) bZ)
  refine⟨_,I,.inl (.inl ⟨_,_,_,_,I,I,bb (om.s _ _ s9),cB (j:=5) I,_,_,I,I,(by show(0:Int)<2;decide),_,I,?_⟩)⟩
  have ag:s8%2=((0:Nat):Int)\/s8%2=((1:Nat):Int):=by omega
  rcases ag with ag|ag
  ·dsimp only
   rw[ag]
   refine .inl (.inl ⟨t,_,I,bI aG,(fun z=>by have:=z.2;rw[(s0 (UF _)).1]at this;cases this),fun gs nz=>?_⟩)
   rw[Mt]
   exact ck gs [] [] _ ((Ext.tup bZ).trans (Ext.tup nz)) aG I p2.none
  ·dsimp only
   rw[ag]
   refine .inl (.inr ⟨t,_,I,bI aG,I,(s0 (b8 _)).1,?_⟩)
   exact ck t _ [aaD.getD k .aT] _ (Ext.tup bZ) aG ⟨_,_,I,c3.same om.s _ (item Ow H9 _),I⟩ (H9.MS hk)
 intro gN jq d4 sA xl Na i1 Bv
 refine b3 _ _ ?_
 clear b3 pick item a1 a3 a4 xU vo Ov Ow H8 H9 adT adU
 have GC:=(Er.trans xl).s _ _ qz
 refine fT fun N b3=>⟨_,I,_,_,I,.inl (bb GC),fun cR fQ=>b3 _ _ (oD _ _ ?_)⟩
 clear oD b3
 refine Cc fun Eg oD=>?_
 have om:=Ext.lst (xs:=ja.take k) fQ
 have xX:upd sA cR (.lst (ja.take k)) cR=J (.lst (ja.take k)):=aG
 generalize upd sA cR (.lst (ja.take k))=JI at om xX ⊢
 have Ah:=(qq.trans xl).trans om
 have NA:=cd.keep (fun b u _ e=>Ah.s b u e) _ G8
 have i0:=bh.same Ah.s _ (bh.cut qB k kX).1
 have Ik:(qB.take k).length=k:=by rw[ht,hM.l];omega
 obtain⟨B4,vL⟩:=hM.ZI (Nat.le_of_lt hk)
 have GD:=om.s _ _ GC
 have ZS:=Lv k _ hM.h
 clear GC qz OO hM
 generalize qB.take k=ee at i0 Ik B4 vL ZS
 generalize ja.take k=wf at GD xX i0
 obtain⟨Br,dp⟩:=aQ.all Ik
 obtain⟨Bq,Pp⟩:=Bv.all Ik
 have GK:=(xl.trans om).s _ _ Nb
 have Hn:=bh.same (xl.trans om).s _ ip
 have GJ:=om.s _ _ Na
 have Hm:=bh.same om.s _ i1
 have vI:BD bV fs ee dl d4=ah:=by unfold BD;rw[vL,Br,Bq,eu (by omega)];rfl
 refine fT fun N b3=>⟨_,I,_,I,_,I,_,I,o,cR,dd,gN,ns,fs,ee,dl,d4,I,⟨⟨wf,wl,jq,NA,xX,i0,GK,Hn,GJ,Hm⟩,Ci,by omega,by have h:=aL;rw[eJ]at h;have:=(lX h.1).1;have:=h.2.1;omega,aQ.n,Bv.n⟩,vI,dE (My B4 dp) (by omega),dE (My B4 Pp) (by omega),fun t nW aM l2=>b3 _ _ ?_⟩
 have mK:gU fs:=by have h:=aL;rw[eJ]at h;exact h.2.2
 have key:∀es,hI fs B es->o7 (i8 bW fs ee++k6 bW fs ee dl) nW (bf bW (.two 0 ns fs) (.tup es))=jF fs es ee dl d4:=fun es br=>by
  rw[FZ br.l]
  exact adv mK br.l br.f (by omega) vL aQ.n Bv.n Br Bq l2
 have Ia:nW=.aT\/∃e,nW=.str (aP e):=by
  rcases l2 with⟨_,⟨n,_,e⟩|⟨b,n,_,e⟩⟩|⟨_,e⟩
  .exact .inl e
  .exact .inr ⟨_,e⟩
  .exact .inr ⟨_,e⟩
 generalize i8 bW fs ee++k6 bW fs ee dl=st at key aM ⊢
 have pD:=Ext.tup (xs:=[V.str (aP st),nW]) aM
 have ez:upd JI t (.tup [V.str (aP st),nW]) t=J (.tup [V.str (aP st),nW]):=aG
 generalize upd JI t (.tup [V.str (aP st),nW])=w1 at pD ez ⊢
 have sO:=Ah.trans pD
 have M5:=pD.s _ _ GD
 have Z3:=pD.s _ _ xX
 have aaH:=pD.s _ _ GK
 have abT:=bh.same pD.s _ Hn
 have aaG:=pD.s _ _ GJ
 have abR:=bh.same pD.s _ Hm
 have dh:=bh.same pD.s _ i0
 have NS:=c3.same sO.s _ NU
 have NX:=bh.same sO.s _ Hs
 have M1:=sO.s _ _ xR
 have abx:=cd.keep (fun b u _ e=>sO.s b u e) _ G8
 have Cn:xh w1 gm lh ak o m l rs:=⟨sO.s _ _ HU.1,sO.s _ _ HU.2⟩
 have Sp:=JY.trans sO.s
 have vU:wf.length<=1000:=by have:=bh.len ee i0;have h:=aL;rw[eJ]at h;have:=(lX h.1).1;have:=h.2.1;omega
 have OH:∀{H':aq}{T:af}{wv:List V}{es:List D},ef w1 H'->H' T=J (.tup wv)->bh H' es wv->hI fs B es->JM H' (.ref m9) T cq dd gN ns fs es ee dl d4:=fun S aS aV br=>⟨c3.same S _ NS,aL,ft,⟨_,aS,aV⟩,⟨_,S _ _ M5,bh.same S _ dh⟩,⟨_,S _ _ aaH,bh.same S _ abT⟩,⟨_,S _ _ aaG,bh.same S _ abR⟩,br.l,br.f,by omega,vL,aQ.n,Bv.n,Br,Bq,br.h⟩
 clear l2 vI B4 dp Pp Br Bq i0 Hn Hm GK GJ GD xX NA Ah om pD xl qq Er sP Nb ip Na i1 kX xS G8 Hs xR s9 JY HU oN xY xV
 refine fT fun N b3=>⟨_,I,.inl ⟨_,"tuple",_,ah,I,.tup ez,Bg K "tuple" (by decide) "tuple" (by decide),ah,I,dW ⟨_,I,_,_,I,.inr ⟨_,bI ez,I⟩,.inl ⟨I,_,I,Ih I ⟨_,I,.inl (.inr ⟨_,_,_,_,I,I,bI ez,cB (j:=0) I,.inl ⟨_,"str",_,ah,I,.str _,Bg K "str" (by decide) "str" (by decide),ah,I,dW ⟨_,I,_,I,.inr ⟨.lst ee,.lst ee,⟨_,_,I,Z3,dh,vU⟩,⟨_,_,I,M5,dh,vU⟩,by rw[eH];omega,?_⟩⟩⟩⟩)⟩⟩⟩⟩⟩
 rw[Ls]
 refine⟨_,I,dW (b3 _ _ ?_)⟩
 refine fT fun N b3=>?_
 suffices ck:N [J (.ref a),J (.ref p),J (.ref m9),J (.ref o),J (.ref L),J (.ref Cl),J (.ref gm),z,J (.int ((k:Nat):Int)),J (.ref cq),J (.ref dd),J (.ref gN),J (.ref cR),J (.ref t),aw,aw,aw] w1 by
  refine⟨_,I,.inl (.inr ⟨_,_,_,_,I,I,bI ez,cB (j:=1) I,I,_,I,?_⟩)⟩
  rcases Ia with rfl|⟨e,rfl⟩
  .exact Ih I (dW ck)
  .exact e3 ⟨_,I,.inl (.inr ⟨_,_,_,_,I,I,bI ez,cB (j:=1) I,.inl ⟨_,"str",_,ah,I,.str _,Bg K "str" (by decide) "str" (by decide),ah,I,dW ck⟩⟩)⟩
 refine b3 _ _ ?_
 clear b3
 refine fT fun N b3 =>.inl ⟨_,I,_,I,.ref m9,L,.two 0 ns fs,ds,ws,I,NS,aL,ft,M1,NX,fun x ao=>⟨(fI x ao).1,by have:=(fI x ao).2.2;omega⟩,by omega,fun r fP fk ax vC qM=>⟨r,rfl,⟨_,bb aG⟩,fun ob BW=>?_⟩⟩
 have Ai:=Ext.lst (xs:=fk) ax
 have g6:upd w1 r (.lst fk) r=J (.lst fk):=aG
 have B7:=bh.same Ai.s _ vC.s.a
 generalize upd w1 r (.lst fk)=DX at Ai g6 BW B7 ⊢
 have Oz:∀d,d∈fP->∃es,d=.tup es/\hI fs B es:=fun d hd=>ma d ((qM d).mp hd)
 have jW:fk.length<=9:=by have:=vC.s.n;rw[bh.len fP B7];omega
 refine WU (K:=K) (a:=r) (xs:=fk) (fun i=>jF fs (items (fP.getD i .aT)) ee dl d4) (fun U=>∃z,U=[z,J (.ref m9),J (.ref cq),J (.ref dd),J (.ref gN)]) (jn (by omega)) ⟨_,I⟩ BW (bb g6) ?_ ?_
 ·rintro i x ao bL aiO ⟨z,rfl⟩ HT R R' b1
  obtain⟨d,hd,oQ⟩:=bh.get fP B7 ao
  obtain⟨es,rfl,br⟩:=Oz d (fE hd)
  obtain⟨xj,aik,rfl,rC,H6,_⟩:=oQ
  have b1:=b1 [J (.ref xj),J (.ref m9),J (.ref cq),J (.ref dd),J (.ref gN)] ⟨_,rfl⟩
  have iI:items (fP.getD i .aT)=es:=by rw[dN,hd];rfl
  rw[iI]at b1
  refine⟨_,I,_,I,_,I,_,I,_,I,_,xj,cq,dd,gN,ns,fs,es,ee,dl,d4,I,OH (Ai.s.trans HT) (HT _ _ rC) (bh.same HT _ H6) br,_,I,?_⟩
  cases ag:jF fs es ee dl d4 with
  |true =>
   rw[ag,if_pos rfl]at b1
   exact e3 ⟨_,I,b1⟩
  |false =>
   rw[ag,if_neg (by decide)]at b1
   exact dW b1
 have oJ:bh (upd DX ob (.lst (hC (fun i=>jF fs (items (fP.getD i .aT)) ee dl d4) fk 0))) (fP.filter fun d=>jF fs (items d) ee dl d4) (hC (fun i=>jF fs (items (fP.getD i .aT)) ee dl d4) fk 0):=bh.hC _ fP 0 (bh.same (dg BW) _ B7) fun i d h=>by rw[Nat.zero_add,dN,h];rfl
 have adS:=Gb (fun i=>jF fs (items (fP.getD i .aT)) ee dl d4) fk 0
 refine b3 _ _ (oD _ _ ?_)
 clear oD b3
 generalize hC (fun i=>jF fs (items (fP.getD i .aT)) ee dl d4) fk 0=wK at oJ adS ⊢
 have Ka:=Ext.lst (xs:=wK) BW
 have BG:upd DX ob (.lst wK) ob=J (.lst wK):=aG
 generalize upd DX ob (.lst wK)=Si at Ka BG oJ ⊢
 have qp:=Ai.trans Ka
 have M3:=qp.s _ _ M1
 have abY:=bh.same qp.s _ NX
 have xT:=qp.s _ _ ez
 have G6:=cd.keep (fun b u _ e=>qp.s b u e) _ abx
 have Sq:=Sp.trans qp.s
 obtain⟨Z0,aaX,aaB,adR⟩:=cd.row _ G6
 refine fT fun N b3 =>.inl ⟨_,I,L,I,⟨_,bb M3⟩,FP (K:=K) (a:=L) (xs:=ws) (fun i U av=>av=Si/\∃cP cL fL,U=[J (.ref a),J (.ref p),J (.ref m9),J (.ref o),J (.ref L),J (.ref Cl),J (.ref gm),cP,J (.int ((k:Nat):Int)),J (.ref cq),J (.ref dd),J (.ref gN),J (.ref cR),J (.ref t),J (.ref ob),cL,fL]) ⟨I,_,_,_,I⟩ ?_ ?_ ?_⟩
 ·rintro i U av ay ⟨rfl,_⟩
  exact bb M3
 ·rintro i x U av ao ⟨rfl,cP,cL,fL,rfl⟩
  obtain⟨d,hd,oQ⟩:=bh.get ds abY ao
  obtain⟨f1,f2,_⟩:=fI d (fE hd)
  obtain⟨es,rfl,br⟩:=ma d (fE hd)
  refine fT fun N b3=>⟨_,I,o,_,Z0,aaX,I,aaB,adR,_,I,_,o,.two 0 ns fs,x,_,I,I,G6,Ci,ft,oQ,f1,by omega,b3 _ _ ?_⟩
  have Ce:=key es br
  generalize bf bW (.two 0 ns fs) (.tup es)=jY at Ce ⊢
  obtain⟨xj,aik,rfl,rC,H6,_⟩:=oQ
  refine fT fun N b3=>?_
  suffices ck:N [J (.ref a),J (.ref p),J (.ref m9),J (.ref o),J (.ref L),J (.ref Cl),J (.ref gm),J (.ref xj),J (.int ((k:Nat):Int)),J (.ref cq),J (.ref dd),J (.ref gN),J (.ref cR),J (.ref t),J (.ref ob),J (.str (aP jY)),J (.aQ (o7 st nW jY))] av by
   refine⟨_,I,.inl (.inr ⟨_,_,_,_,I,I,bI xT,cB (j:=0) I,_,I,.inr ⟨_,_,I,I,_,I,?_⟩⟩)⟩
   have aS:o7 st nW jY=(!decide ((aP jY).cps.toList<(aP st).cps.toList)&&tc jY nW):=rfl
   rw[aS]at ck
   generalize (!decide ((aP jY).cps.toList<(aP st).cps.toList))=gG at ck ⊢
   cases gG with
   |false=>exact dW ck
   |true =>
    rw[Bool.true_and]at ck
    refine e3 ⟨_,I,.inl (.inr ⟨_,_,_,_,I,I,bI xT,cB (j:=1) I,I,_,I,?_⟩)⟩
    rcases Ia with rfl|⟨e,rfl⟩
    .exact iK I ck
    .refine fx (fun z=>nomatch z) ⟨_,I,_,I,.inl (.inr ⟨_,_,_,_,I,I,bI xT,cB (j:=1) I,.inr ⟨_,_,I,I,ck⟩⟩)⟩
  refine b3 _ _ ?_
  exact⟨_,I,_,I,_,I,_,I,_,I,_,I,_,xj,cq,dd,gN,ns,fs,es,ee,dl,d4,I,OH qp.s rC H6 br,.inl ⟨I,_,I,Ih (congrArg V.aQ Ce) ⟨I,_,_,_,I⟩⟩⟩
 rintro U av ⟨rfl,cP,cL,fL,rfl⟩
 refine b3 _ _ ?_
 have acN:rs=fP.map (bf bW (.two 0 ns fs)):=MG _ _ acI vC.s.s ((List.perm_ext_iff_of_nodup ac1 vC.u).mpr fun x=>by
  rw[Og x,List.mem_map]
  exact⟨fun⟨d,ai,aj⟩=>⟨d,(qM d).mpr ai,aj.symm⟩,fun⟨d,ai,aj⟩=>⟨d,(qM d).mp ai,aj.symm⟩⟩)
 have jE:(fP.filter fun d=>o7 st nW (bf bW (.two 0 ns fs) d))=fP.filter fun d=>jF fs (items d) ee dl d4:=List.filter_congr fun d hd=>by
  obtain⟨es,rfl,br⟩:=Oz d hd
  exact key es br
 have abV:eH (.lst (fP.filter fun d=>jF fs (items d) ee dl d4))<=12:=by
  rw[eH]
  have:=FQ (n:=6) (fP.filter fun d=>jF fs (items d) ee dl d4) fun d hd=>(fI d ((qM d).mp (List.mem_filter.mp hd).1)).2.2
  omega
 rw[acN]at Cn
 refine⟨_,I,gm,ak,_,I,qp.s _ _ Cn.1,Ps ..,_,I,.inl (.inr ⟨_,_,_,_,I,I,bI xT,cB (j:=0) I,_,I,.inl (.inr ⟨_,_,_,_,I,I,bI xT,cB (j:=1) I,gm,ak,o,l,m,.two 0 ns fs,fP,st,nW,I,⟨qp.s _ _ Cn.1,qp.s _ _ Cn.2⟩,G6,Ci,ft,fun d hd=>by have:=fI d ((qM d).mp hd);exact⟨this.1,by omega⟩,by have:=vC.s.n;omega,Ia,fun dZ k7 aiP Ep l1 Hl=>?_⟩)⟩)⟩
 rw[jE]at Hl
 have cR:=bh.len _ Hl
 have yE:=List.length_filter_le (fun d=>jF fs (items d) ee dl d4) fP
 exact⟨_,I,.ref dZ,.ref ob,.lst (fP.filter fun d=>jF fs (items d) ee dl d4),I,⟨dZ,k7,I,l1,Hl,by have:=vC.s.n;omega⟩,⟨ob,wK,rfl,Ep.s _ _ BG,bh.same Ep.s _ oJ,by omega⟩,abV,H,.refl (Sq.trans Ep.s),q _⟩
def q7(x q:ae)(st:bD)(aK:List ae):Prop:=∀(gL doc pm:au)(an:Option af)(bx ct:au)(us:List au),us.length=aK.length->bindArgs (mW x q (ni st) (ky st) (bR st) .none gL doc pm an bx ct) ⟨us,[]⟩=pure (aK.zip us)
theorem hv{a:ae}{st:bD}(h:∀(gL doc pm:au)(an:Option af)(bx ct u:au),bindArgs (mW x q (ni st) (ky st) (bR st) .none gL doc pm an bx ct) ⟨[u],[]⟩=pure [(a,u)]:=by intros;rfl):q7 x q st [a]:=fun _ _ _ _ _ _ us aD=>by
 rcases us with _|⟨_,_|⟨_,_⟩⟩<;>first|exact h .. |cases aD
theorem dy{a b:ae}{st:bD}(h:∀(gL doc pm:au)(an:Option af)(bx ct u v:au),bindArgs (mW x q (ni st) (ky st) (bR st) .none gL doc pm an bx ct) ⟨[u,v],[]⟩=pure [(a,u),(b,v)]:=by intros;rfl):q7 x q st [a,b]:=fun _ _ _ _ _ _ us aD=>by
 rcases us with _|⟨_,_|⟨_,_|⟨_,_⟩⟩⟩<;>first|exact h .. |cases aD
theorem vn{a b c:ae}{st:bD}(h:∀(gL doc pm:au)(an:Option af)(bx ct u v y:au),bindArgs (mW x q (ni st) (ky st) (bR st) .none gL doc pm an bx ct) ⟨[u,v,y],[]⟩=pure [(a,u),(b,v),(c,y)]:=by intros;rfl):q7 x q st [a,b,c]:=fun _ _ _ _ _ _ us aD=>by
 rcases us with _|⟨_,_|⟨_,_|⟨_,_|⟨_,_⟩⟩⟩⟩<;>first|exact h .. |cases aD
theorem ZJ{a b c d:ae}{st:bD}(h:∀(gL doc pm:au)(an:Option af)(bx ct u v y z:au),bindArgs (mW x q (ni st) (ky st) (bR st) .none gL doc pm an bx ct) ⟨[u,v,y,z],[]⟩=pure [(a,u),(b,v),(c,y),(d,z)]:=by intros;rfl):q7 x q st [a,b,c,d]:=fun _ _ _ _ _ _ us aD=>by
 rcases us with _|⟨_,_|⟨_,_|⟨_,_|⟨_,_|⟨_,_⟩⟩⟩⟩⟩<;>first|exact h .. |cases aD
theorem ZK{a b c d e:ae}{st:bD}(h:∀(gL doc pm:au)(an:Option af)(bx ct u v y z r:au),bindArgs (mW x q (ni st) (ky st) (bR st) .none gL doc pm an bx ct) ⟨[u,v,y,z,r],[]⟩=pure [(a,u),(b,v),(c,y),(d,z),(e,r)]:=by intros;rfl):q7 x q st [a,b,c,d,e]:=fun _ _ _ _ _ _ us aD=>by
 rcases us with _|⟨_,_|⟨_,_|⟨_,_|⟨_,_|⟨_,_|⟨_,_⟩⟩⟩⟩⟩⟩<;>first|exact h .. |cases aD
structure lj(K:bM)(x:ae)(C:af):Prop where
 a:ha K fl x=J (J (.ref C))
 cl:fY K C
 yL:zo K C=ah
 yC:p1 K (.ref C)=ah
theorem cpMk{K:bM}{C:af}(a:ha K fl x=J (J (.ref C)))(cU:Dt K C ae.empty=ah)(cf:Jw K C=ah)(IA:PySem.W.plainOver K C=ah)(yS:gn K (.ref C) "__setattr__"=J (J (.builtin "object.__setattr__")))(aeQ:zo K C=ah)(aeR:p1 K (.ref C)=ah):lj K x C:=⟨a,⟨cU,cf,IA,yS⟩,aeQ,aeR⟩
def dH(K:bM)(C:af)(x q:ae)(st:bD):Prop:=∃f fd,dG K x q st f fd/\uQ K C x f
def et(K:bM)(x:ae)(st:bD):Prop:=∃f fd,dG K x x st f fd/\ha K fl x=J (J (.ref f))
theorem mpMk{K:bM}{C f:af}{st:bD}{gL:au}(a:gn K (.ref C) x=J (J (.ref f)))(i:Jx K (.ref f)=ah)(l:K.lookup f=J ⟨i7,gM,.func (mW x q (ni st) (ky st) (bR st) .none gL doc pm an bx ct),nQ⟩)(c:Ds K bx q=ah)(k:p1 K (.ref f)=ah):dH K C x q st:=⟨f,_,MO l c k,a,i,k⟩
theorem fpMk{K:bM}{f:af}{st:bD}{gL:au}(a:ha K fl x=J (J (.ref f)))(l:K.lookup f=J ⟨i7,gM,.func (mW x x (ni st) (ky st) (bR st) .none gL doc pm an bx ct),nQ⟩)(c:Ds K bx x=ah)(k:p1 K (.ref f)=ah):et K x st:=⟨f,_,MO l c k,a⟩
theorem dH.at{K:bM}{C:af}{st:bD}(p:dH K C x q st)(cl:fY K C)(b:q7 x q st aK):MethAt K C x q st aK:=by
 obtain⟨f,fd,F,m⟩:=p
 exact⟨⟨f,fd,F,F.binds b,m⟩,cl⟩
theorem et.at{K:bM}{st:bD}{mg:ae->Option au}(X:K.In h)(G:h.Ns fl mg)(p:et K x st)(b:q7 x x st aK):∃f fd,d1 K mg x st aK f fd:=by
 obtain⟨f,fd,F,a⟩:=p
 exact⟨f,fd,F,F.binds b,hU X G a⟩
theorem dH.mk{C:af}{st:bD}{sp:cD}(p:dH K C "__init__" q st)(c:lj K x C)(m:mg x=J (.ref C))(b:q7 "__init__" q st aK)(h:∀f fd,dG K "__init__" q st f fd->de P w K mg base dv k f fd aK sp):j4 P w K mg base k x C aK sp:=by
 obtain⟨f,fd,F,fj⟩:=p
 exact⟨f,fd,⟨c.yL,fj.at_,fj.fn,c.yC⟩,h f fd F,F.binds b,m⟩
set_option maxHeartbeats 16000000 in
theorem Xet{l:PySem.W.OpenLaw}{w:cZ}{K:bM}{mg:ae->Option au}(X:K.In h)(G:h.Ns fl mg)(ab3:mg "law"=J (.ref fa))
  {kI p4 p5 p6 p3 n6 m1 ph pg pk n5 n4 pj:af} {ah7:Tok} {ah6:Tok} {aia:Tok} {ah5:Tok} {aib:Tok} {ah8:Tok} {ah4:Tok} {ah2:Tok} {ah9:Tok} {aic:Tok} {ah3:Tok}
  (tX:lj K "Source" kI)
  (tV:lj K "Nothing" p4)
  (tZ:lj K "Truth" p5)
  (t4:lj K "Whole" p6)
  (tS:lj K "Fraction" p3)
  (tY:lj K "Span" n6)
  (sf:lj K "Letters" m1)
  (tU:lj K "Maybe" ph)
  (tT:lj K "Many" pg)
  (t2:lj K "Turned" pk)
  (tW:lj K "Record" n5)
  (tR:lj K "Choice" n4)
  (yU:lj K "Shelf" pj)
  (aeq:gn K (.ref kI) "signs"=J aw)
  (aep:gn K (.ref kI) "place"=J aw)
  (aer:gn K (.ref kI) "turned"=J aw)
  (aeo:gn K (.ref kI) "endless"=J aw)
  (aes:gn K (.ref kI) "wished"=J aw)
  (afF:dH K kI "__init__" "Source.__init__" EH)
  (afE:dH K kI "draw" "Source.draw" zV)
  (afH:dH K kI "turn" "Source.turn" zU)
  (afI:dH K kI "wish" "Source.wish" zT)
  (afG:dH K kI "refuse" "Source.refuse" Kj)
  (adi:gn K (.ref p4) "__init__"=J (J (.builtin "object.__init__")))
  (aft:dH K p4 "fits" "Nothing.fits" zI)
  (afv:dH K p4 "written" "Nothing.written" Ac)
  (afs:dH K p4 "draw" "Nothing.draw" zL)
  (afu:dH K p4 "row" "Form.row" kR)
  (adj:gn K (.ref p5) "__init__"=J (J (.builtin "object.__init__")))
  (afP:dH K p5 "fits" "Truth.fits" An)
  (afR:dH K p5 "written" "Truth.written" zD)
  (afO:dH K p5 "draw" "Truth.draw" Ao)
  (afQ:dH K p5 "row" "Form.row" kR)
  (adk:gn K (.ref p6) "__init__"=J (J (.builtin "object.__init__")))
  (afY:dH K p6 "fits" "Whole.fits" Al)
  (af0:dH K p6 "written" "Whole.written" zC)
  (afX:dH K p6 "draw" "Whole.draw" Am)
  (afZ:dH K p6 "row" "Form.row" kR)
  (adh:gn K (.ref p3) "__init__"=J (J (.builtin "object.__init__")))
  (ae9:dH K p3 "fits" "Fraction.fits" zF)
  (afb:dH K p3 "written" "Fraction.written" Aa)
  (ae8:dH K p3 "draw" "Fraction.draw" zG)
  (afa:dH K p3 "row" "Form.row" kR)
  (aeu:gn K (.ref n6) "low"=J aw)
  (aet:gn K (.ref n6) "high"=J aw)
  (afL:dH K n6 "__init__" "Span.__init__" E5)
  (afK:dH K n6 "fits" "Span.fits" Av)
  (afN:dH K n6 "written" "Span.written" zH)
  (afJ:dH K n6 "draw" "Span.draw" Aw)
  (afM:dH K n6 "row" "Form.row" kR)
  (aeg:gn K (.ref m1) "signs"=J aw)
  (afe:dH K m1 "__init__" "Letters.__init__" EA)
  (afd:dH K m1 "fits" "Letters.fits" zN)
  (afh:dH K m1 "written" "Letters.written" Wp)
  (afc:dH K m1 "draw" "Letters.draw" zO)
  (aff:dH K m1 "places" "Letters.places" Af)
  (afg:dH K m1 "row" "Form.row" kR)
  (aei:gn K (.ref ph) "inner"=J aw)
  (afp:dH K ph "__init__" "Maybe.__init__" EX)
  (afo:dH K ph "fits" "Maybe.fits" Aq)
  (afr:dH K ph "written" "Maybe.written" zE)
  (afn:dH K ph "draw" "Maybe.draw" Ar)
  (afq:dH K ph "row" "Form.row" kR)
  (aeh:gn K (.ref pg) "inner"=J aw)
  (afk:dH K pg "__init__" "Many.__init__" E6)
  (afj:dH K pg "fits" "Many.fits" Ay)
  (afm:dH K pg "written" "Many.written" zM)
  (afi:dH K pg "draw" "Many.draw" Az)
  (afl:dH K pg "row" "Form.row" kR)
  (aev:gn K (.ref pk) "inner"=J aw)
  (afU:dH K pk "__init__" "Turned.__init__" EG)
  (afT:dH K pk "fits" "Turned.fits" zR)
  (afW:dH K pk "written" "Turned.written" Ad)
  (afS:dH K pk "draw" "Turned.draw" zS)
  (afV:dH K pk "row" "Form.row" kR)
  (aek:gn K (.ref n5) "names"=J aw)
  (aej:gn K (.ref n5) "forms"=J aw)
  (afy:dH K n5 "__init__" "Record.__init__" EI)
  (afx:dH K n5 "fits" "Record.fits" zW)
  (afA:dH K n5 "written" "Record.written" Ae)
  (afw:dH K n5 "draw" "Record.draw" zX)
  (afz:dH K n5 "row" "Form.row" kR)
  (aef:gn K (.ref n4) "names"=J aw)
  (aee:gn K (.ref n4) "forms"=J aw)
  (ae5:dH K n4 "__init__" "Choice.__init__" EJ)
  (ae4:dH K n4 "fits" "Choice.fits" zY)
  (ae7:dH K n4 "written" "Choice.written" Ag)
  (ae3:dH K n4 "draw" "Choice.draw" zZ)
  (ae6:dH K n4 "row" "Form.row" kR)
  (ael:gn K (.ref pj) "form"=J aw)
  (aem:gn K (.ref pj) "room"=J aw)
  (aen:gn K (.ref pj) "rows"=J aw)
  (afB:dH K pj "__init__" "Shelf.__init__" EW)
  (afC:dH K pj "put" "Shelf.put" Ax)
  (afD:dH K pj "told" "Shelf.told" Ap)
  (agJ:et K "turned_row" EL)
  (agC:et K "lower_digits" Ey)
  (age:et K "is_count" Fh)
  (agd:et K "has_whole_row" zB)
  (af4:et K "count_row" E3)
  (agL:et K "whole_row" EY)
  (aga:et K "fixed_row" E2)
  (af8:et K "draw_lower_digits" D2)
  (af5:et K "draw_count" EU)
  (af9:et K "draw_whole" ES)
  (af6:et K "draw_fixed" ET)
  (agI:et K "steps_of" Fb)
  (af1:et K "are_steps" E4)
  (agb:et K "fraction_of" EF)
  (af3:et K "common_divisor" Ee)
  (agf:et K "is_fraction" EE)
  (agc:et K "has_fraction_row" D3)
  (agG:et K "row_of_steps" Ex)
  (af7:et K "draw_fraction" Et)
  (agh:et K "is_number" E1)
  (agD:et K "made_of" Fs)
  (agg:et K "is_name" Ft)
  (agE:et K "names_of" Fd)
  (agK:et K "value_of" Fa)
  (agF:et K "read_all" Fc)
  (af2:et K "behind_all" EV)
  (agH:et K "span_of" Fq)
  (agj:et K "_law_cell_at" ED)
  (agt:et K "_law_pool" Fe)
  (agr:et K "_law_next" Ff)
  (agx:et K "_law_signs" EZ)
  (agp:et K "_law_names" E0)
  (agy:et K "_law_simple" EO)
  (agk:et K "_law_form" AF)
  (ago:et K "_law_made" AE)
  (agq:et K "_law_near" Fg)
  (agw:et K "_law_signed" EP)
  (agl:et K "_law_fraction" Ez)
  (agA:et K "_law_value" As)
  (agn:et K "_law_listed" Ak)
  (ags:et K "_law_order" Au)
  (agv:et K "_law_same" AD)
  (agu:et K "_law_record" ER)
  (agB:et K "_law_values" EM)
  (agm:et K "_law_in" FF)
  (agz:et K "_law_sorted" EN)
  (agi:et K "law" Gj)
  (aiy:ha K fl "len"=J aw)
  (aiB:ha K fl "range"=J aw)
  (aiw:ha K fl "int"=J aw)
  (aiF:ha K fl "str"=J aw)
  (aiu:ha K fl "bool"=J aw)
  (aiG:ha K fl "tuple"=J aw)
  (aix:ha K fl "isinstance"=J aw)
  (aiA:ha K fl "min"=J aw)
  (aiz:ha K fl "list"=J aw)
  (ait:ha K fl "all"=J aw)
  (aiC:ha K fl "reversed"=J aw)
  (aiv:ha K fl "enumerate"=J aw)
  (aiH:ha K fl "zip"=J aw)
  (aiD:ha K fl "set"=J aw)
  (aiE:ha K fl "sorted"=J aw)
  (ais:ha K fl "abs"=J aw)
  (aa3:ha K fl "MOST_DIGITS"=J (J (.int 255 ah7)))
  (aa2:ha K fl "MOST_AHEAD"=J (J (.int 7 ah6)))
  (aa6:ha K fl "MOST_SIGNS"=J (J (.int 60 aia)))
  (aa1:ha K fl "LONGEST_TEXT"=J (J (.int 200 ah5)))
  (aa7:ha K fl "MOST_VALUES"=J (J (.int 60 aib)))
  (aa4:ha K fl "MOST_PARTS"=J (J (.int 20 ah8)))
  (aa0:ha K fl "LONGEST_NAME"=J (J (.int 12 ah4)))
  (aaY:ha K fl "LEAST_ROOM"=J (J (.int 2 ah2)))
  (aa5:ha K fl "MOST_ROOM"=J (J (.int 20 ah9)))
  (aa8:ha K fl "SMALL_LETTERS"=J (J (.str "abcdefghijklmnopqrstuvwxyz" aic)))
  (aaZ:ha K fl "LETTERS_AND_FIGURES"=J (J (.str "abcdefghijklmnopqrstuvwxyzABCDEFGHIJKLMNOPQRSTUVWXYZ0123456789" ah3)))
  : ∃fd:iP,(∀(s:aO)(v:au),BindsTo s fd ⟨[v],[]⟩ [("_law_script",v)])/\∀base:bA,K.In base->base.Ns fl mg->de l.prog w K mg base dv 17 fa fd ["_law_script"] (C1 K):=by
 obtain⟨_,fd,JH,ZD⟩:=agi
 have e:=ab3.symm.trans (hU X G ZD)
 cases e
 have Gx:=JH.ex
 have ad3:=hU X G tX.a
 have wc:=hU X G tV.a
 have wd:=hU X G tZ.a
 have we:=hU X G t4.a
 have wb:=hU X G tS.a
 have ad4:=hU X G tY.a
 have adY:=hU X G sf.a
 have ad0:=hU X G tU.a
 have adZ:=hU X G tT.a
 have ad5:=hU X G t2.a
 have ad1:=hU X G tW.a
 have adX:=hU X G tR.a
 have ad2:=hU X G yU.a
 have ahT:MethAt K kI "draw" "Source.draw" zV ["self"]:=afE.at tX.cl hv
 have ahV:MethAt K kI "turn" "Source.turn" zU ["self"]:=afH.at tX.cl hv
 have ahW:MethAt K kI "wish" "Source.wish" zT ["self","sign"]:=afI.at tX.cl dy
 have ahU:MethAt K kI "refuse" "Source.refuse" Kj ["self"]:=afG.at tX.cl hv
 have uG:lS K p4:=⟨tV.yL,adi,tV.yC⟩
 have uH:lS K p5:=⟨tZ.yL,adj,tZ.yC⟩
 have uI:lS K p6:=⟨t4.yL,adk,t4.yC⟩
 have uF:lS K p3:=⟨tS.yL,adh,tS.yC⟩
 have ahQ:MethAt K m1 "places" "Letters.places" Af ["self","text"]:=aff.at sf.cl dy
 have ahR:MethAt K pj "put" "Shelf.put" Ax ["self","value"]:=afC.at yU.cl dy
 have ahS:MethAt K pj "told" "Shelf.told" Ap ["self","start","end"]:=afD.at yU.cl vn
 obtain⟨_,_,Sd⟩:=agJ.at X G hv
 obtain⟨_,_,R5⟩:=agC.at X G dy
 obtain⟨_,_,RI⟩:=age.at X G hv
 obtain⟨_,_,JG⟩:=agd.at X G hv
 obtain⟨_,_,Rz⟩:=af4.at X G hv
 obtain⟨_,_,Sf⟩:=agL.at X G hv
 obtain⟨_,_,RF⟩:=aga.at X G dy
 obtain⟨_,_,RD⟩:=af8.at X G dy
 obtain⟨_,_,RA⟩:=af5.at X G hv
 obtain⟨_,_,RE⟩:=af9.at X G hv
 obtain⟨_,_,RB⟩:=af6.at X G dy
 obtain⟨_,_,Sb⟩:=agI.at X G hv
 obtain⟨_,_,Rw⟩:=af1.at X G hv
 obtain⟨_,_,RG⟩:=agb.at X G hv
 obtain⟨_,_,Ry⟩:=af3.at X G dy
 obtain⟨_,_,RJ⟩:=agf.at X G hv
 obtain⟨_,_,RH⟩:=agc.at X G hv
 obtain⟨_,_,R9⟩:=agG.at X G hv
 obtain⟨_,_,RC⟩:=af7.at X G hv
 obtain⟨_,_,RL⟩:=agh.at X G hv
 obtain⟨_,_,R6⟩:=agD.at X G dy
 obtain⟨_,_,RK⟩:=agg.at X G hv
 obtain⟨_,_,R7⟩:=agE.at X G hv
 obtain⟨_,_,Se⟩:=agK.at X G dy
 obtain⟨_,_,R8⟩:=agF.at X G dy
 obtain⟨_,_,Rx⟩:=af2.at X G hv
 obtain⟨_,_,Sa⟩:=agH.at X G ZJ
 obtain⟨_,_,RM⟩:=agj.at X G dy
 obtain⟨_,_,RW⟩:=agt.at X G hv
 obtain⟨_,_,RU⟩:=agr.at X G hv
 obtain⟨_,_,R0⟩:=agx.at X G hv
 obtain⟨_,_,RS⟩:=agp.at X G dy
 obtain⟨_,_,R1⟩:=agy.at X G dy
 obtain⟨_,_,RN⟩:=agk.at X G dy
 obtain⟨_,_,RR⟩:=ago.at X G hv
 obtain⟨_,_,RT⟩:=agq.at X G hv
 obtain⟨_,_,RZ⟩:=agw.at X G hv
 obtain⟨_,_,RO⟩:=agl.at X G dy
 obtain⟨_,_,R3⟩:=agA.at X G dy
 obtain⟨_,_,RQ⟩:=agn.at X G vn
 obtain⟨_,_,RV⟩:=ags.at X G vn
 obtain⟨_,_,RY⟩:=agv.at X G dy
 obtain⟨_,_,RX⟩:=agu.at X G hv
 obtain⟨_,_,R4⟩:=agB.at X G dy
 obtain⟨_,_,RP⟩:=agm.at X G ZK
 obtain⟨_,_,R2⟩:=agz.at X G dy
 have nb:dT mg:=⟨kP X G aiy,kP X G aiB,kP X G aiw,kP X G aiF,kP X G aiu,kP X G aiG,kP X G aix,kP X G aiA,kP X G aiz,kP X G ait,kP X G aiC,kP X G aiv,kP X G aiH,kP X G aiD,kP X G aiE,kP X G ais⟩
 have GV:gX mg "MOST_DIGITS" (.int 255):=⟨_,hU X G aa3,⟨_,rfl⟩⟩
 have vv:gX mg "MOST_AHEAD" (.int 7):=⟨_,hU X G aa2,⟨_,rfl⟩⟩
 have GY:gX mg "MOST_SIGNS" (.int 60):=⟨_,hU X G aa6,⟨_,rfl⟩⟩
 have pQ:gX mg "LONGEST_TEXT" (.int 200):=⟨_,hU X G aa1,⟨_,rfl⟩⟩
 have pR:gX mg "MOST_VALUES" (.int 60):=⟨_,hU X G aa7,⟨_,rfl⟩⟩
 have GW:gX mg "MOST_PARTS" (.int 20):=⟨_,hU X G aa4,⟨_,rfl⟩⟩
 have GU:gX mg "LONGEST_NAME" (.int 12):=⟨_,hU X G aa0,⟨_,rfl⟩⟩
 have GR:gX mg "LEAST_ROOM" (.int 2):=⟨_,hU X G aaY,⟨_,rfl⟩⟩
 have GX:gX mg "MOST_ROOM" (.int 20):=⟨_,hU X G aa5,⟨_,rfl⟩⟩
 have GZ:gX mg "SMALL_LETTERS" (.str ks):=⟨_,hU X G aa8,⟨_,rfl⟩⟩
 have GS:gX mg "LETTERS_AND_FIGURES" (.str qf):=⟨_,hU X G aaZ,⟨_,rfl⟩⟩
 refine⟨fd,fun s v=>?_,fun base _ _=>?_⟩
 ·obtain⟨_,_,_,_,_,_,_,_,_,rfl,_⟩:=Gx
  exact .of_eq I
 have T:uY K kI:=⟨tX.cl,aeq,aep,aer,aeo,aes⟩
 have oa:=Wf (P:=l.prog) (w:=w) (base:=base) Sd
 have sx:=VC (P:=l.prog) (w:=w) (base:=base) nb R5
 have n8:=WN RF sx
 have m2:=Xj (P:=l.prog) (w:=w) (base:=base) GV RI
 have su:=Vo JG m2
 have Ru:=Vb JG m2
 have sq:=WO vv Rz m2 sx
 have ra:=WH Sf sq oa
 have q9:=Xb (P:=l.prog) (w:=w) (base:=base) Sb
 have ux:=WQ (P:=l.prog) (w:=w) (base:=base) nb Rw
 have DD:=VY nb RG ux
 have DC:=Vc (P:=l.prog) (w:=w) (base:=base) Ry
 have DE:=VX RJ DC
 have wX:=U3 nb RH DE q9 su m2
 have wZ:=VB nb R9 ra sq oa
 have gY:=(fp (P:=l.prog) (w:=w) (mg:=mg) (base:=base) ahT fun _ _ G=>TL nb T G).1
 have lR:=(fp (P:=l.prog) (w:=w) (mg:=mg) (base:=base) ahV fun _ _ G=>TJ T G).1
 have zJ:=(fp (P:=l.prog) (w:=w) (mg:=mg) (base:=base) ahW fun _ _ G=>TI T G).1
 have lQ:=(fp (P:=l.prog) (w:=w) (mg:=mg) (base:=base) (k:=1) (sp:=ua) ahU fun _ _ _=>UY).1
 have D6:=afF.mk (P:=l.prog) (w:=w) (base:=base) tX ad3 (vn fun _ _ _ _ _ _ _ _ _=>rfl) fun _ _ G=>Xc T G
 have zu:=U1 nb T.cl RD gY
 have sr:=Wq vv T.cl RA gY zu
 have q8:=Wn T.cl RE gY lR sr
 have n7:=Wo nb T.cl RB gY lQ
 have wW:=Vp nb T.cl RC gY lR zJ lQ q8 sr ux DD
 have m3:=Wm (P:=l.prog) (w:=w) (base:=base) nb RL
 have n9:=XK (P:=l.prog) (w:=w) (base:=base) nb R6
 have DF:=XM nb GU GZ RK n9
 have uB:=Xf nb GW R7 DF
 have e1:uX K n6:=⟨tY.cl,aeu,aet⟩
 have El:sG K m1:=⟨sf.cl,aeg⟩
 have SA:na K n5:=⟨tW.cl,aek,aej⟩
 have Sy:na K n4:=⟨tR.cl,aef,aee⟩
 have Sz:kL K ph:=⟨tU.cl,aei⟩
 have SD:kL K pg:=⟨tT.cl,aeh⟩
 have gQ:kL K pk:=⟨t2.cl,aev⟩
 have uO:=afL.mk (P:=l.prog) (w:=w) (base:=base) tY ad4 (vn fun _ _ _ _ _ _ _ _ _=>rfl) fun _ _ G=>WI e1 G
 have uK:=afe.mk (P:=l.prog) (w:=w) (base:=base) sf adY (dy fun _ _ _ _ _ _ _ _=>rfl) fun _ _ G=>Xg nb GY GS El G n9
 have uN:=afy.mk (P:=l.prog) (w:=w) (base:=base) tW ad1 (dy fun _ _ _ _ _ _ _ _=>rfl) fun _ _ G=>Xd nb SA G uB
 have uJ:=ae5.mk (P:=l.prog) (w:=w) (base:=base) tR adX (dy fun _ _ _ _ _ _ _ _=>rfl) fun _ _ G=>Xk nb Sy G uB
 have uM:=afp.mk (P:=l.prog) (w:=w) (base:=base) tU ad0 (dy fun _ _ _ _ _ _ _ _=>rfl) fun _ _ G=>Wg Sz G
 have uL:=afk.mk (P:=l.prog) (w:=w) (base:=base) tT adZ (dy fun _ _ _ _ _ _ _ _=>rfl) fun _ _ G=>WJ SD G
 have uP:=afU.mk (P:=l.prog) (w:=w) (base:=base) t2 ad5 (dy fun _ _ _ _ _ _ _ _=>rfl) fun _ _ G=>VV gQ G
 obtain⟨c,hc⟩:∃c:eQ,c=⟨fun k=>[p4,p5,p6,p3][k],n6,m1,fun k=>[ph,pg,pk][k],fun k=>[n5,n4][k]⟩:=⟨_,rfl⟩
 have aad:c.b 0=p4:=by rw[hc];rfl
 have aag:c.b 1=p5:=by rw[hc];rfl
 have aai:c.b 2=p6:=by rw[hc];rfl
 have Z9:c.b 3=p3:=by rw[hc];rfl
 have aaf:c.s=n6:=by rw[hc]
 have aaa:c.l=m1:=by rw[hc]
 have aac:c.o 0=ph:=by rw[hc];rfl
 have aab:c.o 1=pg:=by rw[hc];rfl
 have aah:c.o 2=pk:=by rw[hc];rfl
 have aae:c.t 0=n5:=by rw[hc];rfl
 have Z8:c.t 1=n4:=by rw[hc];rfl
 clear hc
 subst aad
 subst aag
 subst aai
 subst Z9
 subst aaf
 subst aaa
 subst aac
 subst aab
 subst aah
 subst aae
 subst Z8
 have z4:z6 K c:=⟨e1,El,fun k=>by rcases rH k with rfl|rfl|rfl<;>assumption,fun k=>by rcases td k with rfl|rfl<;>assumption⟩
 have Ss:ri K c "fits" Gd Gh ["self","value"]:=sZ (p:=fun i=>MethAt K (fW c i) "fits" (Gd i) (Gh i) ["self","value"]) (aft.at tV.cl dy) (afP.at tZ.cl dy) (afY.at t4.cl dy) (ae9.at tS.cl dy) (afK.at tY.cl dy) (afd.at sf.cl dy) (afo.at tU.cl dy) (afj.at tT.cl dy) (afT.at t2.cl dy) (afx.at tW.cl dy) (ae4.at tR.cl dy)
 have Sv:ri K c "written" Fu FA ["self","value"]:=sZ (p:=fun i=>MethAt K (fW c i) "written" (Fu i) (FA i) ["self","value"]) (afv.at tV.cl dy) (afR.at tZ.cl dy) (af0.at t4.cl dy) (afb.at tS.cl dy) (afN.at tY.cl dy) (afh.at sf.cl dy) (afr.at tU.cl dy) (afm.at tT.cl dy) (afW.at t2.cl dy) (afA.at tW.cl dy) (ae7.at tR.cl dy)
 have Sr:ri K c "draw" Ge Gi ["self","source"]:=sZ (p:=fun i=>MethAt K (fW c i) "draw" (Ge i) (Gi i) ["self","source"]) (afs.at tV.cl dy) (afO.at tZ.cl dy) (afX.at t4.cl dy) (ae8.at tS.cl dy) (afJ.at tY.cl dy) (afc.at sf.cl dy) (afn.at tU.cl dy) (afi.at tT.cl dy) (afS.at t2.cl dy) (afw.at tW.cl dy) (ae3.at tR.cl dy)
 have Su:ri K c "row" (fun _=>"Form.row") (fun _=>kR) ["self","value"]:=sZ (p:=fun i=>MethAt K (fW c i) "row" ("Form.row") (kR) ["self","value"]) (afu.at tV.cl dy) (afQ.at tZ.cl dy) (afZ.at t4.cl dy) (afa.at tS.cl dy) (afM.at tY.cl dy) (afg.at sf.cl dy) (afq.at tU.cl dy) (afl.at tT.cl dy) (afV.at t2.cl dy) (afz.at tW.cl dy) (ae6.at tR.cl dy)
 have xc:=(fp (P:=l.prog) (w:=w) (mg:=mg) (base:=base) ahQ fun _ _ G=>Vg El G).1
 have lb:=Y1 (P:=l.prog) (w:=w) (base:=base) nb z4 Ss pR pQ m3 Ru n9 wX 4
 have lg:=Xt nb z4 Sv xc ra n8 oa q9 wZ 4
 have lM:=S5 nb z4 Sr T.cl pR pQ gY lR lQ n7 q8 wW 4
 have n3:=Ud Su lb lg
 have DP:=Xa nb T Se lM
 have DN:=Xe R8 D6 DP
 have DI:=Xh (P:=l.prog) (w:=w) (base:=base) nb RW
 have DH:=WL (P:=l.prog) (w:=w) (base:=base) nb RU
 have ig:=bq.less DH fun _ _ _ _ h=>Yy h
 have DK:=WK (P:=l.prog) (w:=w) (base:=base) nb R0
 have p8:=WM (P:=l.prog) (w:=w) (base:=base) nb RS
 have uA:=Wi R1 ig DK
 have uy:=Kq nb RN ig p8 uA 3
 have p7:=Kp nb RR uG wc uH wd uI we uF wb uO uK uN uJ uM uL uP 8
 have zw:=Xi (P:=l.prog) (w:=w) (base:=base) nb RT
 have sv:=Wj RZ zw
 have uz:=VE (P:=l.prog) (w:=w) (base:=base) nb RO
 have p9:=Kk nb R3 DH sv uz 4
 have wY:=KC (P:=l.prog) (w:=w) (base:=base) nb RY 12
 have lP:=EK (P:=l.prog) (w:=w) (base:=base) nb RV RQ 4
 have DL:=VD nb R2 lP
 have zv:=Yu nb RP lP
 have DG:=VW (P:=l.prog) (w:=w) (base:=base) nb RM
 have DJ:=Wk nb RX ig p8 uy
 have DM:=Wh nb R4 DH p9
 have DB:=Wr (P:=l.prog) (w:=w) (base:=base) Rx
 have DO:=XI nb (z4.ud 0) Sa DB n3
 have xk:xi K pj:=⟨yU.cl,ael,aem,aen⟩
 have D5:=afB.mk (P:=l.prog) (w:=w) (base:=base) yU ad2 (vn fun _ _ _ _ _ _ _ _ _=>rfl) fun _ _ G=>XJ GR GX xk G
 have D7:=(fp (P:=l.prog) (w:=w) (mg:=mg) (base:=base) ahR fun _ _ G=>Ux nb xk G n3).1
 have D8:=(fp (P:=l.prog) (w:=w) (mg:=mg) (base:=base) ahS fun _ _ G=>TK nb xk G DN).1
 exact Zq nb xk xk.cl JH DI DJ p7 DM DG D5 D7 D8 DO zv DL wY n3
theorem walk{l:PySem.W.OpenLaw}{q:dA}{d:DefRec}{K:Params->bM}(aW:l.most=J 63)(oJ:d.params.defaults=[])
  (Hf:∀(w:cZ)(h:bA),rk w h->(K w.params).In h)
  (F:∀(w:cZ)(mg:ae->Option au)(fa:af)(h:bA),(K w.params).In h->h.Ns fl mg->mg d.name=J (.ref fa)->
   ∃fd:iP,(∀(s:aO)(u:au),BindsTo s fd ⟨[u],[]⟩ [("_law_script",u)])/\∀base:bA,(K w.params).In base->base.Ns fl mg->de l.prog w (K w.params) mg base dv 17 fa fd ["_law_script"] (C1 (K w.params))) :
  PySem.W.WalkO q loose u1 rk l.row.toRowW d [] (fun f vs=>PySem.call f vs) :=
 c0.Tb (n:=63) (k:=17) (x:="_law_script") (CX:=fun _=>dv) (sp:=fun w=>C1 (K w.params)) aW (by decide) oJ ⟨rfl,by decide,by decide⟩ Hf F (fun _ _ a ns aD _ dk=>⟨a,ns,rfl,dk,aD,fun _=>rfl⟩) fun _ _ _ _ _ z=>z
end
end KR
end
open PySem PySem.W PyProof.Rows
set_option maxRecDepth 100000 in
set_option maxHeartbeats 0 in
theorem PySem.Challenge.cw_keyrise_k92_whole_spans_of_a_shelf_holds : PySem.Challenge.rw_keyrise_k92_whole_spans_of_a_shelf.Holds := by
 refine KR.GG.2 ?_
 delta KR.GG
 dsimp only
 k_fill
 refine KR.walk (l:=PySem.Challenge.rw_keyrise_k92_whole_spans_of_a_shelf) rfl rfl (fun w h Y=>PySem.W.kIn_of Y) ?F
 case F =>
  intro w mg fa h KX G hmg
  refine' KR.Xet KX G hmg ?a0 ?a1 ?a2 ?a3 ?a4 ?a5 ?a6 ?a7 ?a8 ?a9 ?a10 ?a11 ?a12 ?a13 ?a14 ?a15 ?a16 ?a17 ?a18 ?a19 ?a20 ?a21 ?a22 ?a23 ?a24 ?a25 ?a26 ?a27 ?a28 ?a29 ?a30 ?a31 ?a32 ?a33 ?a34 ?a35 ?a36 ?a37 ?a38 ?a39 ?a40 ?a41 ?a42 ?a43 ?a44 ?a45 ?a46 ?a47 ?a48 ?a49 ?a50 ?a51 ?a52 ?a53 ?a54 ?a55 ?a56 ?a57 ?a58 ?a59 ?a60 ?a61 ?a62 ?a63 ?a64 ?a65 ?a66 ?a67 ?a68 ?a69 ?a70 ?a71 ?a72 ?a73 ?a74 ?a75 ?a76 ?a77 ?a78 ?a79 ?a80 ?a81 ?a82 ?a83 ?a84 ?a85 ?a86 ?a87 ?a88 ?a89 ?a90 ?a91 ?a92 ?a93 ?a94 ?a95 ?a96 ?a97 ?a98 ?a99 ?a100 ?a101 ?a102 ?a103 ?a104 ?a105 ?a106 ?a107 ?a108 ?a109 ?a110 ?a111 ?a112 ?a113 ?a114 ?a115 ?a116 ?a117 ?a118 ?a119 ?a120 ?a121 ?a122 ?a123 ?a124 ?a125 ?a126 ?a127 ?a128 ?a129 ?a130 ?a131 ?a132 ?a133 ?a134 ?a135 ?a136 ?a137 ?a138 ?a139 ?a140 ?a141 ?a142 ?a143 ?a144 ?a145 ?a146 ?a147 ?a148 ?a149 ?a150 ?a151 ?a152 ?a153 ?a154 ?a155 ?a156 ?a157 ?a158 ?a159 ?a160 ?a161 ?a162 ?a163 ?a164 ?a165 ?a166 ?a167 ?a168
  (case a0 | a1 | a2 | a3 | a4 | a5 | a6 | a7 | a8 | a9 | a10 | a11 | a12=>apply KR.cpMk<;>k_is)
  (case a13 | a14 | a15 | a16 | a17=>k_is)
  (case a18 | a19 | a20 | a21 | a22=>apply KR.mpMk<;>k_is)
  (case a23=>k_is)
  (case a24 | a25 | a26 | a27=>apply KR.mpMk<;>k_is)
  (case a28=>k_is)
  (case a29 | a30 | a31 | a32=>apply KR.mpMk<;>k_is)
  (case a33=>k_is)
  (case a34 | a35 | a36 | a37=>apply KR.mpMk<;>k_is)
  (case a38=>k_is)
  (case a39 | a40 | a41 | a42=>apply KR.mpMk<;>k_is)
  (case a43 | a44=>k_is)
  (case a45 | a46 | a47 | a48 | a49=>apply KR.mpMk<;>k_is)
  (case a50=>k_is)
  (case a51 | a52 | a53 | a54 | a55 | a56=>apply KR.mpMk<;>k_is)
  (case a57=>k_is)
  (case a58 | a59 | a60 | a61 | a62=>apply KR.mpMk<;>k_is)
  (case a63=>k_is)
  (case a64 | a65 | a66 | a67 | a68=>apply KR.mpMk<;>k_is)
  (case a69=>k_is)
  (case a70 | a71 | a72 | a73 | a74=>apply KR.mpMk<;>k_is)
  (case a75 | a76=>k_is)
  (case a77 | a78 | a79 | a80 | a81=>apply KR.mpMk<;>k_is)
  (case a82 | a83=>k_is)
  (case a84 | a85 | a86 | a87 | a88=>apply KR.mpMk<;>k_is)
  (case a89 | a90 | a91=>k_is)
  (case a92 | a93 | a94=>apply KR.mpMk<;>k_is)
  (case a95 | a96 | a97 | a98 | a99 | a100 | a101 | a102 | a103 | a104 | a105 | a106 | a107 | a108 | a109 | a110 | a111 | a112 | a113 | a114 | a115 | a116 | a117 | a118 | a119 | a120 | a121 | a122 | a123 | a124 | a125 | a126 | a127 | a128 | a129 | a130 | a131 | a132 | a133 | a134 | a135 | a136 | a137 | a138 | a139 | a140 | a141=>apply KR.fpMk<;>k_is)
  (case a142 | a143 | a144 | a145 | a146 | a147 | a148 | a149 | a150 | a151 | a152 | a153 | a154 | a155 | a156 | a157 | a158 | a159 | a160 | a161 | a162 | a163 | a164 | a165 | a166 | a167 | a168=>k_is)
