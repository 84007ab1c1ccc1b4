import PyProof.Rows.All
import Wide.Line
import Wide.Once
import Wide.FinOn
import OpenK.KLine
import OpenK.KOwn
import Open.Pieces
import KE.RegKIsAll
import KE.KIntText
import KE.KFromBytes
import KE.KItem
import KE.KxBytes
import KE.KRevIter
import KE.KUnpack
import KE.KIsAll
import KE.BitLaws
import PyProof.EqAt
import PyProof.EqKinds
import PyProof.TupleCall
import PyProof.Rows.SortStr
import PySem.Challenge.RW_keyrise_k71_put_and_take
set_option Elab.async false
set_option compiler.extract_closed false
set_option linter.all false
section KRGG
namespace PySem.W.Fast
abbrev N:=Nat
local macro_rules|`(command|seal $x*)=>return Lean.mkNullNode (← x.mapM fun y=>`(command|def $y:ident:=N))
seal
tw17220729777916571860 tw2941696867214833834 tw15164148665579101172 tw7134813355022243634 tw4377796739810814904 tw15902820786432078956 tw7308547379783275242 tw11012054252643582115 tw13801533386469849424 tw12787509821091586323 tw8047446833730659992 tw14518810652206154297 tw14638889180106054329 tw9752715208664976440 tw7641655053804212922 tw11168179901394604869 tw5335824739464217012 tw2748281033721510175 tw8412283242119140128 tw6754003322452165290 tw4119922941039332382 tw14894260193944714974 tw13805028641115959686 tw10414354464274599081 tw7878770984980282356 tw8903817878445817948 tw14012115942280582477 tw13091815701306119934 tw17562046892861906899 tw12671473338347981004
tw2035189344327008499 tw8776824803471081383 tw14252132428710426436 tw11460797387534649323 tw15806072961048072294 tw1914729661572908053 tw5997419971334671823 tw17464368548865840442 tw1223011274326550995 tw5255176495671107675 tw1275579806751706073 tw6561266733053125175 tw2755113537372302902 tw15844524063230519634 tw17249633076457077688 tw2247836410817055445 tw5788892633522023306 tw8156058656153023530 tw17331221216315286709 tw14016077925794100948 tw14764417897463554539 tw5087695498205818289 tw15684369583256266333 tw14262057899353484803 tw5579012676257195569 tw6390948533421927175 tw8525823877167910597 tw11980334350174472372 tw12751672503023703618 tw9587186703497935579
tw1134655106439458485 tw11729271522043862491 tw3552369540249472315 tw580893211566620740 tw10563427844632195498 tw8247285578700579947 tw11699151648338614771 tw17894273356272673395 tw9357969967824250668 tw5264867637441864490 tw15050394246784670869 tw10163691430736294714 tw8581316730081542062 tw2273027643163608089 tw2004364835279914815 tw14866596413969446918 tw11801264322879140932 tw2009223609998974657 tw12386321794889271764 tw4474484735700680428 tw16425126262301598627 tw4576315731270293460 tw13588645552305048559 tw14933559853624519671 tw3174849204519472354 tw3407297564689143251 tw2724167594354659430 tw16957495536082413317 tw11010157488913064047 tw2680934741277915049
tw12883208406943876504 tw7654539787312603059 tw3376292998885809927 tw889800982809812691 tw10590945558601460772 tw13993301158048199439 tw6294919561818538912 tw6034421294495436054 tw17945978012991258357 tw15713461617544865694 tw16431032929241196071 tw18021965825034534713 tw10964124902296109141 tw3301051832626021737 tw5428722359339429757 tw16314069649577610728 tw4606617000839895423 tw9566490970318289016 tw2163135332870726879 tw13277887224411729549 tw15862007220055102708 tw2433109567488440626 tw4976572293424302378 tw7901023834692353226 tw5719801896669120749 tw18198888816517795396 tw6213943191181595034 tw18371701374689127766 tw4358565590974353068 tw11315769273325084300
tw15740602939248797377 tw9765147763995856214 tw18388189172343605309 tw16124503543619060874 tw3882034941659532078 tw3324379312574851677 tw3719888233041684198 tw5482354944553638106 tw8433581840912296287 tw3008913778080488652 tw10066683132498034009 tw12653407787697590533 tw11898332335971079515 tw6970778866998757877 tw14322279581885105354 tw9350186808880309483 tw15945928583554078622 tw11870425822839731254 tw9883805332369111915 tw6201339668011388419 tw10513268369172877236 tw1275257110926951038 tw10187604642343419887 tw15086960929366060980 tw4409281312679245962 tw10238101938122762056 tw4234601287735525715 tw18266766643321487090 tw14139846279560748415 tw7905302937485968860
tw15095628436726586926 tw12570672764974369437 tw13873384114991516754 tw12573193184498266745 tw8694219875700561298 tw15200566140566403525 tw17299388237897513563 tw12873611715896670451 tw5256167602416384877 tw9223557606921253002 tw1380846671116394420 tw3005220699597455267 tw6886812593756787288 tw13662227704465424337 tw15208580336717222264 tw2245362756673346172 tw5419849810686911744 tw6552876503142814833 tw261391271351757251 tw4930923093125057211 tw1824554848002302309 tw7716613845612465473 tw1975577276892351770 tw10927012228346408387 tw10328444277086298730 tw14856280531883088336 tw6071942007055993045 tw1173573124546037259 tw787527674274854660 tw13921122628923294719
tw6509975396172466417 tw5905286947574413289 tw9192277505359059759 tw17369970315105767659 tw17619121035282065317 tw2215496166454336605 tw14050698129869525258 tw10158336275623736203 tw8308499497431556597 tw12280679657130569303 tw4186730007351689598 tw688874846632351730 tw10112420771419729407 tw5679581471857087449 tw2338737941685589406 tw3000177391843051813 tw4692765560177011131 tw5374606955664723296 tw15169478245819152308 tw6513332314012000261 tw15158552974777916586 tw5448812613555675388 tw7681541826314050604 tw4175258194786331229 tw13012126095992161836 tw3633089310216612126 tw10802145475942141591 tw16659497228760137281 tw12885064040608234305 tw8386617910859450585
tw600790827939664006 tw11515028507161587030 tw16472916588937435213 tw15923608028967281112 tw7455686637316496152 tw16923895863266855850 tw3400711782672554482 tw1182114722231220499 tw11402974833285460077 tw4320472122146082050 tw7141624208154999189 tw11759327689984386947 tw6908468078493192483 tw5010497432521878995 tw5726110170074747193 tw8330085448033618806 tw14286331109891190077 tw9803114728891638789 tw12642400775155766327 tw18059028215923703730 tw13125263547112173446 tw13386955181772860724 tw17982755647597357602 tw15472867694328970971 tw8906014716154353783 tw3724744785439384091 tw9579416360768656751 tw9826546625141217055 tw2146752145474532397 tw1079344587163316163
tw10027675449354998160 tw17011411565437323581 tw17687470107077593908 tw4641582201713315045 tw3612242250330009914 tw5994684331937527369 tw9830962003465313867 tw15692370232068918642 tw12266725156936384947 tw11946768462935014561 tw6397855274030963072 tw8221708295127157280 tw5790914990831036908 tw13775958501190018312 tw3574387170936441329 tw1984902579716283286 tw5807470699869155036 tw8389789286539519038 tw10933569153174611140 tw5978751950395429814 tw2230059553479939978 tw6245960441348764840 tw15519734806073604344 tw17760976073967452093 tw5527007624980673823 tw16510651977684155507 tw16600525421885881030 tw11842599192256329686 tw14960582979261259815 tw13983398514932933040
tw17410833354666351251 tw15329279102343564121 tw8405495039745342860 tw4068944919111353596 tw16711357431634272400 tw15592975627571476468 tw9943447503058563146 tw1744729047450273221 tw15175482201027942974 tw9676900826163330547 tw17848085272568754420 tw4603138725126698966 tw15737125420898026689 tw5426791105708701701 tw13317795008743893461 tw3621199119798838764 tw2905062541629164978 tw1222820690535720149 tw8296829768672560329 tw2286051356005181801 tw4265023369977571009 tw3967614042749497994 tw8083762859954685763 tw6871786195331299338 tw12024721771578041517 tw8373112287167972867 tw6573526737922768992 tw7932843739563104406 tw865383717961641771 tw15427728950514136953
tw9285997482530862105 tw14320370996805796159 tw3017911496416372464 tw15038175829335665188 tw17794944637469181668 tw10244760566624645297 tw10686885503460674277 tw10250282241524925770 tw17086452943708960654 tw6182810032598951256 tw7173941513611111938 tw12174880794736873308 tw1617080565462713869 tw17736870672931732487 tw14419435886017763111 tw16061933185449767267 tw848239939558556783 tw12508157939111785315 tw291883690986630965 tw6953360541006599001 tw5868471191974999324 tw10598918385338248321 tw4716010135325677215 tw9585503120782033261 tw3795323240717696721 tw5738836393526004031 tw11391988462347972600 tw8070364255954691518 tw15669986652078240669 tw2339302741944197588
tw17364153854445751430 tw6039484080631424987 tw4622184844143317426 tw4003167498065272914 tw4673674355661221612 tw16284063107998194767 tw1198970923931827666 tw1481096749480145279 tw17347524983925029797 tw9698050264377668718 tw1450804371557022064 tw905608150807628540 tw4790876236763424128 tw14748738399395179780 tw13189667740634344906 tw2826661482744437399 tw8742077665212701409 tw3253009079431714487 tw9377868011802345338 tw12556626980593034391 tw7556898640887410492 tw4854614600241232282 tw5659045528833179970 tw6324763412626085587 tw5304375117506653382 tw5857324816172056594 tw10372223938963170680 tw18198497722935045927 tw12897999774961528697 tw15640997312728440644
tw156149520175217139 tw2615724900306367522 tw15503649878732393277 tw1339800756775419369 tw16464623625927299428 tw8511000120112713901 tw17837685765009922398 tw13211948107722105406 tw2297726166808961835 tw5560505710024145231 tw3111434803037931979 tw17317701880320526256 tw10610854545958705997 tw3248518227374567338 tw13129246335879660292 tw11027099917682085862 tw15786042982653418144 tw11947710737887398020 tw17043298291359783371 tw6113064460759774997 tw9715082932011116853 tw5226184809074623592 tw6007586703182861041 tw7346845486541174555 tw2810738922951890913 tw16077111964291814735 tw8388922687962770720 tw13129039268555917738 tw10133578096267568170 tw11182743537742748127
tw13479297750002522644 tw9821073994449887618 tw16648134937706268778 tw12902971461651080511 tw12281327414900869528 tw14097783338213233099 tw15647223806808119926 tw17717966824309803867 tw1938903184624923567 tw15527354920134424983 tw2203222640345167141 tw320424620841066448 tw2269424713412695953 tw4189817837058066142 tw12039447747258871975 tw3406731395124829261 tw18210239727384044819 tw733321177604455444 tw3713199337739589195 tw8357224964843339691 tw6892704869417354911 tw5572739267495530028 tw3949414701339205955 tw9169423763728630290 tw4361216740525674223 tw3061525793939889061 tw9542408471335315523 tw5802692131324389157 tw5412731359938907310 tw75201182070074883
tw9196657621963430764 tw17260468763849885766 tw17278935798399966792 tw2548765905597629124 tw284689883584891519 tw14571174642705885520 tw5619161020702665785 tw10583840195713265866 tw13927593359582651390 tw14012168891128000251 tw14851997194278260083 tw7913979102552151966 tw9800307579766259036 tw8243622923282002968 tw13955634912675928384 tw13588561820411570963 tw4999732139247144656 tw694642073802810570 tw4857428018390631631 tw6770007307098955102 tw8988689811685476287 tw13804731231120810843 tw7917629199457908180 tw2314970905242281209 tw904113871397063810 tw17530066289364983234 tw9833077695379936569 tw2456828797039359063 tw14459743502021417964 tw16055892861650129573
tw3526395632997387628 tw1483864528397657997 tw3811007826317078804 tw7318715738153841418 tw9643504594763753455 tw12615686369584142623 tw17078115314212131868 tw12625455369171716108 tw12231650839437833206 tw9452316223650021748 tw8912673900658571059 tw17716783065658325425 tw12554511005400842163 tw10278444759952635615 tw16484373235233323003 tw17995487649970216013 tw2957610391716988187 tw2906411361143026621 tw13519223870425673645 tw7542359177645088717 tw13646796312282829174 tw570536188666196964 tw12558306636185774339 tw4007702977611917601 tw9159226492712250532 tw7689531397567431506 tw576437894364537234 tw167227094588277130 tw16458165087540219119 tw2445328891018983107
tw18151841227162984767 tw4929986449012584819 tw8241414290369838734 tw2067323549077388404 tw224699819037663685 tw7448722249883384235 tw1466316994865865727 tw7451914778677147680 tw6998213161938522900 tw2401516932082720151 tw4326610084274348958 tw4684317719430989086 tw5805848659672292634 tw10022896620794824232 tw3874053766655886925 tw7012849572192584077 tw2590524081261994668 tw7550994457270199423 tw4734801814590566819 tw13422681398988726375 tw14975917137036982365 tw14133150251263811151 tw15472075141073827564 tw18190185204631001880 tw14240910633768018075 tw15413663042336620902 tw15493487831443393472 tw16740974391886585538 tw17982380966025259097 tw17283275499616133193
tw1121331771855970681 tw1969032208239417933 tw9188348782090363411 tw12375976595136397634 tw3397014562311831827 tw3420983218328878144 tw3362710214939488542 tw6694980489667771761 tw18373710971657219128 tw10601010333593806495 tw2930281174396233594 tw14757565482042677866 tw15931482030086905401 tw8842269932181521606 tw9394217582556762757 tw7069800380616614578 tw12701133670860617530 tw10588782336371210188 tw9060691092404425886 tw14449353081591539509 tw600094365901446370 tw15098504102513207355 tw1742812687610674024 tw5964635586218475779 tw979095866598319235 tw11028326114988807621 tw7648998327836558644 tw5497800362559160020 tw3829648710163105475 tw8672561264062896372
tw7368872484851334612 tw16718718379526124970 tw14242560256056461168 tw8198348009711851909 tw16123982690064747684 tw18425209800334518792 tw15997435512271277493 tw17027689684337937673 tw10174590756279268134 tw3881348749417455218 tw13580950089111385650 tw10738042027035932062 tw9660152165599737983 tw7268284582052399196 tw17722493905744866683 tw8888416945669570296 tw4293394473162420937 tw15572265305415586925 tw6028266773615531204 tw4479592329572115768 tw12338731306399610732 tw4681019145591326456 tw15913506877699003418 tw10753135177541634534 tw4469125762781307192 tw15162926072850965159 tw16147437075745093082 tw2972111521326798826 tw2659072476663833792 tw2910005244558282157
tw3193033804058433642 tw10523096160501485240 tw17153750386481938683 tw12897765692491414794 tw8149973606672650572 tw12098585196044787596 tw5945974089522883900 tw9266806322183982389 tw16318444820982158067 tw14493444461128485499 tw9583891939944680207 tw1626862263513390308 tw6804708784231499328 tw11516013501997735286 tw9658440684577063225 tw13814925961453674011 tw7389648556133542603 tw14138171971726270798 tw5409529122524549651 tw17059442725932302600 tw8500148338790919411 tw3004133718110596237 tw13341459520901514397 tw7166867064229915461 tw16484119908903571367 tw9548098706868647723 tw583529700378162008 tw11507553843131028154 tw11365895800290552305 tw3657432456943387068
tw13832733815926576180 tw16028206069690098778 tw12939109266567907517 tw5105101979040554145 tw16404211833539216600 tw10129147000763743623 tw16952133794870281701 tw15868514606335890740 tw13769963041230472250 tw3798184086160737800 tw18446714602270003655 tw17727182371947804315 tw7522298405516248640 tw14726202185129308621 tw14604035597513782624 tw6771092188161812869 tw5200655645281074041 tw13544216107996279232 tw18224623479991405916 tw14001025553167179772 tw6797845994565971972 tw7468273711332074344 tw12043623347634212221 tw6463001881697687860 tw12266428067920066308 tw1109581682223159220 tw3304017685199507442 tw1084301561754307364 tw13955121062881812861 tw13785631942656374702
tw18302228493523316108 tw14207206061555126573 tw6560831341857405188 tw1280781523901410495 tw582514216201808304 tw8581601229135160683 tw12876523117734376790 tw7613000563319886847 tw12098942765511562078 tw14905887743770281214 tw1327415967910556768 tw2928334294011617215 tw500264313278707665 tw16590021335037955473 tw5955726635297372163 tw14078468628056549199 tw7264271350526374916 tw2337358290234106804 tw5205491068060713431
end PySem.W.Fast
theorem KR.absorb{G P:Prop}(_ _:G)(m:P):P:=m
open PySem PySem.W PyProof.Rows
set_option maxRecDepth 100000 in
set_option maxHeartbeats 0 in
noncomputable def KR.GG:{G:Prop // G→PySem.Challenge.rw_keyrise_k71_put_and_take.Holds}:=⟨_,fun hG=>by
 refine KR.absorb hG ?hc ?main
 case main =>
  w_on;o_law;k_head
  case hw=>w_witness2
 case hc=>exact hG⟩
end KRGG
set_option tactic.hygienic false
section
open Option renaming some → J,none → ax
open PySem renaming Str → ae,Addr → af,Value → av,Shared → aR,Stmt → bA,Heap → bG,Obj → bZ,wpAny → b4,sizeLine → cg,wpAny_bind → cq,Expr → cU,World → dc,Builtin → de,Program → dI,Around → dU,starEach → en,mainGlobals → fp,wpAny_pure → fq,compareOp → hg,PassesOwn → iB,FuncData → jc,NameKind → kf,bootBuiltins → kg,wpAny_field → kh,binaryOp → lz,wpAny_mono → mz,codeAny → oe,wpAny_seqItems → sO,codeAny_mono → uO,wpAny_Call_Name_kw → uP,wpAny_passesOwn → uQ,wpAny_setField → uR,keywordEach → xn,wpAny_setField_rec → xo,wpAny_truthy_bool → Ac,wpAny_call → D8,wpAny_getItem_str_slice → D9,codeAny_call_builtin → SK
open Bool renaming true → ah,false → aE
open PySem.W renaming findIn → gB,nsIn → hf,emptyDict → nc,instObj → nd,fnOf → od,kitOne → pF,keepIn → qk,kia_one → rq,kia_tup → rr,makesIn → Ab,codeIn → D6,plainGet → D7,callWith_K → Kq,hasDictIn → Kr,isFn → Ks,kitAny → Kt,kitx_list → Ku,lookIn → Kv
def I{α:Sort _}{a:α}:a=a:=rfl
set_option maxHeartbeats 4000000
abbrev bS:=@PySem.W.Frag
abbrev gq:=@Option.some.inj
abbrev ic:=@PySem.W.mg_of
abbrev kJ:=@PySem.W.mg_none_of
abbrev nr:=@List.mem_append_right
abbrev Uf:=@Option.map_eq_some_iff
abbrev nt:=@Bool.and_eq_true_iff
abbrev ei:=@Ne.symm
abbrev cI:=@List.getElem?_eq_getElem
abbrev cA:=@List.length_map
abbrev eJ:=@List.getD_eq_getElem?_getD
abbrev dw:=@List.mem_cons_of_mem
abbrev dd:=@List.mem_cons
abbrev dP:=@List.length_append
abbrev cp:=@Nat.le_refl
abbrev eb:=@List.length_cons
abbrev eD:=@List.getElem?_map
abbrev fV:=@PySem.Heap.get?_push_of_some
abbrev eT:=@decide_eq_true
abbrev eU:=@List.size_toArray
abbrev eY:=@List.mem_of_getElem?
abbrev gr:=@List.getElem?_eq_some_iff
abbrev eA:=@List.mem_cons_self
abbrev fK:=@Nat.lt_of_lt_of_le
abbrev fL:=@decide_eq_false
abbrev dF:=@Nat.le_trans
abbrev ft:=@List.mem_singleton
abbrev fP:=@List.map_append
abbrev UF:=@Nat.zero_le
abbrev hA:=@PySem.Heap.get?_push_size
abbrev gL:=@List.append_assoc
abbrev ia:=@Bool.false_ne_true
abbrev hX:=@of_decide_eq_true
abbrev ib:=@Int.emod_lt_of_pos
abbrev e2:=@PySem.Heap.lt_size
abbrev jh:=@Array.length_toList
abbrev g4:=@Bool.and_eq_true
abbrev hY:=@Int.emod_nonneg
abbrev fB:=@List.map_cons
abbrev k5:=@List.length_singleton
abbrev hl:=@Nat.ne_of_lt
abbrev hN:=@List.length_take
abbrev oD:=@List.idxOf_lt_length_of_mem
abbrev gg:=@List.map_map
abbrev UV:=@List.take_of_length_le
abbrev kn:=@decide_eq_true_eq
abbrev iG:=@List.take_add_one
abbrev nq:=@List.drop_eq_getElem_cons
abbrev g5:=@Nat.lt_or_ge
abbrev ie:=@List.length_drop
abbrev kK:=@List.length_range
abbrev ko:=@List.getElem_map
abbrev lG:=@List.cons_ne_nil
abbrev ig:=@List.all_eq_true
abbrev lH:=@List.flatten_cons
abbrev nu:=@List.map_congr_left
abbrev vz:=@List.getElem?_eq_none
local macro_rules | `(⋯)=>`(by decide+kernel)
local macro_rules | `(tactic| lia) => `(tactic| first | (with_reducible first | assumption | exact Nat.le_of_succ_le_succ ‹_› | exact Nat.le_of_lt_succ ‹_› | exact Nat.le_of_lt ‹_› | exact Nat.sub_succ_lt_self _ _ ‹_› | exact Nat.succ_le_of_lt ‹_› | exact Nat.lt_of_lt_of_eq ‹_› ‹_› | exact Nat.lt_of_lt_of_eq ‹_› (Eq.symm ‹_›) | exact dF ‹_› (by decide) | exact Nat.add_le_add_right ‹_› _ | exact dF ‹_› ‹_› | exact Nat.lt_trans ‹_› ‹_› | exact Nat.le_add_right .. | exact Nat.le_add_left .. | exact fK ‹_› ‹_› | exact dF (Nat.sub_le ..) ‹_› | exact dF (dF (Nat.min_le_right ..) (Nat.sub_le ..)) ‹_› | exact dF (Nat.min_le_right ..) (Nat.sub_le ..) | exact fK ‹_› (Nat.min_le_right ..) | exact fK ‹_› (Nat.min_le_left ..) | exact Nat.max_le.mpr ⟨dF (Nat.le_max_left ..) ‹_›, ‹_›⟩ | exact (Int.toNat_of_nonneg ‹_›).symm | exact dF (Nat.le_max_right ..) ‹_› | exact Nat.sub_lt_sub_right ‹_› ‹_› | exact Nat.add_sub_of_le ‹_› | exact Nat.le_add_right_of_le ‹_› | exact dF (Nat.le_add_right ..) ‹_› | exact Nat.le_antisymm ‹_› (Nat.not_lt.mp ‹_›) | exact Nat.le_of_eq ‹_› | exact dF ‹_› (Nat.le_max_right ..) | exact Int.ofNat_lt.mpr ‹_› | exact Nat.lt_of_le_of_lt ‹_› (by decide) | exact Int.natCast_nonneg _ | exact dF (Nat.le_of_eq ‹_›) ‹_›) | lia (splits := 9) | omega (config := {}))
open _root_ renaming autoParam→rg
theorem rur(_:True:=by first|exact .inl I|exact .inr I|assumption)(_:True:=by decide)(_:True:=by rfl)(_:True:=by first|exact Or.inl I|exact Or.inr I)(_:True:=by intro _;rfl)(_:True:=by decide+kernel)(_:True:=by first|exact Or.inl I|exact Or.inr (Or.inl I)|exact Or.inr (Or.inr I))(_:True:=by first|decide|lia)(_:True:=by intro _ _;rfl)(_:True:=by intros;rfl)(_:True:=by intro vs H Q E h;first|(cases h;subst_vars;rfl)|((repeat (obtain⟨_,h⟩:=h))<;>(subst_vars;rfl))):True:=trivial
def w5:=rur._auto_1
def w7:=rur._auto_2
def w8:=rur._auto_3
def rrr:=rur._auto_4
def rrs:=rur._auto_5
def rru:=rur._auto_6
def rrv:=rur._auto_7
def rsr:=rur._auto_8
def rss:=rur._auto_9
def rsu:=rur._auto_10
def rsv:=rur._auto_11
set_option Elab.async false
set_option linter.all false
set_option maxRecDepth 100000
open PySem
variable {us bq:List av} {P prog:dI} {w:dc} {h zn:bG} {g':Array GenState} {t' i j k n:Nat} {d':Drawn} {ch cm:List af} {it C:af} {x e7:ae} {N ns aQ:List ae} {M:Model} {A:dU} {E Q:av->aR->Prop} {u doc pm bw ct iW:av} {br s:aR} {e c ep iter:cU} {α:Type} {bh pos':Pos} {au:List (af×bZ)} {K:bS} {aZ:List cU} {body:List bA} {lo:Int} {f:av->av->Sem av} {op:CmpOp} {fI mg:ae->Option av} {kw:List (ae×av)} {env:Env} {fd:jc} {outer:List Env} {sc dR:Scope} {an gA:Option af} {nZ:Array (Option av)}
namespace c7
open PySem PySem.Spec PyProof.Rows
noncomputable abbrev Key:=Sum Int ae
noncomputable def PO:Key->av->Bool
 |.inl k,v=>av.isInt k v
 |.inr x,v=>av.isStrOf x v
noncomputable def ae7(w:dc):Key->Int
 |.inl k=>hashInt k
 |.inr x=>hashStr w x
theorem qE:∀{k:Key}{v:av},PO k v=ah->(∃i t,k=Sum.inl i/\v=av.int i t)\/(∃x t,k=Sum.inr x/\v=av.str x t)
 |.inl i,v,h=>by
  obtain⟨t,e⟩:=av.isInt_shape (k:=i) (v:=v) h;exact .inl ⟨i,t,I,e⟩
 |.inr x,v,h=>by
  obtain⟨t,e⟩:=av.isStrOf_shape (x:=x) (v:=v) h;exact .inr ⟨x,t,I,e⟩
def WM(a b:Int):decide ((Sum.inl a:Key)=Sum.inl b)=(a == b):=by
 by_cases e:a=b
 .subst e;simp
 ·have h:¬(Sum.inl a:Key)=Sum.inl b:=fun q=>e (Sum.inl.inj q);rw[fL h];exact(beq_eq_false_iff_ne.mpr e).symm
def WJ(a b:ae):decide ((Sum.inr a:Key)=Sum.inr b)=decide (a=b):=by
 by_cases e:a=b
 .subst e;simp
 ·have h:¬(Sum.inr a:Key)=Sum.inr b:=fun q=>e (Sum.inr.inj q);rw[fL h,fL e]
def WL(a:Int)(b:ae):decide ((Sum.inl a:Key)=Sum.inr b)=aE:=fL (fun q=>nomatch q)
def WK(a:ae)(b:Int):decide ((Sum.inr a:Key)=Sum.inl b)=aE:=fL (fun q=>nomatch q)
noncomputable def PZ(prog:dI)(w:dc):PySem.KeyKind prog w Key where
 is:=PO
 hash:=ae7 w
 inj:=fun v a b aM ag=>by
  rcases qE aM with⟨i,t,rfl,rfl⟩|⟨x,t,rfl,rfl⟩
  ·rcases qE ag with⟨j,u,rfl,e⟩|⟨y,u,rfl,e⟩
   .injection e with aL _;rw[aL]
   .exact nomatch e
  ·rcases qE ag with⟨j,u,rfl,e⟩|⟨y,u,rfl,e⟩
   .exact nomatch e
   .injection e with aL _;rw[aL]
 byValue:=fun k v h=>by
  rcases qE h with⟨i,t,rfl,rfl⟩|⟨x,t,rfl,rfl⟩<;>rfl
 pyHash:=fun bR h=>by
  rcases qE bR with⟨i,t,rfl,rfl⟩|⟨x,t,rfl,rfl⟩
  .exact wpAny_pyHash_int h
  .exact wpAny_pyHash_str h
 eqBool:=fun cz bR h=>by
  rcases qE cz with⟨i,t,rfl,rfl⟩|⟨x,t,rfl,rfl⟩
  ·rcases qE bR with⟨j,u,rfl,rfl⟩|⟨y,u,rfl,rfl⟩
   .rw[WM]at h;exact wpAny_eqBool_int h
   .rw[WL]at h;exact SeqAt.EqAt.int_str i t y u _ _ _ _ h
  ·rcases qE bR with⟨j,u,rfl,rfl⟩|⟨y,u,rfl,rfl⟩
   .rw[WK]at h;exact SeqAt.EqAt.str_int x t j u _ _ _ _ h
   .rw[WJ]at h;exact wpAny_eqBool_str h
 «strs» := fun k x t v h=>by
  rcases qE h with⟨i,u,rfl,e⟩|⟨y,u,rfl,e⟩
  .exact nomatch e
  ·injection e with aL _;subst aL;cases v<;>rfl
inductive V where
 |bf|aK (b:Bool)|int (i:Int)|str (x:ae)|k8 (b:Array UInt8)|rT (b:UInt64)|ref (a:af)|ty (n:String)
 deriving DecidableEq
noncomputable def RelV:V->av->Prop
 |.bf,u=>u=av.none
 |.aK b,u=>u=av.bool b
 |.int i,u=>∃t,u=av.int i t
 |.str x,u=>∃t,u=av.str x t
 |.k8 b,u=>∃t,u=av.bytes b t
 |.rT b,u=>∃t,u=av.float b t
 |.ref a,u=>u=av.ref a
 |.ty n,u=>u=av.type n
noncomputable abbrev Vals:List V->List av->Prop:=Paired RelV
theorem Vals.length{xs:List V}(r:Vals xs us):xs.length=us.length:=Paired.length r
theorem Vals.get:∀{xs:List V}{us:List av}{i:Nat}{x:V},Vals xs us->xs[i]?=J x->∃u,us[i]?=J u/\RelV x u
 |_,_,_,_,.nil,e=>by simp at e
 |_,_,0,_,.cons r _,e=>by simp at e;subst e;exact⟨_,I,r⟩
 |_,_,i+1,x,.cons _ t,e=>by
  obtain⟨u,ai,ar⟩:=Vals.get (i:=i) (x:=x) t (by simpa using e);exact⟨u,by simpa using ai,ar⟩
theorem Vals.append:∀{xs ay:List V}{us ws:List av},Vals xs us->Vals ay ws->Vals (xs++ay) (us++ws)
 |_,_,_,_,.nil,s=>s
 |_,_,_,_,.cons r t,s =>.cons r (Vals.append t s)
theorem Vals.take:∀{xs:List V}{us:List av}(n:Nat),Vals xs us->Vals (xs.take n) (us.take n)
 |_,_,0,_ =>.nil
 |_,_,_+1,.nil =>.nil
 |_,_,n+1,.cons r t =>.cons r (Vals.take n t)
theorem Vals.drop:∀{xs:List V}{us:List av}(n:Nat),Vals xs us->Vals (xs.drop n) (us.drop n)
 |_,_,0,r=>r
 |_,_,_+1,.nil =>.nil
 |_,_,n+1,.cons _ t=>Vals.drop n t
noncomputable def pN:Option V->Option av->Prop
 |some v,J u=>RelV v u
 |none,ax=>True
 |_,_=>False
noncomputable def EO{uM:Type}:List (uM×V)->List (uM×av)->Prop:=Paired fun(p:uM×V)(q:uM×av)=>p.1=q.1/\RelV p.2 q.2
noncomputable def hr:Key->V
 |.inl i =>.int i
 |.inr x =>.str x
inductive cX where
  |lst (xs:List V)
  |tup (xs:List V)
  |lM (fR:List (Key×V))|oP (fR:List (List Key×V))
  |set (S:Int->Bool) (n:Nat)
  |ins (C ak:af) (fs:List (ae×V))
  |own (x:af)
  |my (fs:List (ae×V))
  |met (f x:af)
  |zI (lo aF:Int)
  |iM (o:bZ) (u:cX)
  |rj (aQ:Array av)
  |ext (uN:bG->Prop)
noncomputable abbrev al:=af->Option cX
noncomputable def upd(H:al)(a:af)(o:cX):al:=fun b=>if b=a then J o else H b
variable {H:al} {a:af}
def aG{o:cX}:upd H a o a=J o:=by unfold upd;rw[if_pos rfl]
def bC{b:af}{o:cX}(h:b≠a):upd H a o b=H b:=by unfold upd;rw[if_neg h]
def fe{b:af}{o:cX}(h:H a=J o)(h':H b=ax):a≠b:=by
 intro e;subst e;rw[h]at h';cases h'
section
variable (P:dI) (w:dc)
noncomputable def hM(H:al)(h:bG)(a:af):cX->Prop
 |.lst xs=>xs.length<=cg/\∃(bq:List av)(n:Nat),Vals xs bq/\h.get? a=J {cls :=.type "list",data :=.seq bq.toArray n}
 |.tup xs=>xs.length<=cg/\∃bq:List av,Vals xs bq/\IsTup h a bq.toArray
 |.lM fR=>fR.length<=cg/\(a == sysModules)=aE/\∃vs,EO fR vs/\h.DictOf (PZ P w) a vs
 |.oP _=>False
 |.set S n=>h.SetOf (intKind P w) a S n
 | .ins C ak fs=>H ak=J (.own a)/\fs.length<=1000/\ak≠a/\h.get? a=J (nd C ak)/\
   ∃fI,h.Ns1 ak fI/\(∀f,pN (fs.lookup f) (fI f))/\PySem.Within fI (fs.map (·.1))
 |.own _=>∃o,h.get? a=J o
 |.my fs=>∃fI,h.Ns1 a fI/\∀f,pN (fs.lookup f) (fI f)
 |.zI lo aF=>∃t u v,h.get? a=J {cls :=.type "range",data :=.fields #[.int lo t,.int aF u,.int 1 v]}
 |.iM o u=>h.get? a=J o/\hM H h a u
 |.rj aQ=>h.get? a=J {cls :=.none,data :=.fields aQ}
 |.met f x=>h.get? a=J (PySem.W.methodObj (.ref f) (.ref x))
 |.ext uN=>uN h/\(∃o,h.get? a=J o)/\∀ai ar:bG,uN ai->(∀o,ai.get? a=J o->ar.get? a=J o)->uN ar
def gd(H:al)(h:bG):Prop:=∀a o,H a=J o->hM P w H h a o
end
section
variable {P:dI} {w:dc} {H H':al} {h h':bG} {a:af} {o:cX}
theorem hM.lt(x:hM P w H h a o):a<h.objs.size:=by
 cases o with
 |lst xs=>obtain⟨_,_,_,_,e⟩:=x;exact e2 e
 |tup xs=>obtain⟨_,_,_,p⟩:=x;exact p.lt
 |lM fR=>obtain⟨_,_,_,_,o,_,_,e,_⟩:=x;exact e2 e
 |oP fR=>exact(show False from x).elim
 |set S n=>obtain⟨o,_,_,_,e,_⟩:=x;exact e2 e
 |ins C ak fs=>obtain⟨_,_,_,e,_⟩:=x;exact e2 e
 |own y=>obtain⟨_,e⟩:=x;exact e2 e
 |my fs=>obtain⟨_,⟨_,_,_,e,_⟩,_⟩:=x;exact e2 e
 |zI lo aF=>obtain⟨_,_,_,e⟩:=x;exact e2 e
 |iM eh u=>obtain⟨e,_⟩:=x;exact e2 e
 |rj aQ=>exact e2 (show h.get? a=J _ from x)
 |met f y=>exact e2 (show h.get? a=J _ from x)
 |ext uN=>obtain⟨_,⟨_,e⟩,_⟩:=x;exact e2 e
def hM.sH(x:hM P w H h a o)(k:∀b u,(b=a\/H b=J (.own a))->h.get? b=J u->h'.get? b=J u)
  (aN:∀b,H b=J (.own a)->H' b=J (.own a)) (bc:∀b xs,H b=J (.tup xs)->H' b=J (.tup xs)):hM P w H' h' a o:=by
 induction o with
 |lst xs=>obtain⟨z,bq,n,r,e⟩:=x;exact⟨z,bq,n,r,k _ _ (.inl I) e⟩
 |tup xs=>obtain⟨z,bq,r,eh,e,c⟩:=x;exact⟨z,bq,r,eh,k _ _ (.inl I) e,c⟩
 |lM fR=>obtain⟨z,y,vs,r,eh,aZ,gh,e,c⟩:=x;exact⟨z,y,vs,r,eh,aZ,gh,k _ _ (.inl I) e,c⟩
 |oP fR=>exact(show False from x).elim
 |set S n=>obtain⟨eh,aZ,gh,t,e,c⟩:=x;exact⟨eh,aZ,gh,t,k _ _ (.inl I) e,c⟩
 |ins C ak fs =>
  obtain⟨d,z,ne,e,fI,⟨gA,aZ,gh,aS,c⟩,r⟩:=x;exact⟨aN _ d,z,ne,k _ _ (.inl I) e,fI,⟨gA,aZ,gh,k _ _ (.inr d) aS,c⟩,r⟩
 |own y=>obtain⟨eh,e⟩:=x;exact⟨eh,k _ _ (.inl I) e⟩
 |my fs=>obtain⟨fI,⟨gA,aZ,gh,e,c⟩,r⟩:=x;exact⟨fI,⟨gA,aZ,gh,k _ _ (.inl I) e,c⟩,r⟩
 |zI lo aF=>obtain⟨t,u,v,e⟩:=x;exact⟨t,u,v,k _ _ (.inl I) e⟩
 |iM eh u bK=>obtain⟨e,q⟩:=x;exact⟨k _ _ (.inl I) e,bK q⟩
 |rj aQ =>
  have e:h.get? a=J {cls :=.none,data :=.fields aQ}:=x;show h'.get? a=J {cls :=.none,data :=.fields aQ};exact k a _ (.inl I) e
 |met f y =>
  have e:h.get? a=J (PySem.W.methodObj (.ref f) (.ref y)):=x;show h'.get? a=J (PySem.W.methodObj (.ref f) (.ref y));exact k a _ (.inl I) e
 |ext uN=>obtain⟨p,⟨o,e⟩,st⟩:=x;exact⟨st _ _ p fun o q=>k _ _ (.inl I) q,⟨o,k _ _ (.inl I) e⟩,st⟩
theorem gd.lt(x:gd P w H h)(e:H a=J o):a<h.objs.size:=(x a o e).lt
def gd.fresh(x:gd P w H h)(e:h.objs.size<=a):H a=ax:=by
 cases q:H a with
 |none=>rfl
 |some u=>exact absurd (fK (x.lt q) e) (Nat.lt_irrefl _)
def gd.kept(x:gd P w H h)(k:∀b u,h.get? b=J u->h'.get? b=J u):gd P w H h':=fun a o e =>
 (x a o e).sH (fun b u _ q=>k b u q) (fun _ q=>q) fun _ _ q=>q
def gd.laid(x:gd P w H h)(k:∀b u,h.get? b=J u->h'.get? b=J u)(aU:h.objs.size<=a)(new:hM P w (upd H a o) h' a o):gd P w (upd H a o) h':=fun b u e=>by
 have aV:=x.fresh aU;by_cases ag:b=a
 .subst ag;rw[aG]at e;cases e;exact new
 ·rw[bC ag]at e;exact(x b u e).sH (fun c v _ q=>k c v q) (fun c q=>by rw[bC (fe q aV)];exact q) fun c xs q=>by rw[bC (fe q aV)];exact q
end
def AY(H:al)(a:af)(u:cX):Prop:=H a=J u\/∃o,H a=J (.iM o u)
def AY.ok{u:cX}(r:AY H a u)(x:gd P w H h):hM P w H h a u:=by
 rcases r with r|⟨o,r⟩
 .exact x a u r
 ·obtain⟨_,q⟩:=x a _ r;exact q
noncomputable def AG:Option cX->Prop
 |some (.lst _)=>True
 |some (.lM _)=>True
 |some (.oP _)=>True
 |some (.set _ _)=>True
 |some (.ins _ _ _)=>True
 |some (.ext _)=>True
 |_=>False
section
variable {P:dI} {w:dc} {H:al} {h h':bG} {x e:af} {o':cX}
def gd.write(ok:gd P w H h)(nW:AG (H x))(he:e=x\/H e=J (.own x))(k:∀b u,b≠e->h.get? b=J u->h'.get? b=J u)(wt:∃u,h'.get? e=J u)
  (new:hM P w (upd H x o') h' x o'):gd P w (upd H x o') h':=fun b u q=>by
 have P7:∀c y,H c=J (.own y)->c≠x:=fun c y r z=>by subst z;rw[r]at nW;exact nW
 have agk:∀c xs,H c=J (.tup xs)->c≠x:=fun c xs r z=>by subst z;rw[r]at nW;exact nW
 by_cases ag:b=x
 .subst ag;rw[aG]at q;cases q;exact new
 ·rw[bC ag]at q;by_cases mU:b=e
  ·have iA:H b=J (.own x):=by
    rcases he with z|z
    .exact absurd (mU.trans z) ag
    .rw[mU];exact z
   rw[q]at iA;cases iA;obtain⟨v,bR⟩:=wt;exact⟨v,by rw[mU];exact bR⟩
  ·refine(ok b u q).sH (fun c v hc r=>k c v ?_ r) (fun c r=>by rw[bC (P7 c b r)];exact r) fun c xs r=>by rw[bC (agk c xs r)];exact r
   rcases hc with rfl|hc
   .exact mU
   ·rintro rfl;rcases he with z|z
    .exact P7 c b hc z
    .rw[hc]at z;cases z;exact ag I
end
structure g6(fs ex:List af)(H H':al)(h h':bG):Prop where
 keep:∀b o,h.get? b=J o->H b=ax->b∉fs->b∉ex->h'.get? b=J o
 slot:∀b o,h.get? b=J o->H b=ax->b∈fs->b∉ex->∃eC,h'.get? b=J {o with slots:=eC}
 free:∀b o,h.get? b=J o->H b=ax->b∉ex->H' b=ax
 there:∀b o,h.get? b=J o->b∉ex->∃o',h'.get? b=J o'
 pA:∀b xs,H b=J (.tup xs)->H' b=J (.tup xs)
 nH:∀b o u,H b=J (.iM o u)->H' b=J (.iM o u)
 px:∀b aQ,H b=J (.rj aQ)->∃more,H' b=J (.rj (aQ++more))
section
variable {fs oT ex rR:List af} {H H1 ao:al} {h ai ar h':bG} {a x e:af} {o:cX}
def g6.any(u:g6 fs ex H H1 h ai){b:af}{eh:bZ}(q:h.get? b=J eh)(n:H b=ax)(aq:b∉ex):∃eC,ai.get? b=J {eh with slots:=eC}:=by
 by_cases ag:b∈fs
 .exact u.slot b eh q n ag aq
 .exact⟨eh.slots,u.keep b eh q n ag aq⟩
def g6.kept(k:∀b u,h.get? b=J u->h'.get? b=J u):g6 fs ex H H h h' :=
 ⟨fun b eh q _ _ _=>k b eh q,fun b eh q _ _ _=>⟨eh.slots,k b eh q⟩,fun _ _ _ n _=>n,fun b eh q _=>⟨eh,k b eh q⟩,fun _ _ q=>q,fun _ _ _ q=>q,fun _ aQ q=>⟨#[],by rw[q];simp⟩⟩
def g6.refl:g6 fs ex H H h h:=g6.kept fun _ _ q=>q
def g6.laid(k:∀b u,h.get? b=J u->h'.get? b=J u)(aU:h.objs.size<=a)(aV:H a=ax):g6 fs ex H (upd H a o) h h' where
 keep:=fun b u q _ _ _=>k b u q
 slot:=fun b u q _ _ _=>⟨u.slots,k b u q⟩
 free:=fun b u q n _=>by rw[bC (hl (fK (e2 q) aU))];exact n
 there:=fun b u q _=>⟨u,k b u q⟩
 pA:=fun b xs q=>by rw[bC (fe q aV)];exact q
 nH:=fun b u xs q=>by rw[bC (fe q aV)];exact q
 px:=fun b aQ q=>⟨#[],by rw[bC (fe q aV),q];simp⟩
def g6.write(nW:AG (H x))(he:e=x\/H e=J (.own x))(k:∀b u,b≠e->h.get? b=J u->h'.get? b=J u)(wt:∃u,h'.get? e=J u):g6 fs ex H (upd H x o) h h':=by
 have aq:∀b,H b=ax->b≠x:=fun b n z=>by subst z;rw[n]at nW;exact nW
 have ag:∀b,H b=ax->b≠e:=fun b n z=>by
  subst z;rcases he with r|r
  .exact aq b n r
  .rw[n]at r;cases r
 have hm:∀b u,H b=J u->¬AG (J u)->b≠x:=fun b u q nm z=>by subst z;rw[q]at nW;exact nm nW
 refine⟨fun b u q n _ _=>k b u (ag b n) q,fun b u q n _ _=>⟨u.slots,k b u (ag b n) q⟩,fun b u q n _=>by rw[bC (aq b n)];exact n,fun b u q _=>?_,
  fun b xs q=>by rw[bC (hm b _ q fun z=>z)];exact q,fun b u xs q=>by rw[bC (hm b _ q fun z=>z)];exact q,fun b aQ q=>⟨#[],by rw[bC (hm b _ q fun z=>z),q];simp⟩⟩
 by_cases mU:b=e
 .subst mU;exact wt
 .exact⟨u,k b u mU q⟩
end
noncomputable def DU(h:bG)(H:al):List af:=(List.range h.objs.size).filter fun a=>(H a).isSome
noncomputable def qX(h:bG)(H:al):bG:=PySem.W.hideAll h (DU h H)
def aa9(h:bG)(H:al):(qX h H).objs.size=h.objs.size:=PySem.W.hideAll_size _ _
variable {o:bZ}
def UP{b:af}(e:h.get? b=J o)(n:H b=ax):(qX h H).get? b=J o :=
 PySem.W.hideAll_get _ e fun hm=>by
  have q:(H b).isSome=ah:=(List.mem_filter.mp hm).2;rw[n]at q;simp at q
def VS{b:af}(e:(qX h H).get? b=J o):h.get? b=J o/\H b=ax:=by
 have e':h.get? b=J o:=PySem.W.of_hideAll (DU h H) e;refine⟨e',?_⟩;cases q:H b with
 |none=>rfl
 |some x =>
  have hm:b∈DU h H:=List.mem_filter.mpr ⟨List.mem_range.mpr (e2 e'),by simp[q]⟩;have z:(qX h H).get? b=ax:=PySem.W.hideAll_none (DU h H) hm;rw[z]at e;cases e
noncomputable def abA(g h:bG)(L:af):List (af×bZ):=(List.range h.objs.size).filterMap fun a=>if a=L\/(g.get? a).isSome=ah then ax else(h.get? a).map fun o=>(a,o)
noncomputable def rest(g h:bG)(L d:af):List (af×bZ):=(abA g h L).filter fun p=>decide (p.1≠d)
structure Mod(K:bS)(mg:ae->Option av)(zn:bG):Prop where
 wI:K.In zn
 glob:zn.Ns fp mg
 blt:∃nU,zn.Ns builtinsNs nU/\∀x:ae,x≠"__name__"->nU x=kg x
 nolimit:zn.NoLimit
structure bQ where
 prog:dI
 w:dc
 K:bS
 mg:ae->Option av
 zn:bG
 A:dU
 N:List ae
 eQ:aR
 jI:al
 env:Env
 outer:List Env
 stack:List Env
 ex:List af
 fn:ae->Bool
 calm:Bool
 pn:List (af×bZ)
 xe:av->aR->Prop
noncomputable def ks(l:List Env):List af:=l.filterMap (·.frame)
noncomputable abbrev bQ.fs(X:bQ):List af:=ks X.outer
def A3(sc:Scope)(x:ae):Prop:=sc.names.lookup x=J .local\/sc.names.lookup x=J .cell\/sc.names.lookup x=J .free
def Loc(sc:Scope)(x:ae):Prop:=sc.names.lookup x=J .local\/sc.names.lookup x=J .cell
def Look(env:Env)(h:bG)(m:ae->Option av)(x:ae)(u:av):Prop :=
 (env.kindOf x=J .local/\m x=J u)\/((env.kindOf x=J .cell\/env.kindOf x=J .free)/\∃c,env.cells.lookup x=J c/\h.IsCell c (J u))
structure bQ.Ok(X:bQ):Prop where
 mod:Mod X.K X.mg X.zn
 kind:X.env.scope.kind=.function
 glob:X.env.globals=fp
 blt:X.env.builtins=builtinsNs
 above:X.eQ.heap.objs.size<=X.env.locals
 inj:∀x y c,X.env.cells.lookup x=J c->X.env.cells.lookup y=J c->x=y
 has:∀x,(X.env.kindOf x=J .cell\/X.env.kindOf x=J .free)->∃c,X.env.cells.lookup x=J c
 vZ:∀x c,X.fn x=ah->X.env.cells.lookup x=J c->X.eQ.heap.objs.size<=c
 hd:X.calm=ah->X.A.handled=ax
 frames:X.A.frames=J X.stack
 zY:X.stack=X.outer\/(X.stack=X.env::X.outer/\X.env.frame=J X.env.locals)
 HO:∀b∈X.ex,b≠X.env.locals/\∀x c,X.env.cells.lookup x=J c->c≠b
 bs:∀b o,X.zn.get? b=J o->X.eQ.heap.get? b=J o/\X.jI b=ax
 pX:X.zn.objs.size<=X.eQ.heap.objs.size
 wY:∀b o,X.zn.get? b=J o->b∉X.ex
 yA:∀b∈X.ex,b∉X.fs
 mP:X.eQ.heap.FunFrames X.zn X.outer
 rU:∀b∈X.fs,X.jI b=ax
structure Inv(X:bQ)(au:List (af×bZ))(U:List (Option V))(H:al)(s:aR):Prop where
 ok:X.Ok
 os:s.os=X.eQ.os
 bare:AllBare s.gens
 zn:g6 X.fs X.ex X.jI H X.eQ.heap s.heap
 loc:∃m,s.heap.Ns X.env.locals m/\∀(i:Nat)(x:ae)(v:V),X.N[i]?=J x->U[i]?=J (J v)->A3 X.env.scope x->∃u,RelV v u/\Look X.env s.heap m x u
 cell:∀x c,X.env.cells.lookup x=J c->∃v,s.heap.IsCell c v
 free:H X.env.locals=ax
 nG:∀x c,X.env.cells.lookup x=J c->H c=ax
 pin:∀p∈X.pn++au,s.heap.get? p.1=J p.2/\H p.1=ax/\p.1≠X.env.locals/\p.1∉X.fs/\∀v,p.2.data≠.cell v
 aP:gd X.prog X.w H s.heap
 len:U.length=X.N.length
variable {Q:Unit->aR->Prop}
section
variable {X:bQ} {au:List (af×bZ)} {U:List (Option V)} {H H':al} {s:aR} {h':bG}
def bQ.Ok.af8(ok:X.Ok){b:af}(e:X.zn.get? b=J o):b∉X.fs:=fun ag=>by
 have:=(ok.mP.mem ag).1;rw[e]at this;cases this
theorem Inv.bs(aa:Inv X au U H s):∀b o,X.zn.get? b=J o->s.heap.get? b=J o/\H b=ax:=fun b o e =>
 ⟨aa.zn.keep b o (aa.ok.bs b o e).1 (aa.ok.bs b o e).2 (aa.ok.af8 e) (aa.ok.wY b o e),aa.zn.free b o (aa.ok.bs b o e).1 (aa.ok.bs b o e).2 (aa.ok.wY b o e)⟩
def Inv.bk(aa:Inv X au U H s):∀b o,X.zn.get? b=J o->s.heap.get? b=J o:=fun b o e=>(aa.bs b o e).1
theorem Inv.mod(aa:Inv X au U H s):Mod X.K X.mg X.zn:=aa.ok.mod
def Inv.f3(aa:Inv X au U H s):X.K.In s.heap:=aa.ok.mod.wI.keeps aa.bk
theorem Inv.lt(aa:Inv X au U H s):X.env.locals<s.heap.objs.size:=let ⟨_,aV,_⟩:=aa.loc;aV.lt
def Inv.d3(aa:Inv X au U H s):X.eQ.heap.objs.size<=s.heap.objs.size:=dF aa.ok.above (Nat.le_of_lt aa.lt)
def Inv.aga(aa:Inv X au U H s)(h:s.heap.objs.size<=a):a∉X.fs:=fun ag=>by
 obtain⟨_,o,aN,_⟩:=aa.ok.mP.mem ag;exact absurd (fK (e2 aN) (dF aa.d3 h)) (Nat.lt_irrefl _)
def Inv.tu(aa:Inv X au U H s):∀x c,X.env.cells.lookup x=J c->c≠X.env.locals:=fun x c e z=>by
 obtain⟨v,o,aN,hd⟩:=aa.cell x c e;obtain⟨m,⟨o',aZ,gh,mZ,oZ,_⟩,_⟩:=aa.loc;rw[z,mZ]at aN;cases aN;rw[oZ]at hd;cases hd
theorem Inv.mP(aa:Inv X au U H s):s.heap.FunFrames X.zn X.outer:=by
 have all:∀(l:List Env),(∀b∈ks l,b∈X.fs)->X.eQ.heap.FunFrames X.zn l->s.heap.FunFrames X.zn l:=by
  intro l
  induction l with
  |nil=>intro _ _;trivial
  |cons env r bK =>
   intro hs aB;obtain⟨hk,⟨L,o,aA,aV,aN,hd⟩,aw⟩:=aB;have gj:L∈X.fs:=hs L (by unfold ks;rw[List.filterMap_cons,aA];exact eA);obtain⟨eC,e⟩:=aa.zn.slot L o aN (aa.ok.rU L gj) gj fun z=>aa.ok.yA L z gj;exact⟨hk,⟨L,_,aA,aV,e,hd⟩,bK (fun b ag=>hs b (by unfold ks;rw[List.filterMap_cons,aA];exact dw _ ag)) aw⟩
 exact all X.outer (fun _ ag=>ag) aa.ok.mP
theorem Inv.stack(aa:Inv X au U H s):s.heap.FunFrames X.zn X.stack:=by
 rcases aa.ok.zY with e|⟨e,aA⟩
 .rw[e];exact aa.mP
 ·rw[e];obtain⟨m,aV,_⟩:=aa.loc;refine .cons (by rw[aa.ok.kind];decide) aA aV ?_ aa.mP;exact bG.get?_none_of_le (dF aa.ok.pX aa.ok.above)
def Inv.zZ(aa:Inv X au U H s):∀b∈ks X.stack,b∈X.env.locals::X.fs:=fun b ag=>by
 rcases aa.ok.zY with e|⟨e,aA⟩
 .rw[e]at ag;exact dw _ ag
 ·rw[e]at ag;unfold ks at ag;rw[List.filterMap_cons,aA]at ag;exact ag
def Inv.J0(aa:Inv X au U H s):∀b∈ks X.stack,H b=ax:=fun b ag=>by
 rcases dd.mp (aa.zZ b ag)with e|ag
 .rw[e];exact aa.free
 ·obtain⟨_,o,aN,_⟩:=aa.ok.mP.mem ag;exact aa.zn.free b o aN (aa.ok.rU b ag) fun z=>aa.ok.yA b z ag
def Inv.step(aa:Inv X au U H s)
  (nK:∀b∈ch,(b∈X.ex\/X.eQ.heap.objs.size<=b)/\b≠X.env.locals/\(∀x c,X.env.cells.lookup x=J c->c≠b)/\∀p∈X.pn++au,p.1≠b)
  (keep:∀b o,b≠X.env.locals->b∉X.fs->b∉ch->s.heap.get? b=J o->H b=ax->h'.get? b=J o)
  (slot:∀b o,b≠X.env.locals->b∈X.fs->b∉ch->s.heap.get? b=J o->H b=ax->∃eC,h'.get? b=J {o with slots:=eC}) (free:∀b o,b∉ch->s.heap.get? b=J o->H b=ax->H' b=ax)
  (there:∀b o,b∉ch->s.heap.get? b=J o->∃o',h'.get? b=J o')
  (pA:∀b xs,H b=J (.tup xs)->H' b=J (.tup xs)) (nH:∀b o u,H b=J (.iM o u)->H' b=J (.iM o u)) (px:∀b aQ,H b=J (.rj aQ)->∃more,H' b=J (.rj (aQ++more)))
  (ns:∀m,s.heap.Ns X.env.locals m->h'.Ns X.env.locals m) (aP:gd X.prog X.w H' h') (bb:AllBare g') :
  Inv X au U H' {s with heap:=h',gens:=g',drawn:=d',toks:=t'}:=by
 have Dr:∀b o,X.eQ.heap.get? b=J o->b≠X.env.locals:=fun b o e=>hl (fK (e2 e) aa.ok.above)
 have Dq:∀b o,X.eQ.heap.get? b=J o->b∉X.ex->b∉ch:=fun b o e aq ag=>by
  rcases(nK b ag).1 with z|z
  .exact aq z
  .exact absurd (fK (e2 e) z) (Nat.lt_irrefl _)
 have cellK:∀x c,X.env.cells.lookup x=J c->∀v,s.heap.IsCell c v->h'.IsCell c v:=fun x c e v ⟨o,aN,hd⟩=>by
  have jT:c∉ch:=fun z=>(nK c z).2.2.1 x c e rfl;by_cases hc:c∈X.fs
  ·obtain⟨eC,q⟩:=slot c o (aa.tu x c e) hc jT aN (aa.nG x c e);exact⟨_,q,hd⟩
  .exact⟨o,keep c o (aa.tu x c e) hc jT aN (aa.nG x c e),hd⟩
 refine⟨aa.ok,aa.os,bb,⟨fun b o e n ag aq=>?_,fun b o e n ag aq=>?_,fun b o e n aq=>?_,fun b o e aq=>?_,fun b xs e=>pA b xs (aa.zn.pA b xs e),fun b o xs e=>nH b o xs (aa.zn.nH b o xs e),fun b aQ e=>?_⟩,?_,fun x c e=>?_,?_,fun x c e=>?_,fun p aU=>?_,aP,aa.len⟩
 .exact keep b o (Dr b o e) ag (Dq b o e aq) (aa.zn.keep b o e n ag aq) (aa.zn.free b o e n aq)
 ·obtain⟨eC,aL⟩:=aa.zn.slot b o e n ag aq;obtain⟨w2,aS⟩:=slot b _ (Dr b o e) ag (Dq b o e aq) aL (aa.zn.free b o e n aq);exact⟨w2,aS⟩
 ·obtain⟨o',aL⟩:=aa.zn.there b o e aq;exact free b o' (Dq b o e aq) aL (aa.zn.free b o e n aq)
 ·obtain⟨o',aL⟩:=aa.zn.there b o e aq;exact there b o' (Dq b o e aq) aL
 ·obtain⟨fy,aL⟩:=aa.zn.px b aQ e;obtain⟨kT,aS⟩:=px b _ aL;exact⟨fy++kT,by rw[aS,Array.append_assoc]⟩
 ·obtain⟨m,aV,aB⟩:=aa.loc;refine⟨m,ns m aV,fun i x v aL aS gw=>?_⟩;obtain⟨u,r,l⟩:=aB i x v aL aS gw;refine⟨u,r,?_⟩;rcases l with l|⟨k,c,e,z⟩
  .exact .inl l
  .exact .inr ⟨k,c,e,cellK x c e _ z⟩
 ·obtain⟨v,z⟩:=aa.cell x c e;exact⟨v,cellK x c e v z⟩
 ·obtain⟨m,⟨o,_,_,aN,_⟩,_⟩:=aa.loc;exact free _ o (fun z=>(nK _ z).2.1 I) aN aa.free
 ·obtain⟨v,o,aN,hd⟩:=aa.cell x c e;exact free c o (fun z=>(nK c z).2.2.1 x c e I) aN (aa.nG x c e)
 ·obtain⟨e,n,ne,su,d⟩:=aa.pin p aU;have jT:p.1∉ch:=fun z=>(nK p.1 z).2.2.2 p aU rfl;exact⟨keep p.1 p.2 ne su jT e n,free p.1 p.2 jT e n,ne,su,d⟩
def Inv.un(aa:Inv X au U H s)(u:g6 X.fs [] H H' s.heap h')(aP:gd X.prog X.w H' h'):Inv X au U H' {s with heap:=h',toks:=t'}:=by
 obtain⟨m,⟨o,aZ,gh,aN,r⟩,_⟩:=id aa.loc;obtain⟨eC,gj⟩:=u.any aN aa.free (by simp)
 exact aa.step (g':=s.gens) (d':=s.drawn) (ch:=[]) (fun _ z=>nomatch z) (fun b o _ ag _ e n=>u.keep b o e n ag (by simp)) (fun b o _ ag _ e n=>u.slot b o e n ag (by simp)) (fun b o _ e n=>u.free b o e n (by simp)) (fun b o _ e=>u.there b o e (by simp)) u.pA u.nH u.px (fun bU hm=>by
  obtain⟨o',Cy,HL,mZ,eW⟩:=hm;rw[aN]at mZ;cases mZ
  exact⟨_,Cy,HL,gj,eW⟩) aP aa.bare
def Inv.call(aa:Inv X au U H s)(u:g6 (ks X.stack) ch H H' s.heap h')(aP:gd X.prog X.w H' h')(bb:AllBare g')
  (nK:∀b∈ch,(b∈X.ex\/X.eQ.heap.objs.size<=b)/\b≠X.env.locals/\(∀x c,X.env.cells.lookup x=J c->c≠b)/\∀p∈X.pn++au,p.1≠b) :
  Inv X au U H' {s with heap:=h',gens:=g',drawn:=d',toks:=t'}:=by
 obtain⟨m,⟨o,aZ,gh,aN,r⟩,_⟩:=id aa.loc;obtain⟨eC,gj⟩:=u.any aN aa.free fun z=>(nK _ z).2.1 rfl
 exact aa.step (ch:=ch) nK (fun b o gj ag hc e n=>u.keep b o e n (fun z=>(dd.mp (aa.zZ b z)).elim gj ag) hc) (fun b o _ _ hc e n=>u.any e n hc) (fun b o hc e n=>u.free b o e n hc) (fun b o hc e=>u.there b o e hc) u.pA u.nH u.px (fun bU hm=>by
  obtain⟨o',Cy,HL,mZ,eW⟩:=hm;rw[aN]at mZ;cases mZ
  exact⟨_,Cy,HL,gj,eW⟩) aP bb
def Inv.turned(aa:Inv X au U H s)(k:∀b o,b≠it->s.heap.get? b=J o->h'.get? b=J o)(aV:H it=ax)(gj:it≠X.env.locals)
  (ai:it∈X.ex\/X.eQ.heap.objs.size<=it) (ar:∀x c,X.env.cells.lookup x=J c->c≠it) (bz:∀p∈X.pn++au,p.1≠it):Inv X au U H {s with heap:=h',toks:=t'}:=by
 have P6:∀b u,H b=J u->b≠it:=fun b u e z=>by rw[z,aV]at e;cases e
 refine aa.step (g':=s.gens) (d':=s.drawn) (ch:=[it]) (fun b ag=>?_) (fun b o _ _ hc e _=>k b o (fun z=>hc (by simp[z])) e) (fun b o _ _ hc e _=>⟨o.slots,k b o (fun z=>hc (by simp[z])) e⟩) (fun _ _ _ _ n=>n)
  (fun b o hc e=>⟨o,k b o (fun z=>hc (by simp[z])) e⟩) (fun _ _ e=>e) (fun _ _ _ e=>e) (fun b aQ e=>⟨#[],by rw[e];simp⟩) (fun m hm=>?_) (fun b u e=>?_) aa.bare
 ·have e:b=it:=by simpa using ag
  subst e;exact⟨ai,gj,ar,bz⟩
 ·obtain⟨o,aZ,gh,aN,r⟩:=hm;exact⟨o,aZ,gh,k _ o (ei gj) aN,r⟩
 ·refine(aa.aP b u e).sH (fun c v hc q=>k c v ?_ q) (fun _ q=>q) fun _ _ q=>q;rcases hc with z|z
  .rw[z];exact P6 b u e
  .exact P6 c _ z
def Inv.tok(aa:Inv X au U H s)(t:Nat):Inv X au U H {s with toks:=t}:=aa.un (h':=s.heap) (t':=t) g6.refl aa.aP
theorem Inv.kept(aa:Inv X au U H s)(k:∀b u,s.heap.get? b=J u->h'.get? b=J u):Inv X au U H {s with heap:=h',toks:=t'}:=aa.un (g6.kept k) (aa.aP.kept k)
theorem Inv.laid{o:cX}(aa:Inv X au U H s)(k:∀b u,s.heap.get? b=J u->h'.get? b=J u)(aU:s.heap.objs.size<=a)(new:hM X.prog X.w (upd H a o) h' a o):
  Inv X au U (upd H a o) {s with heap:=h',toks:=t'}:=aa.un (g6.laid k aU (aa.aP.fresh aU)) (aa.aP.laid k aU new)
theorem Inv.write{x e:af}{o:cX}(aa:Inv X au U H s)(nW:AG (H x))(he:e=x\/H e=J (.own x))(k:∀b u,b≠e->s.heap.get? b=J u->h'.get? b=J u)(wt:∃u,h'.get? e=J u)
  (new:hM X.prog X.w (upd H x o) h' x o):Inv X au U (upd H x o) {s with heap:=h',toks:=t'}:=aa.un (g6.write nW he k wt) (aa.aP.write nW he k wt new)
def Inv.Qk{zF:List (af×bZ)}(aa:Inv X au U H s)(h:∀p∈zF,s.heap.get? p.1=J p.2/\H p.1=ax/\p.1≠X.env.locals/\p.1∉X.fs/\∀v,p.2.data≠.cell v):Inv X zF U H s :=
 ⟨aa.ok,aa.os,aa.bare,aa.zn,aa.loc,aa.cell,aa.free,aa.nG,fun p aU=>(List.mem_append.mp aU).elim (fun z=>aa.pin p (List.mem_append_left _ z)) (h p),aa.aP,aa.len⟩
def Nf(bP:N.Nodup)(a:N[i]?=J x)(b:N[j]?=J x):i=j:=by
 obtain⟨ai,aL⟩:=gr.mp a;obtain⟨ar,aS⟩:=gr.mp b;exact(List.getElem_inj bP).mp (aL.trans aS.symm)
def Mw{v:V}(aa:Inv X au U H s)(bP:X.N.Nodup)(aF:X.N[i]?=J x)(aq:Loc X.env.scope x)(r:RelV v u)
  (h:∀br,Inv X au (U.set i (J v)) H br->(∃a,bG.SameBut a s.heap br.heap/\(a=X.env.locals\/X.env.cells.lookup x=J a))->Q () br) (aA:rg (X.fn x=ah\/X.env.scope.names.lookup x=J .local) w5):b4 M A (storeName X.env x u) Q E s:=by
 obtain⟨m,aV,aB⟩:=id aa.loc;have adz:(X.env.scope.kind ==.class||(X.env.scope.kind ==.module&&X.env.locals != X.env.globals))=aE:=by rw[aa.ok.kind];rfl
 have Pe:i<U.length:=by rw[aa.len];exact(gr.mp aF).1
 have tu:=aa.tu
 have tracked:∀{a:af}{h':bG},(∃o,s.heap.get? a=J o/\H a=ax)->bG.SameBut a s.heap h'->gd X.prog X.w H h':=fun{a h'}aM hs b eh e=>by
  obtain⟨_,_,yS⟩:=aM;refine(aa.aP b eh e).sH (fun c hW hc q=>(hs.2 c ?_).trans q) (fun _ q=>q) fun _ _ q=>q;rintro rfl;rcases hc with rfl|hc
  .rw[yS]at e;cases e
  .rw[yS]at hc;cases hc
 rcases aq with hk|hk
 ·refine wpAny_storeName_local hk aV (fun h' lb hs=>?_) adz;obtain⟨agn,_,_,aec,_⟩:=id aV;refine h _ ⟨aa.ok,aa.os,aa.bare,⟨fun b o e n ag aq=>?_,fun b o e n ag aq=>?_,aa.zn.free,fun b o e aq=>?_,aa.zn.pA,aa.zn.nH,aa.zn.px⟩,⟨_,lb,fun j y gH aL aS gw=>?_⟩,fun y c e=>?_,aa.free,aa.nG,fun p aU=>?_,tracked ⟨agn,aec,aa.free⟩ hs,by simpa using aa.len⟩ ⟨_,hs,.inl rfl⟩
  .exact(hs.2 b (hl (fK (e2 e) aa.ok.above))).trans (aa.zn.keep b o e n ag aq)
  ·obtain⟨eC,aL⟩:=aa.zn.slot b o e n ag aq;exact⟨eC,(hs.2 b (hl (fK (e2 e) aa.ok.above))).trans aL⟩
  ·obtain⟨o',aL⟩:=aa.zn.there b o e aq;exact⟨o',(hs.2 b (hl (fK (e2 e) aa.ok.above))).trans aL⟩
  ·by_cases b0:j=i
   ·subst b0;rw[aF]at aL;cases aL;rw[List.getElem?_set_self Pe]at aS;cases aS;exact⟨u,r,.inl ⟨hk,by simp⟩⟩
   ·rw[List.getElem?_set_ne (ei b0)]at aS;obtain⟨u',eW,q⟩:=aB j y gH aL aS gw;refine⟨u',eW,?_⟩;rcases q with⟨k,e⟩|⟨k,c,e,z⟩
    ·refine .inl ⟨k,?_⟩;have:y≠x:=fun e=>b0 (Nf bP aL (e ▸ aF));simp[this,e]
    .exact .inr ⟨k,c,e,z.sameBut hs (tu y c e)⟩
  ·obtain⟨hW,z⟩:=aa.cell y c e;exact⟨hW,z.sameBut hs (tu y c e)⟩
  ·obtain⟨e,n,ne,su,d⟩:=aa.pin p aU;exact⟨(hs.2 p.1 ne).trans e,n,ne,su,d⟩
 ·have CT:X.fn x=ah:=by
   rcases aA with z|z
   .exact z
   .rw[z]at hk;cases hk
  obtain⟨c,hc⟩:=aa.ok.has x (.inl hk);obtain⟨hW,z⟩:=aa.cell x c hc;refine wpAny_storeName_cell aa.ok.kind hk hc z (fun h' ml hs=>?_);obtain⟨iW,C1,IL⟩:=id z;refine h {s with heap:=h'} ⟨aa.ok,aa.os,aa.bare,⟨fun b o e n ag aq=>?_,fun b o e n ag aq=>?_,aa.zn.free,fun b o e aq=>?_,aa.zn.pA,aa.zn.nH,aa.zn.px⟩,⟨m,aV.sameBut hs (ei (tu x c hc)),fun j y gH aL aS gw=>?_⟩,fun y i2 e=>?_,aa.free,aa.nG,fun p aU=>?_,tracked ⟨iW,C1,aa.nG x c hc⟩ hs,by simpa using aa.len⟩ ⟨c,hs,.inr hc⟩
  .exact(hs.2 b (hl (fK (e2 e) (aa.ok.vZ x c CT hc)))).trans (aa.zn.keep b o e n ag aq)
  ·obtain⟨eC,aL⟩:=aa.zn.slot b o e n ag aq;exact⟨eC,(hs.2 b (hl (fK (e2 e) (aa.ok.vZ x c CT hc)))).trans aL⟩
  ·obtain⟨o',aL⟩:=aa.zn.there b o e aq;exact⟨o',(hs.2 b (hl (fK (e2 e) (aa.ok.vZ x c CT hc)))).trans aL⟩
  ·by_cases b0:j=i
   ·subst b0;rw[aF]at aL;cases aL;rw[List.getElem?_set_self Pe]at aS;cases aS;exact⟨u,r,.inr ⟨.inl hk,c,hc,ml⟩⟩
   ·rw[List.getElem?_set_ne (ei b0)]at aS;obtain⟨u',eW,q⟩:=aB j y gH aL aS gw;refine⟨u',eW,?_⟩;rcases q with q|⟨k,i2,e,pE⟩
    .exact .inl q
    ·refine .inr ⟨k,i2,e,pE.sameBut hs ?_⟩;rintro rfl;exact b0 (Nf bP aL (aa.ok.inj _ _ _ e hc ▸ aF))
  ·by_cases CQ:i2=c
   .subst CQ;exact⟨_,ml⟩
   ·obtain⟨jY,dg⟩:=aa.cell y i2 e;exact⟨jY,dg.sameBut hs CQ⟩
  ·obtain⟨e,n,ne,su,d⟩:=aa.pin p aU;refine⟨(hs.2 p.1 ?_).trans e,n,ne,su,d⟩;intro q;rw[q,C1]at e;have iA:iW=p.2:=gq e;exact d hW (by rw[<-iA];exact IL)
def M5{v:V}(aa:Inv X au U H s)(bP:X.N.Nodup)(aF:X.N[i]?=J x)(aq:Loc X.env.scope x)(r:RelV v u)
  (h:∀br,Inv X au (U.set i (J v)) H br->Q () br) (aA:rg (X.fn x=ah\/X.env.scope.names.lookup x=J .local) w5):b4 M A (storeName X.env x u) Q E s :=
 Mw aa bP aF aq r (fun br h8 _=>h br h8) aA
def Inv.Hw(aa:Inv X au U H s)(aN:br.os=s.os)(u:g6 (ks X.stack) ch H H' s.heap br.heap)(aP:gd X.prog X.w H' br.heap)(bb:AllBare br.gens)
  (nK:∀b∈ch,(b∈X.ex\/X.eQ.heap.objs.size<=b)/\b≠X.env.locals/\(∀x c,X.env.cells.lookup x=J c->c≠b)/\∀p∈X.pn++au,p.1≠b):Inv X au U H' br:=by
 obtain⟨h',g',d',t',o'⟩:=br;have e:o'=s.os:=aN;subst e;exact aa.call (g':=g') (t':=t') (d':=d') u aP bb nK
end
noncomputable abbrev cB:=av->Option af->al->Prop
noncomputable abbrev St:=List (Option V)
noncomputable abbrev bI:=V->al->Prop
noncomputable abbrev TE:=St->al->bI->Prop
noncomputable abbrev g0:=St->al->(Bool->al->Prop)->Prop
noncomputable abbrev hz:=St->al->(List V->al->Prop)->Prop
structure Ends where
 nx:St->al->Prop
 rt:bI
 bk:St->al->Prop:=fun _ _=>False
 ct:St->al->Prop:=fun _ _=>False
noncomputable abbrev fb:=Ends->St->al->Prop
def jd(X:bQ)(au:List (af×bZ))(U:St)(Q:bI)(u:av)(br:aR):Prop:=∃v H',Inv X au U H' br/\RelV v u/\Q v H'
def A0(X:bQ)(au:List (af×bZ))(U:St)(Q:Bool->al->Prop)(b:Bool)(br:aR):Prop:=∃H',Inv X au U H' br/\Q b H'
def SN(X:bQ)(au:List (af×bZ))(U:St)(Q:List V->al->Prop)(us:List av)(br:aR):Prop:=∃vs H',Inv X au U H' br/\Vals vs us/\Q vs H'
def vx(X:bQ)(au:List (af×bZ))(D:Ends)(f:Flow)(br:aR):Prop :=
 match f with
 |.next=>∃b2 H',Inv X au b2 H' br/\D.nx b2 H'
 |.brk=>∃b2 H',Inv X au b2 H' br/\D.bk b2 H'
 |.cont=>∃b2 H',Inv X au b2 H' br/\D.ct b2 H'
 |.ret u=>∃v b2 H',Inv X au b2 H' br/\RelV v u/\D.rt v H'
def cH(X:bQ)(e:cU)(t:TE):Prop :=
 ∀(au:List (af×bZ))(s:aR)(U:St)(H:al)(Q:bI),Inv X au U H s->t U H Q->b4 (model X.prog X.w) X.A (eval e X.env) (jd X au U Q) X.xe s
def k4(X:bQ)(e:cU)(t:g0):Prop :=
 ∀(au:List (af×bZ))(s:aR)(U:St)(H:al)(Q:Bool->al->Prop),Inv X au U H s->t U H Q->b4 (model X.prog X.w) X.A (isTrue e X.env (eval e X.env)) (A0 X au U Q) X.xe s
def gK(X:bQ)(e:cU)(t:g0):Prop :=
 ∀(whole:Sem av)(au:List (af×bZ))(s:aR)(U:St)(H:al)(Q:Bool->al->Prop),Inv X au U H s->t U H Q->b4 (model X.prog X.w) X.A (isTrue e X.env whole) (A0 X au U Q) X.xe s
variable {X:bQ}
def gK.pt{t:g0}(h:gK X e t):k4 X e t:=h _
def iD(X:bQ)(aZ:List cU)(t:hz):Prop :=
 ∀(bh:Pos)(au:List (af×bZ))(s:aR)(U:St)(H:al)(Q:List V->al->Prop),Inv X au U H s->t U H Q->b4 (model X.prog X.w) X.A (spliced (backTo bh (en aZ X.env))) (SN X au U Q) X.xe s
def k3(X:bQ)(st:bA)(t:fb):Prop :=
 ∀(au:List (af×bZ))(s:aR)(U:St)(H:al)(D:Ends),Inv X au U H s->t D U H->b4 (model X.prog X.w) X.A (exec st X.env) (vx X au D) X.xe s
def jy(X:bQ)(st:List bA)(t:fb):Prop :=
 ∀(au:List (af×bZ))(s:aR)(U:St)(H:al)(D:Ends),Inv X au U H s->t D U H->b4 (model X.prog X.w) X.A (execs st X.env) (vx X au D) X.xe s
def dt{t:Sem α}{Q qB:α->aR->Prop}(h:b4 M A t Q E s)(fZ:∀a s,Q a s->qB a s):b4 M A t qB E s:=mz h fZ fun _ _ x=>x
section
variable {X:bQ}
inductive K9(o:Option (Option V))(Q:V->Prop):Prop where
 |mk (v:V) (e:o=J (J v)) (h:Q v):K9 o Q
def pw(i:Nat):TE:=fun U H Q=>K9 U[i]? fun v=>Q v H
def lY(v:V):TE:=fun _ H Q=>Q v H
def Wx(bP:X.N[i]?=J x)(bR:A3 X.env.scope x)(hd:rg ((x == ("__debug__":ae))=aE) w7)(oY:rg ((x == ("__classdict__":ae))=aE) w7):cH X (.Name x bh) (pw i):=by
 intro au s U H Q aa h;obtain⟨v,e,h⟩:=h;obtain⟨m,aV,aB⟩:=aa.loc;obtain⟨u,r,l⟩:=aB i x v bP e bR;have dp:jd X au U Q u s:=⟨v,H,aa,r,h⟩;rcases l with⟨hk,hm⟩|⟨hk,c,hc,O4⟩
 .exact wpAny_Name (wpAny_loadName_local aa.ok.kind hk aV hm dp) hd
 ·rcases hk with hk|hk
  .exact wpAny_Name (wpAny_loadName_cell aa.ok.kind hk hc O4 dp) hd
  .exact wpAny_Name (wpAny_loadName_free aa.ok.kind hk hc O4 dp oY) hd
def aC{i j bh}:cH X (.Constant (.int i) j bh) (lY (.int i)):=fun _ _ _ H _ aa h=>wpAny_Constant_int ⟨.int i,H,aa.tok _,⟨_,rfl⟩,h⟩
def jf{b j bh}:cH X (.Constant (.bool b) j bh) (lY (.aK b)):=fun _ _ _ H _ aa h=>Constant_bool ⟨.aK b,H,aa,rfl,h⟩
def pV{j bh}:cH X (.Constant .none j bh) (lY .bf):=fun _ _ _ H _ aa h=>Constant_none ⟨.bf,H,aa,rfl,h⟩
def cY{x j bh}:cH X (.Constant (.str x) j bh) (lY (.str x)):=fun _ _ _ H _ aa h=>Calls.Constant_str ⟨.str x,H,aa.tok _,⟨_,rfl⟩,h⟩
def je(X:bQ)(x:ae):Prop:=X.env.kindOf x=J .globalImplicit
def B4{U:St}{Q:av->aR->Prop}(aa:Inv X au U H s)(bb:je X x)(hm:X.mg x=J u)(h:Q u s)
  (hd:rg ((x == ("__debug__":ae))=aE) w7):b4 (model X.prog X.w) X.A (eval (.Name x bh) X.env) Q E s :=
 Calls.Name_function_global aa.ok.kind bb (Calls.loadGlobal_global (by rw[aa.ok.glob];exact aa.mod.glob.keeps aa.bk) hm h) hd
def mD{U:St}{Q:av->aR->Prop}(aa:Inv X au U H s)(bb:je X x)(hm:X.mg x=ax)(bR:kg x=J u)(h:Q u s)
  (aV:rg (x≠"__name__") w7) (hd:rg ((x == ("__debug__":ae))=aE) w7):b4 (model X.prog X.w) X.A (eval (.Name x bh) X.env) Q E s:=by
 obtain⟨nU,ai,ar⟩:=aa.mod.blt;exact Calls.Name_function_global aa.ok.kind bb (Calls.loadGlobal_builtin (by rw[aa.ok.glob];exact aa.mod.glob.keeps aa.bk) hm (by rw[aa.ok.blt];exact ai.keeps aa.bk) ((ar x aV).trans bR) h) hd
def VF{v:V}(bb:je X x)(hm:X.mg x=J u)(r:RelV v u)(hd:rg ((x == ("__debug__":ae))=aE) w7):cH X (.Name x bh) (lY v) :=
 fun _ _ _ H _ aa h=>B4 aa bb hm ⟨v,H,aa,r,h⟩ hd
def iv{v:V}(bb:je X x)(hm:X.mg x=ax)(bR:kg x=J u)(r:RelV v u)(aV:rg (x≠"__name__") w7)(hd:rg ((x == ("__debug__":ae))=aE) w7):cH X (.Name x bh) (lY v) :=
 fun _ _ _ H _ aa h=>mD aa bb hm bR ⟨v,H,aa,r,h⟩ aV hd
variable {a b:cU} {cD dM:TE} {bh:Pos}
def TY(X:bQ)(op:CmpOp)(a b:cU)(t:TE):Prop :=
 ∀(au:List (af×bZ))(s:aR)(U:St)(H:al)(Q:bI),Inv X au U H s->t U H Q->
  b4 (model X.prog X.w) X.A (eval a X.env) (fun v eu=>b4 (model X.prog X.w) X.A (eval b X.env) (fun u n2=>b4 (model X.prog X.w) X.A (hg op v u) (jd X au U Q) X.xe n2) X.xe eu) X.xe s
def kd(t:TE):g0:=fun U H Q=>t U H fun x H1=>∃c,x=.aK c/\Q c H1
variable {n3 DR:g0} {rest:List cU}
def ajm(t u:g0):g0:=fun U H Q=>t U H fun c H1=>if c=ah then u U H1 Q else Q aE H1
def J6(t u:g0):g0:=fun U H Q=>t U H fun c H1=>if c=ah then Q ah H1 else u U H1 Q
def ajA(t:g0):g0:=fun U H Q=>t U H fun c H1=>Q (!c) H1
def pS(aM:k4 X a n3):gK X (.BoolOp .And [a] bh) n3:=by
 intro z5 au s U H Q aa h;refine isTrue_and (dt (aM au s U H Q aa h) fun c s1 e=>?_);cases c with
 |true=>exact isTrue_and_nil e
 |false=>exact e
def l9(aM:k4 X a n3):gK X (.BoolOp .Or [a] bh) n3:=by
 intro z5 au s U H Q aa h;refine isTrue_or (dt (aM au s U H Q aa h) fun c s1 e=>?_);cases c with
 |false=>exact isTrue_or_nil e
 |true=>exact e
def oL(aM:k4 X a n3)(ag:gK X (.BoolOp .And (b::rest) bh) DR):gK X (.BoolOp .And (a::b::rest) bh) (ajm n3 DR):=by
 intro z5 au s U H Q aa h;refine isTrue_and (dt (aM au s U H _ aa h) fun c s1 cb=>?_);obtain⟨H1,bB,ck⟩:=cb;cases c with
 |true=>exact ag z5 au s1 U H1 Q bB ck
 |false=>exact⟨H1,bB,ck⟩
def lL(aM:k4 X a n3)(ag:gK X (.BoolOp .Or (b::rest) bh) DR):gK X (.BoolOp .Or (a::b::rest) bh) (J6 n3 DR):=by
 intro z5 au s U H Q aa h;refine isTrue_or (dt (aM au s U H _ aa h) fun c s1 cb=>?_);obtain⟨H1,bB,ck⟩:=cb;cases c with
 |true=>exact⟨H1,bB,ck⟩
 |false=>exact ag z5 au s1 U H1 Q bB ck
def iJ(aM:k4 X a n3):k4 X (.UnaryOp .Not a bh) (ajA n3):=by
 intro au s U H Q aa h;exact isTrue_not (aM au s U H (fun c H1=>Q (!c) H1) aa h)
def ajn(cD dM:TE):TE:=fun U H Q=>cD U H fun x H1=>∃c,x=.aK c/\if c=ah then dM U H1 Q else Q (.aK aE) H1
def ajB(cD dM:TE):TE:=fun U H Q=>cD U H fun x H1=>∃c,x=.aK c/\if c=ah then Q (.aK ah) H1 else dM U H1 Q
def jB{op}{t:TE}(h:cH X a t):cH X (.BoolOp op [a] bh) t:=fun au s U H Q aa hw=>BoolOp_one (h au s U H Q aa hw)
def il(aM:cH X a cD)(ag:cH X (.BoolOp .And (b::rest) bh) dM):cH X (.BoolOp .And (a::b::rest) bh) (ajn cD dM):=by
 intro au s U H Q aa h;refine BoolOp_and (dt (aM au s U H _ aa h) fun v s1 cb=>?_);obtain⟨x,H1,bB,cf,ck⟩:=cb;obtain⟨c,rfl,ck⟩:=ck;cases cf;refine Ac ?_;cases c with
 |true=>exact ag au s1 U H1 Q bB ck
 |false=>exact⟨.aK aE,H1,bB,I,ck⟩
def Lx(aM:cH X a cD)(ag:cH X (.BoolOp .Or (b::rest) bh) dM):cH X (.BoolOp .Or (a::b::rest) bh) (ajB cD dM):=by
 intro au s U H Q aa h;refine BoolOp_or (dt (aM au s U H _ aa h) fun v s1 cb=>?_);obtain⟨x,H1,bB,cf,ck⟩:=cb;obtain⟨c,rfl,ck⟩:=ck;cases cf;refine Ac ?_;cases c with
 |false=>exact ag au s1 U H1 Q bB ck
 |true=>exact⟨.aK ah,H1,bB,I,ck⟩
def aju(t:g0)(cD dM:TE):TE:=fun U H Q=>t U H fun c H1=>if c=ah then cD U H1 Q else dM U H1 Q
def nv(hc:k4 X c n3)(aM:cH X a cD)(ag:cH X b dM):cH X (.IfExp c a b bh) (aju n3 cD dM):=by
 intro au s U H Q aa h;refine wpAny_IfExp (dt (hc au s U H _ aa h) fun d s1 cb=>?_);obtain⟨H1,bB,ck⟩:=cb;cases d with
 |true=>exact aM au s1 U H1 Q bB ck
 |false=>exact ag au s1 U H1 Q bB ck
end
def cZ(K:bS)(H:al)(a:af)(xs:List V):Prop :=
 AY H a (.lst xs)\/
  ∃(o:bZ)(bq:Array av)(n:Nat),K.lookup a=J o/\o.cls=.type "list"/\o.dict=ax/\o.data=.seq bq n/\bq.size<=cg/\Vals xs bq.toList
def gf(K:bS)(H:al)(a:af)(xs:List V):Prop :=
 AY H a (.tup xs)\/
  ∃(o:bZ)(bq:Array av)(n:Nat),K.lookup a=J o/\o.cls=.type "tuple"/\o.data=.seq bq n/\bq.size<=cg/\Vals xs bq.toList
noncomputable def aby:av->Option V
 |.none=>J .bf
 |.bool b=>J (.aK b)
 |.int i _=>J (.int i)
 |.str x _=>J (.str x)
 |.bytes b _=>J (.k8 b)
 |.float b _=>J (.rT b)
 |.ref a=>J (.ref a)
 |.type n=>J (.ty n)
 |_=>ax
def RelV.abs{x:V}(r:RelV x u):aby u=J x:=by
 cases x with
 |bf=>cases r;rfl
 |aK _=>cases r;rfl
 |int _=>obtain⟨t,rfl⟩:=r;rfl
 |str _=>obtain⟨t,rfl⟩:=r;rfl
 |k8 _=>obtain⟨t,rfl⟩:=r;rfl
 |rT _=>obtain⟨t,rfl⟩:=r;rfl
 |ref _=>cases r;rfl
 |ty _=>cases r;rfl
variable {y:V}
def RelV.inj{x:V}(r:RelV x u)(q:RelV y u):x=y:=gq (r.abs.symm.trans q.abs)
theorem Vals.inj:∀{xs ay:List V}{us:List av},Vals xs us->Vals ay us->xs=ay
 |_,_,_,.nil,.nil=>rfl
 |_,_,_,.cons r t,.cons eW t'=>by rw[r.inj eW,Vals.inj t t']
section
variable {X:bQ} {au:List (af×bZ)} {U:St} {H:al} {s:aR} {a:af} {xs ay:List V}
def cZ.of(h:H a=J (.lst xs)):cZ K H a xs :=.inl (.inl h)
def gf.of(h:H a=J (.tup xs)):gf K H a xs :=.inl (.inl h)
def Inv.list(aa:Inv X au U H s)(h:cZ X.K H a xs):∃bq:List av,Vals xs bq/\PlainL s.heap a bq.toArray/\xs.length<=cg:=by
 rcases h with h|⟨o,bq,n,hk,hc,hd,hs,bV,r⟩
 ·obtain⟨z,bq,n,r,e⟩:=h.ok aa.aP;exact⟨bq,r,⟨_,n,e,I,I,I⟩,z⟩
 ·refine⟨bq.toList,r,⟨o,n,aa.f3 a o hk,hc,hd,by simpa using hs⟩,?_⟩;have e:=r.length;simp only[jh]at e;lia
def Inv.tuple(aa:Inv X au U H s)(h:gf X.K H a xs):∃bq:List av,Vals xs bq/\IsTup s.heap a bq.toArray/\xs.length<=cg:=by
 rcases h with h|⟨o,bq,n,hk,hc,hs,bV,r⟩
 ·obtain⟨z,bq,r,p⟩:=h.ok aa.aP;exact⟨bq,r,p,z⟩
 ·refine⟨bq.toList,r,⟨o,aa.f3 a o hk,hc,n,by simpa using hs⟩,?_⟩;have e:=r.length;simp only[jh]at e;lia
def Inv.afk(aa:Inv X au U H s)(h:cZ X.K H a xs)(h':cZ X.K H a ay):xs=ay:=by
 obtain⟨bq,r,⟨o,n,e,_,_,d⟩,_⟩:=aa.list h;obtain⟨its',eW,⟨o',n',e',_,_,d'⟩,_⟩:=aa.list h';rw[e]at e';cases e';rw[d]at d';injection d' with hC _;have:bq=its':=by simpa using congrArg Array.toList hC
 subst this;exact r.inj eW
def Inv.akf(aa:Inv X au U H s)(h:gf X.K H a xs)(h':gf X.K H a ay):xs=ay:=by
 obtain⟨bq,r,⟨o,e,_,n,d⟩,_⟩:=aa.tuple h;obtain⟨its',eW,⟨o',e',_,n',d'⟩,_⟩:=aa.tuple h';rw[e]at e';cases e';rw[d]at d';injection d' with hC _;have:bq=its':=by simpa using congrArg Array.toList hC
 subst this;exact r.inj eW
end
noncomputable abbrev bQ.m8(X:bQ)(E:av->aR->Prop):bQ:={X with xe:=E}
noncomputable abbrev bQ.q7(X:bQ):bQ:=X.m8 fun _ _=>False
theorem bQ.Ok.m8(ok:X.Ok)(E:av->aR->Prop):(X.m8 E).Ok :=
 ⟨ok.mod,ok.kind,ok.glob,ok.blt,ok.above,ok.inj,ok.has,ok.vZ,ok.hd,ok.frames,ok.zY,ok.HO,ok.bs,ok.pX,ok.wY,ok.yA,ok.mP,ok.rU⟩
def bQ.Ok.n5(ok:(X.m8 E).Ok):X.Ok :=
 ⟨ok.mod,ok.kind,ok.glob,ok.blt,ok.above,ok.inj,ok.has,ok.vZ,ok.hd,ok.frames,ok.zY,ok.HO,ok.bs,ok.pX,ok.wY,ok.yA,ok.mP,ok.rU⟩
section
variable {X:bQ} {au:List (af×bZ)} {U:St} {H:al} {s:aR} {E:av->aR->Prop}
theorem Inv.m8(aa:Inv X au U H s)(E:av->aR->Prop):Inv (X.m8 E) au U H s:=⟨aa.ok.m8 E,aa.os,aa.bare,aa.zn,aa.loc,aa.cell,aa.free,aa.nG,aa.pin,aa.aP,aa.len⟩
theorem Inv.n5(aa:Inv (X.m8 E) au U H s):Inv X au U H s:=⟨aa.ok.n5,aa.os,aa.bare,aa.zn,aa.loc,aa.cell,aa.free,aa.nG,aa.pin,aa.aP,aa.len⟩
theorem vx.n5{D:Ends}{f:Flow}(h:vx (X.m8 E) au D f br):vx X au D f br:=by
 cases f with
 |next=>obtain⟨b2,H',aa,q⟩:=h;exact⟨b2,H',aa.n5,q⟩
 |brk=>obtain⟨b2,H',aa,q⟩:=h;exact⟨b2,H',aa.n5,q⟩
 |cont=>obtain⟨b2,H',aa,q⟩:=h;exact⟨b2,H',aa.n5,q⟩
 |ret u=>obtain⟨v,b2,H',aa,r,q⟩:=h;exact⟨v,b2,H',aa.n5,r,q⟩
theorem jy.q7{st:List bA}{t:fb}(h:jy X.q7 st t):jy X st t:=fun au s U H D aa hw =>
 mz (h au s U H D (aa.m8 _) hw) (fun _ _ q=>q.n5) fun _ _ z=>False.elim z
end
section
variable {X:bQ} {st:bA} {rest:List bA} {t u:fb} {e:cU} {cJ:TE} {bh:Pos}
def xb:fb:=fun D U H=>D.nx U H
def kY(t u:fb):fb:=fun D U H=>t {D with nx:=u D} U H
def cx:jy X [] xb:=fun _ _ U H _ aa h=>wpAny_execs_nil ⟨U,H,aa,h⟩
def aI(ai:k3 X st t)(ar:jy X rest u):jy X (st::rest) (kY t u):=by
 intro au s U H D aa h;refine wpAny_execs_cons (dt (ai au s U H {D with nx:=u D} aa h) fun f s1 q=>?_);cases f with
 |next =>
  obtain⟨b2,H',h8,q⟩:=q;exact ar au s1 b2 H' D h8 q
 |ret v=>exact q
 |brk=>exact q
 |cont=>exact q
def aJ(ai:k3 X st t):jy X [st] t:=by
 intro au s U H D aa h;refine wpAny_execs_cons (dt (ai au s U H D aa h) fun f s1 q=>?_);cases f with
 |next=>exact wpAny_execs_nil q
 |ret v=>exact q
 |brk=>exact q
 |cont=>exact q
def Inv.quiet{U:St}(aa:Inv X au U H s):interactive X.env=aE:=by simp[interactive,aa.ok.kind]
def ajr(cJ:TE):fb:=fun D U H=>cJ U H fun _ H1=>D.nx U H1
def ik(he:cH X e cJ)(hs:rg (swapsWith e ax bh.line X.env=pure aE) w8):k3 X (.Expr e bh) (ajr cJ):=by
 intro au s U H D aa h;refine wpAny_Expr_any (dt (he au s U H _ aa h) fun v s1 cb=>?_) aa.quiet hs;obtain⟨x,H1,bB,cf,ck⟩:=cb;exact ⟨U,H1,bB,ck⟩
def ajD(cJ:TE):fb:=fun D U H=>cJ U H D.rt
def bt(he:cH X e cJ):k3 X (.Return (J e) bh) (ajD cJ):=by
 intro au s U H D aa h;refine wpAny_Return_some (dt (he au s U H _ aa h) fun v s1 cb=>?_);obtain⟨x,H1,bB,cf,ck⟩:=cb;exact ⟨x,U,H1,bB,cf,ck⟩
def xa(c:g0)(t u:fb):fb:=fun D U H=>c U H fun b H1=>if b=ah then t D U H1 else u D U H1
def cw{a b:List bA}{gm:g0}(hc:k4 X c gm)(aM:jy X a t)(ag:jy X b u):k3 X (.If c a b bh) (xa gm t u):=by
 intro au s U H D aa h;refine wpAny_If (dt (hc au s U H _ aa h) fun d s1 cb=>?_);obtain⟨H1,bB,ck⟩:=cb;cases d with
 |true=>exact aM au s1 U H1 D bB ck
 |false=>exact ag au s1 U H1 D bB ck
def ajy:fb:=fun _ _ _=>False
def kN:k3 X st ajy:=fun _ _ _ _ _ _ h=>h.elim
end
noncomputable abbrev gp:=V->St->al->(St->al->Prop)->Prop
noncomputable abbrev s9:=List V->St->al->(St->al->Prop)->Prop
def qA(X:bQ)(jv:cU)(t:gp):Prop :=
 ∀(au:List (af×bZ))(s:aR)(U:St)(H:al)(v:V)(u:av)(Q:St->al->Prop),Inv X au U H s->RelV v u->t v U H Q->
  b4 (model X.prog X.w) X.A (assign jv X.env u) (fun _ br=>∃b2 H',Inv X au b2 H' br/\Q b2 H') X.xe s
def xJ(X:bQ)(jX:List cU)(t:s9):Prop :=
 ∀(au:List (af×bZ))(s:aR)(U:St)(H:al)(vs:List V)(us:List av)(Q:St->al->Prop),Inv X au U H s->Vals vs us->t vs U H Q->
  b4 (model X.prog X.w) X.A (assignInOrder ((assignEach jX X.env).map (·.2)) us) (fun _ br=>∃b2 H',Inv X au b2 H' br/\Q b2 H') X.xe s
section
variable {X:bQ} {bh:Pos}
def wa(i:Nat):gp:=fun v U H Q=>Q (U.set i (J v)) H
def d5(bP:X.N.Nodup)(aF:rg (X.N[i]?=J x) w8)(aq:rg (Loc X.env.scope x) rrr)(aA:rg (X.fn x=ah\/X.env.scope.names.lookup x=J .local) w5):qA X (.Name x bh) (wa i):=by
 intro au s U H v u Q aa r h;exact wpAny_assign_Name (M5 aa bP aF aq r (fun br h8=>⟨_,H,h8,h⟩) aA)
def acZ:s9:=fun vs U H Q=>vs=[]/\Q U H
def acY(t:gp)(u:s9):s9:=fun vs U H Q=>∃v r,vs=v::r/\t v U H fun b2 H'=>u r b2 H' Q
def oy:xJ X [] acZ:=by
 intro au s U H vs us Q aa r h;obtain⟨e,h⟩:=h;subst e;cases r;exact assignInOrder_nil ⟨U,H,aa,h⟩
def jk{t:gp}{u:s9}(ai:qA X e t)(ar:xJ X aZ u)
  (hs:rg ((assignEach (e::aZ) X.env).map (·.2)=assign e X.env::(assignEach aZ X.env).map (·.2)) w8):xJ X (e::aZ) (acY t u):=by
 intro au s U H vs us Q aa r h;obtain⟨v,al4,aL,h⟩:=h;subst aL;cases r with
 |cons r ir =>
  rw[hs];refine assignInOrder_cons (dt (ai au s U H _ _ _ aa r h) fun _ s1 cb=>?_);obtain⟨bE,H1,bB,ck⟩:=cb;exact ar au s1 bE H1 _ _ Q bB ir ck
def ac0(K:bS)(n:Nat)(t:s9):gp:=fun v U H Q=>∃a xs,v=.ref a/\gf K H a xs/\xs.length=n/\t xs U H Q
def oM{t:s9}(hc:X.calm=ah)(h:xJ X aZ t)
  (aV:rg ((assignEach aZ X.env).length=n) w8) (q1:rg ((assignEach aZ X.env).findIdx? (·.1)=ax) w8):qA X (.Tuple aZ k bh) (ac0 X.K n t):=by
 intro au s U H v u Q aa r hw;obtain⟨a,xs,aL,bo,aB,hw⟩:=hw;subst aL;cases r;obtain⟨bq,d2,bc,bV⟩:=aa.tuple bo;refine assign_Tuple_tuple (aa.ok.hd hc) bc (by simp[aV,<-aB,d2.length]) q1 fun h' aq=>?_;have bB:Inv X au U H {s with heap:=h'}:=aa.kept (t':=s.toks) fun b o e=>aq b o (hl (e2 e)) e;exact h au _ U H xs _ Q bB (by simpa using d2) hw
def w9(cJ:TE)(g:gp):fb:=fun D U H=>cJ U H fun x H1=>g x U H1 D.nx
def Ws{cJ:TE}{g:gp}(he:cH X e cJ)(bb:qA X ep g)(hs:rg (swapsWithSole [ep] e bh.line X.env=pure aE) w8)(hw:rg (swappedStores [ep] e X.env=pure ax) w8)
  (ai:rg ((assignEach [ep] X.env).map (·.2)=[assign ep X.env]) w8):k3 X (.Assign [ep] e bh) (w9 cJ g):=by
 intro au s U H D aa h;refine wpAny_Assign_stores (dt (he au s U H _ aa h) fun v s1 cb=>?_) hs hw;obtain⟨x,H1,bB,cf,ck⟩:=cb;rw[ai];exact dt (bb au s1 U H1 x v _ bB cf ck) fun _ s2 q=>q
def Wr{cJ:TE}(bP:X.N.Nodup)(aF:X.N[i]?=J x)(aq:Loc X.env.scope x)(he:cH X e cJ)(hs:rg (swapsWith e (J (.Name x pos')) bh.line X.env=pure aE) w8)(aA:rg (X.fn x=ah\/X.env.scope.names.lookup x=J .local) w5):
  k3 X (.Assign [.Name x pos'] e bh) (w9 cJ (wa i)):=by
 intro au s U H D aa h;refine wpAny_Assign_Name (dt (he au s U H _ aa h) fun v s1 cb=>?_) hs;obtain⟨y,H1,bB,cf,ck⟩:=cb;exact M5 bB bP aF aq cf (fun s2 cM=>⟨_,H1,cM,ck⟩) aA
end
section
variable {X:bQ} {bh:Pos}
def ajH(c:g0)(dM:fb):fb:=fun D U H=>∃W:Nat->St->al->Prop,(∃m,W m U H)/\∀m U H,W m U H->
 c U H fun b H1=>if b=ah then ∃N:St->al->Prop,(∀b2 H',N b2 H'->∃bU,bU<m/\W bU b2 H')/\dM {D with nx:=N,ct:=N,bk:=D.nx} U H1 else D.nx U H1
def qC{gm:g0}{dM:fb}(aU:iB (model X.prog X.w) X.A X.env X.xe)(hc:k4 X c gm)(ag:jy X body dM):k3 X (.While c body [] bh) (ajH gm dM):=by
 intro au s U H D aa h;obtain⟨W,⟨m0,ke⟩,turn⟩:=h;refine wpAny_While (codeAny_whileLoop (fun n br=>∃b2 H',Inv X au b2 H' br/\W n b2 H') ?_ m0 ⟨U,H,aa,ke⟩);rintro n s1 ⟨bE,H1,bB,rk⟩;refine uQ aU (dt (hc au s1 bE H1 _ bB (turn n bE H1 rk)) fun b s2 cb=>?_);obtain⟨ao,cM,b1⟩:=cb;cases b with
 | true =>
  obtain⟨N,bP,b1⟩:=b1;rw[if_pos rfl];refine uQ aU (dt (ag au s2 bE ao _ cM b1) fun f i8 eS=>?_);cases f with
  |next =>
   obtain⟨lx,bp,j0,Jf⟩:=eS;obtain⟨bU,hm,rl⟩:=bP lx bp Jf;exact⟨bU,hm,lx,bp,j0,rl⟩
  |cont =>
   obtain⟨lx,bp,j0,Jf⟩:=eS;obtain⟨bU,hm,rl⟩:=bP lx bp Jf;exact⟨bU,hm,lx,bp,j0,rl⟩
  |brk=>exact eS
  |ret v=>exact eS
 |false =>
  rw[if_neg ia];exact wpAny_execs_nil ⟨bE,ao,cM,b1⟩
end
structure kk where
 go:Nat->al->Prop
 pD:Nat->al->V->al->Prop
 stop:Nat->al->Prop
def qr(X:bQ)(au:List (af×bZ))(H:al)(b:af):Prop :=
 H b=ax/\b≠X.env.locals/\b∉X.fs/\(b∈X.ex\/X.eQ.heap.objs.size<=b)/\(∀x c,X.env.cells.lookup x=J c->c≠b)/\∀p∈X.pn++au,p.1≠b
def Inv.nF{U:St}{H':al}{b:af}(aa:Inv X au U H s)(ag:s.heap.objs.size<=b)(aV:H' b=ax):qr X au H' b:=by
 refine⟨aV,Nat.ne_of_gt (fK aa.lt ag),aa.aga ag,.inr (dF aa.d3 ag),fun x c e z=>?_,fun p aU z=>?_⟩
 ·obtain⟨v,q⟩:=aa.cell x c e;exact absurd (fK q.lt (by rw[z];exact ag)) (Nat.lt_irrefl _)
 .exact absurd (fK (e2 (aa.pin p aU).1) (by rw[z];exact ag)) (Nat.lt_irrefl _)
structure Turn(P:dI)(w:dc)(K:bS)(ep:cU)(bF:kk)(cm:List af)(it:af)(i9:Nat->bG->Prop):Prop where
 mem:it∈cm
 obj:∀i h,i9 i h->∀b∈cm,∃o,h.get? b=J o/\∀v,o.data≠.cell v
 keep:∀i h h',i9 i h->(∀b∈cm,∀o,h.get? b=J o->h'.get? b=J o)->i9 i h'
 item:∀(X:bQ),X.prog=P->X.w=w->X.K=K->X.calm=ah->∀(i:Nat)(au:List (af×bZ))(s:aR)(U:St)(H:al)(E:av->aR->Prop),Inv X au U H s->(∀b∈cm,qr X au H b)->i9 i s.heap->bF.go i H->
  b4 (model P w) X.A (pyNext (.ref it)) (fun r s1=>∃u,r=J u/\
   b4 (model P w) X.A (letOwnedTupleGo ep (.ref it) u) (fun _ s2=>∃x H',Inv X au U H' s2/\RelV x u/\bF.pD i H x H'/\i9 (i+1) s2.heap/\∀b∈cm,H' b=ax) E s1) E s
 done:∀(X:bQ),X.prog=P->X.w=w->X.K=K->X.calm=ah->∀(i:Nat)(au:List (af×bZ))(s:aR)(U:St)(H:al)(E:av->aR->Prop),Inv X au U H s->(∀b∈cm,qr X au H b)->i9 i s.heap->bF.stop i H->
  b4 (model P w) X.A (pyNext (.ref it)) (fun r s1=>r=ax/\Inv X au U H s1) E s
 self:∀(A:dU)(i:Nat)(s:aR)(Q:av->aR->Prop)(E:av->aR->Prop),i9 i s.heap->Q (.ref it) s->b4 (model P w) A (pyIter (.ref it)) Q E s
noncomputable abbrev dZ:=St->al->(kk->al->Prop)->Prop
def EY(X:bQ)(au:List (af×bZ))(U:St)(ep:cU)(R:kk->al->Prop)(Ja:av)(s2:aR):Prop :=
 ∃(it:af)(cm:List af)(i9:Nat->bG->Prop)(bF:kk)(H':al),Ja=.ref it/\Inv X au U H' s2/\Turn X.prog X.w X.K ep bF cm it i9/\i9 0 s2.heap/\(∀b∈cm,qr X au H' b)/\R bF H'
def iE(X:bQ)(ep iter:cU)(ja:dZ):Prop :=
 ∀(au:List (af×bZ))(s:aR)(U:St)(H:al)(R:kk->al->Prop),Inv X au U H s->ja U H R->
  b4 (model X.prog X.w) X.A (eval iter X.env) (fun v s1=>b4 (model X.prog X.w) X.A (pyIter v) (EY X au U ep R) X.xe s1) X.xe s
def vV{n:String}{vs:Array av}(aN:s.heap.get? it=J o)(hc:o.cls=.type n)(hd:o.data=.fields vs)
    (aV:["enumerate","zip","dict_itemiterator","dict_reverseitemiterator","odict_iterator","itertools.zip_longest","itertools.pairwise"].contains n=aE) (fZ:Q () s):b4 M A (letOwnedTupleGo ep (.ref it) u) Q E s:=by
  unfold letOwnedTupleGo
  cases ep<;>first
    |exact fq fZ
    |(cases u<;>first
        |exact fq fZ
        | (refine cq (wpAny_load aN ?_)
           rw[hc,hd];show b4 M A (if(["enumerate","zip","dict_itemiterator","dict_reverseitemiterator","odict_iterator","itertools.zip_longest","itertools.pairwise"].contains n&&vs[0]? == J (rawInt _))=ah then _ else _) Q E s;rw[if_neg (by intro h;rw[aV,Bool.false_and]at h;cases h)]
           exact fq fZ))
noncomputable def pL(K:bS)(a:af):kk :=
 ⟨fun i H=>∃xs x,cZ K H a xs/\xs[i]?=J x,fun i H x H'=>H'=H/\∀xs,cZ K H a xs->xs[i]?=J x,fun i H=>∃xs,cZ K H a xs/\xs.length<=i⟩
noncomputable def u9(K:bS)(a:af):kk :=
 ⟨fun i H=>∃xs x,gf K H a xs/\xs[i]?=J x,fun i H x H'=>H'=H/\∀xs,gf K H a xs->xs[i]?=J x,fun i H=>∃xs,gf K H a xs/\xs.length<=i⟩
noncomputable def qs(lo:Int)(n:Nat):kk:=⟨fun i _=>i<n,fun i H x H'=>H'=H/\x=.int (lo+i),fun i _=>n<=i⟩
def aav(a it:af):Turn P w K ep (pL K a) [it] it (fun i h=>h.IsListIter it a i) where
 mem:=by simp
 obj:=fun i h st b ag=>by
  have e:b=it:=by simpa using ag
  subst e;obtain⟨o,e,c,d⟩:=st;exact⟨o,e,fun v z=>by rw[d]at z;cases z⟩
 keep:=fun i h h' st k=>st.at fun o e=>k it (by simp) o e
 item:=by
  intro X cV hw f7 hc i au s U H E aa aA st bb;subst cV hw f7;obtain⟨xs,x,bo,aq⟩:=bb;obtain⟨bq,d2,p,bV⟩:=aa.list bo;obtain⟨u,cz,e1⟩:=d2.get aq;obtain⟨f0,f1,f2,gi,f4,hp⟩:=aA it (by simp);refine wpAny_pyNext_list_item st p.isList (x:=u) (by simpa using cz) fun h' hK mx=>?_;have bB:Inv X au U H {s with heap:=h'}:=aa.turned (t':=s.toks) (fun b o ag e=>(mx.2 b ag).trans e) f0 f1 gi f4 hp;obtain⟨o,e,c,d⟩:=id hK;exact⟨u,I,vV (s:={s with heap:=h'}) e c d (by decide) ⟨x,H,bB,e1,⟨I,fun ay aW=>by rw[aa.afk aW bo];exact aq⟩,hK,fun b ag=>(aA b ag).1⟩⟩
 done:=by
  intro X cV hw f7 hc i au s U H E aa aA st bb;subst cV hw f7;obtain⟨xs,bo,aq⟩:=bb;obtain⟨bq,d2,p,bV⟩:=aa.list bo;obtain⟨f0,f1,f2,gi,f4,hp⟩:=aA it (by simp);have aB:=d2.length;exact wpAny_pyNext_list_end (aa.ok.hd hc) st p.isList (by simp;lia) fun h' eG=>⟨I,aa.turned (t':=s.toks) (fun b o ag e=>eG b o ag e) f0 f1 gi f4 hp⟩
 self:=fun _ _ _ _ _ st h=>wpAny_pyIter_listiter st h
def ZV(a it:af):Turn P w K ep (u9 K a) [it] it (fun i h=>h.IsTupleIter it a i) where
 mem:=by simp
 obj:=fun i h st b ag=>by
  have e:b=it:=by simpa using ag
  subst e;obtain⟨o,e,c,d⟩:=st;exact⟨o,e,fun v z=>by rw[d]at z;cases z⟩
 keep:=fun i h h' st k=>st.at fun o e=>k it (by simp) o e
 item:=by
  intro X cV hw f7 hc i au s U H E aa aA st bb;subst cV hw f7;obtain⟨xs,x,bo,aq⟩:=bb;obtain⟨bq,d2,p,bV⟩:=aa.tuple bo;obtain⟨u,cz,e1⟩:=d2.get aq;obtain⟨f0,f1,f2,gi,f4,hp⟩:=aA it (by simp);refine wpAny_pyNext_tuple_item st (show s.heap.IsTuple a bq.toArray from p) (x:=u) (by simpa using cz) fun h' hK mx=>?_;have bB:Inv X au U H {s with heap:=h'}:=aa.turned (t':=s.toks) (fun b o ag e=>(mx.2 b ag).trans e) f0 f1 gi f4 hp;obtain⟨o,e,c,d⟩:=id hK;exact⟨u,I,vV (s:={s with heap:=h'}) e c d (by decide) ⟨x,H,bB,e1,⟨I,fun ay aW=>by rw[aa.akf aW bo];exact aq⟩,hK,fun b ag=>(aA b ag).1⟩⟩
 done:=by
  intro X cV hw f7 hc i au s U H E aa aA st bb;subst cV hw f7;obtain⟨xs,bo,aq⟩:=bb;obtain⟨bq,d2,p,bV⟩:=aa.tuple bo;obtain⟨f0,f1,f2,gi,f4,hp⟩:=aA it (by simp);have aB:=d2.length;exact wpAny_pyNext_tuple_end (aa.ok.hd hc) st (show s.heap.IsTuple a bq.toArray from p) (by simp;lia) fun h' eG=>⟨rfl,aa.turned (t':=s.toks) (fun b o ag e=>eG b o ag e) f0 f1 gi f4 hp⟩
 self:=fun _ _ _ _ _ st h=>wpAny_pyIter_tupleiter st h
def ZW(it:af)(lo:Int)(n:Nat):Turn P w K ep (qs lo n) [it] it (fun i h=>IsRangeIter h it (lo+(i:Nat)*1) ((n:Int)-(i:Nat)) 1) where
 mem:=by simp
 obj:=fun i h st b ag=>by
  have e:b=it:=by simpa using ag
  subst e
  exact⟨_,st,fun v z=>by
   have pE:Data.fields _=Data.cell v:=z
   cases pE⟩
 keep:=fun i h h' st k=>k it (by simp) _ st
 item:=by
  intro X cV hw f7 hc i au s U H E aa aA st bb;subst cV hw f7;obtain⟨f0,f1,f2,gi,f4,hp⟩:=aA it (by simp);have W:=Walks.range (prog:=X.prog) (w:=X.w) (aa.ok.hd hc) it lo 1 n;refine W.item i s _ _ bb st fun v h' dQ bR hK eI=>?_;obtain⟨t,rfl⟩:=bR;have bB:Inv X au U H {s with heap:=h',toks:=dQ}:=aa.turned (fun b o ag e=>eI b o (by simpa using ag) e) f0 f1 gi f4 hp;refine⟨_,I,vV (s:={s with heap:=h',toks:=dQ}) (n:="range_iterator") hK I I (by decide) ⟨.int (lo+i),H,bB,⟨t,?_⟩,⟨I,I⟩,hK,fun b ag=>(aA b ag).1⟩⟩;rw[Int.mul_one]
 done:=by
  intro X cV hw f7 hc i au s U H E aa aA st bb;subst cV hw f7;obtain⟨f0,f1,f2,gi,f4,hp⟩:=aA it (by simp);exact wpAny_pyNext_range_end (aa.ok.hd hc) st (by have:n<=i:=bb;lia) fun h' eG=>⟨I,aa.turned (t':=s.toks) (fun b o ag e=>eG b o ag e) f0 f1 gi f4 hp⟩
 self:=fun _ _ _ _ _ st h=>wpAny_pyIter_rangeiter st h
section
variable {X:bQ} {ep:cU}
def I7(K:bS)(dT:TE):dZ:=fun U H R=>dT U H fun x H1=>∃a,x=.ref a/\(∃xs,cZ K H1 a xs)/\R (pL K a) H1
def PL(K:bS)(dT:TE):dZ:=fun U H R=>dT U H fun x H1=>∃a,x=.ref a/\(∃xs,gf K H1 a xs)/\R (u9 K a) H1
def VB{l:cU}{dT:TE}(aB:cH X l dT):iE X ep l (I7 X.K dT):=by
 intro au s U H R aa h;refine dt (aB au s U H _ aa h) fun v s1 cb=>?_;obtain⟨x,H1,bB,cf,ck⟩:=cb;obtain⟨a,e,⟨xs,bo⟩,q⟩:=ck;subst e;cases cf;obtain⟨bq,d2,p,bV⟩:=bB.list bo;refine wpAny_pyIter_list p.isList ?_;refine⟨s1.heap.objs.size,[s1.heap.objs.size],_,_,H1,I,bB.kept (t':=s1.toks) fun b o e=>fV _ e,aav a _,⟨_,hA _ I,I,I⟩,fun b ag=>?_,q⟩;have e:b=s1.heap.objs.size:=by simpa using ag
 subst e;exact bB.nF (cp _) (bB.aP.fresh (cp _))
def Wu{l:cU}{dT:TE}(aB:cH X l dT):iE X ep l (PL X.K dT):=by
 intro au s U H R aa h;refine dt (aB au s U H _ aa h) fun v s1 cb=>?_;obtain⟨x,H1,bB,cf,ck⟩:=cb;obtain⟨a,e,⟨xs,bo⟩,q⟩:=ck;subst e;cases cf;obtain⟨bq,d2,p,bV⟩:=bB.tuple bo;refine wpAny_pyIter_tuple (show s1.heap.IsTuple a bq.toArray from p) ?_;refine⟨s1.heap.objs.size,[s1.heap.objs.size],_,_,H1,I,bB.kept (t':=s1.toks) fun b o e=>fV _ e,ZV a _,⟨_,hA _ I,I,I⟩,fun b ag=>?_,q⟩;have e:b=s1.heap.objs.size:=by simpa using ag
 subst e;exact bB.nF (cp _) (bB.aP.fresh (cp _))
def Nb{U:St}{R:kk->al->Prop}{aF:Int}{t u v:Tok}{dQ:Nat}(aa:Inv X au U H s)(ai : -(2^62)<=lo)(ar:lo<2^62)(bz : -(2^62)<=aF)(c0:aF<2^62)
  (q:R (qs lo (aF-lo).toNat) H):b4 (model X.prog X.w) X.A (pyIter (.ref s.heap.objs.size)) (EY X au U ep R) E {s with heap:=s.heap.push {cls :=.type "range",data :=.fields #[.int lo t,.int aF u,.int 1 v]},toks:=dQ}:=by
 refine wpAny_pyIter_range (IsRange.new ..) (small_one ai ar bz c0) ?_;have bB:Inv X au U H {s with heap:=s.heap.push {cls :=.type "range",data :=.fields #[.int lo t,.int aF u,.int 1 v]},toks:=dQ}:=aa.kept fun b o e=>fV _ e
 refine⟨(s.heap.push {cls :=.type "range",data :=.fields #[.int lo t,.int aF u,.int 1 v]}).objs.size,[(s.heap.push {cls :=.type "range",data :=.fields #[.int lo t,.int aF u,.int 1 v]}).objs.size],_,_,H,I,
  bB.kept (t':=dQ) fun b o e=>fV _ e,ZW _ lo (aF-lo).toNat,?_,fun b ag=>?_,q⟩
 ·have aL:lo+((0:Nat):Int)*1=lo:=by simp
  have aS:(((aF-lo).toNat:Nat):Int)-((0:Nat):Int)=de.Range.rangeSize lo aF 1:=by rw[rangeSize_one];split<;>lia
  show IsRangeIter _ _ (lo+((0:Nat):Int)*1) ((((aF-lo).toNat:Nat):Int)-((0:Nat):Int)) 1;rw[aL,aS];exact hA _ I
 ·have e:b=(s.heap.push {cls :=.type "range",data :=.fields #[.int lo t,.int aF u,.int 1 v]}).objs.size:=by simpa using ag
  subst e;exact bB.nF (cp _) (bB.aP.fresh (cp _))
def aeW(cD:hz):dZ:=fun U H R=>cD U H fun vs H1=>∃j:Int,vs=[.int j]/\-(2^62)<=j/\j<2^62/\R (qs 0 j.toNat) H1
def aeX(cD:hz):dZ:=fun U H R=>cD U H fun vs H1=>∃i j:Int,vs=[.int i,.int j]/\(-(2^62)<=i/\i<2^62/\-(2^62)<=j/\j<2^62)/\R (qs i (j-i).toNat) H1
def mL{a:cU}{cD:hz}{p:Pos}(bb:je X "range")(hm:X.mg "range"=ax)(aM:iD X [a] cD)(hs:rg (en [a] X.env=[(aE,eval a X.env)]) w8):iE X ep (.Call (.Name "range" p) [a] [] bh) (aeW cD):=by
 intro au s U H R aa h;refine Call_ (mD aa bb hm boot_range (PyProof.Rows.callWith_type1 (dt (aM bh au s U H _ aa h) fun us s1 cb=>?_) hs I));obtain⟨vs,H1,bB,cf,ck⟩:=cb;obtain⟨j,e,ck,b1,q⟩:=ck;subst e;cases cf with
 |cons r ir =>
  cases ir;obtain⟨t,rfl⟩:=r;exact call_range_1 (Nb bB (by lia) (by lia) ck b1 (by simpa using q))
def aaN{a b:cU}{cD:hz}{p:Pos}(bb:je X "range")(hm:X.mg "range"=ax)(aM:iD X [a,b] cD)(hs:rg (en [a,b] X.env=[(aE,eval a X.env),(aE,eval b X.env)]) w8)(ff:rg (en [b] X.env=[(aE,eval b X.env)]) w8):
  iE X ep (.Call (.Name "range" p) [a,b] [] bh) (aeX cD):=by
 intro au s U H R aa h;refine Call_ (mD aa bb hm boot_range (PyProof.Rows.callWith_type1 (dt (aM bh au s U H _ aa h) fun us s1 ⟨vs,H1,bB,cf,ck⟩=>?_) (by rw[hs,ff]) (by rw[ff];rfl)));obtain⟨i,j,e,⟨ck,b1,eS,sE⟩,q⟩:=ck;subst e;cases cf with
 | cons r ir =>
  cases ir with
  |cons eW ir =>
   cases ir;obtain⟨t,rfl⟩:=r;obtain⟨t',rfl⟩:=eW;exact call_range_2 (Nb bB ck b1 eS sE q)
def ajt(ja:dZ)(g:gp)(dM:fb):fb:=fun D U H=>ja U H fun bF H1=>∃W:Nat->Nat->St->al->Prop,(∃m,W 0 m U H1)/\∀i m U H,W i m U H->
 (bF.stop i H/\D.nx U H)\/(bF.go i H/\∃N:St->al->Prop,(∀b2 H',N b2 H'->∃bU,bU<m/\W (i+1) bU b2 H')/\∀x H',bF.pD i H x H'->g x U H' fun bg ao=>dM {D with nx:=N,ct:=N,bk:=D.nx} bg ao)
noncomputable def zG(cm:List af)(h:bG):List (af×bZ):=cm.filterMap fun b=>(h.get? b).map fun o=>(b,o)
def BC{b:af}(ag:b∈cm)(e:h.get? b=J o):(b,o)∈zG cm h:=List.mem_filterMap.mpr ⟨b,ag,by rw[e];rfl⟩
def aaX{p:af×bZ}(aU:p∈zG cm h):p.1∈cm/\h.get? p.1=J p.2:=by
 obtain⟨b,ag,e⟩:=List.mem_filterMap.mp aU;cases q:h.get? b with
 |none=>rw[q]at e;cases e
 |some o =>
  rw[q]at e;have e':(b,o)=p:=gq e;subst e';exact⟨ag,q⟩
def Inv.pinned{U:St}(aa:Inv X au U H s)(aA:∀b∈cm,qr X au H b)(aN:∀b∈cm,∃o,s.heap.get? b=J o/\∀v,o.data≠.cell v):Inv X (au++zG cm s.heap) U H s :=
 aa.Qk fun p aU=>(List.mem_append.mp aU).elim (fun z=>aa.pin p (nr _ z)) fun z=>by
  obtain⟨ag,e⟩:=aaX z;obtain⟨f0,f1,f2,_⟩:=aA p.1 ag;obtain⟨o,e',d⟩:=aN p.1 ag;rw[e]at e';cases e';exact⟨e,f0,f1,f2,d⟩
def Inv.DX{pl:List (af×bZ)}{U:St}(aa:Inv X (au++pl) U H s):Inv X au U H s:=aa.Qk fun p aU=>aa.pin p (nr _ (List.mem_append_left _ aU))
def ma{ja:dZ}{g:gp}{dM:fb}(aU:iB (model X.prog X.w) X.A X.env X.xe)(hc:X.calm=ah)(aF:iE X ep iter ja)(bb:qA X ep g)(ag:jy X body dM)
  (hs:rg (∀x,foldedSetIterable iter X.env x=pure x) rrs):k3 X (.For ep iter body [] bh) (ajt ja g dM):=by
 intro au s U H D aa h;refine wpAny_For (dt (aF au s U H _ aa h) fun v s1 ai=>dt ai fun Ja s2 ar=>?_) hs;obtain⟨it,cm,i9,bF,ao,e,cM,T,ju,f2,W,⟨m0,ke⟩,turn⟩:=ar;subst e;have uD:∀{H':al},(∀b∈cm,H' b=ax)->∀b∈cm,qr X au H' b:=fun aV b ag=>⟨aV b ag,(f2 b ag).2⟩;refine codeAny_forLoop_any (fun n br=>∃i b2 H',Inv X au b2 H' br/\i9 i br.heap/\(∀b∈cm,H' b=ax)/\W i n b2 H') ?_ m0 ⟨0,U,ao,cM,ju,fun b ag=>(f2 b ag).1,ke⟩;rintro n i8 ⟨i,lx,bp,j0,kC,yB,rl⟩;rcases turn i n lx bp rl with⟨stop,Jv⟩|⟨go,N,bP,step⟩
 ·refine uQ aU (dt (T.done X I I I hc i au i8 lx bp X.xe j0 (uD yB) kC stop) fun r uu cb=>?_);obtain⟨aw,xx⟩:=cb;subst aw;exact wpAny_execs_nil ⟨lx,bp,xx,Jv⟩
 ·refine uQ aU (dt (T.item X I I I hc i au i8 lx bp X.xe j0 (uD yB) kC go) fun r uu cb=>?_);obtain⟨u,aw,c0⟩:=cb;subst aw;refine uQ aU (dt c0 fun _ zK cb=>?_);obtain⟨x,gZ,EH,sF,Ko,jW,HQ⟩:=cb;have EI:=EH.pinned (uD HQ) (T.obj _ _ jW);refine uQ aU (dt (bb _ zK lx gZ x u _ EI sF (step x gZ Ko)) fun _ JC cb=>?_);obtain⟨xm,dm,EJ,zH⟩:=cb;refine uQ aU (dt (ag _ JC xm dm _ EJ zH) fun f n0 pg=>?_)
  have again:∀{ly:St}{hL:al},Inv X (au++zG cm zK.heap) ly hL n0->N ly hL->∃m,m<n/\∃i b2 H',Inv X au b2 H' n0/\i9 i n0.heap/\(∀b∈cm,H' b=ax)/\W i m b2 H':=fun{ly hL}kj so=>by
   obtain⟨bU,hm,z4⟩:=bP ly hL so;refine⟨bU,hm,i+1,ly,hL,kj.DX,T.keep _ _ _ jW fun b ag o e=>(kj.pin (b,o) (nr _ (nr _ (BC ag e)))).1,fun b ag=>?_,z4⟩;obtain⟨o,e,d⟩:=T.obj _ _ jW b ag;exact(kj.pin (b,o) (nr _ (nr _ (BC ag e)))).2.1
  cases f with
  |next=>obtain⟨ly,hL,kj,so⟩:=pg;exact again kj so
  |cont=>obtain⟨ly,hL,kj,so⟩:=pg;exact again kj so
  |brk=>obtain⟨ly,hL,kj,pg⟩:=pg;exact⟨ly,hL,kj.DX,pg⟩
  |ret v=>obtain⟨akk,ly,hL,kj,aiJ,pg⟩:=pg;exact⟨akk,ly,hL,kj.DX,aiJ,pg⟩
end
def Nr{xs:List V}{g:gp}{dM:fb}{D:Ends}{U:St}(Pv:Nat->St->al->Prop)(aX:Pv 0 U H)(aB:∀i U H,i<=xs.length->Pv i U H->cZ K H a xs)
  (hs:∀i x U H,xs[i]?=J x->Pv i U H->g x U H fun bg ao=>dM {D with nx:=Pv (i+1),ct:=Pv (i+1),bk:=D.nx} bg ao) (hd:∀U H,Pv xs.length U H->D.nx U H) :
  ∃W:Nat->Nat->St->al->Prop,(∃m,W 0 m U H)/\∀i m U H,W i m U H->
   ((pL K a).stop i H/\D.nx U H)\/((pL K a).go i H/\∃N:St->al->Prop,(∀b2 H',N b2 H'->∃bU,bU<m/\W (i+1) bU b2 H')/\∀x H',(pL K a).pD i H x H'->g x U H' fun bg ao=>dM {D with nx:=N,ct:=N,bk:=D.nx} bg ao):=by
 refine⟨fun i m U H=>m=xs.length-i/\i<=xs.length/\Pv i U H,⟨xs.length,by simp,UF _,aX⟩,?_⟩;rintro i m U H ⟨rfl,aF,p⟩;have q:=aB i U H aF p;by_cases hH:i<xs.length
 ·refine .inr ⟨⟨xs,xs[i],q,by simp[hH]⟩,Pv (i+1),fun b2 H' q9=>⟨xs.length-(i+1),by lia,rfl,hH,q9⟩,fun x H' y=>?_⟩;obtain⟨e,y⟩:=y;subst e;exact hs i x U _ (y xs q) p
 ·have e:i=xs.length:=by lia
  subst e;exact .inl ⟨⟨xs,q,cp _⟩,hd U H p⟩
def V7{xs:List V}{g:gp}{dM:fb}{D:Ends}{U:St}(Pv:Nat->St->al->Prop)(aX:Pv 0 U H)(aB:∀i U H,i<=xs.length->Pv i U H->gf K H a xs)
  (hs:∀i x U H,xs[i]?=J x->Pv i U H->g x U H fun bg ao=>dM {D with nx:=Pv (i+1),ct:=Pv (i+1),bk:=D.nx} bg ao) (hd:∀U H,Pv xs.length U H->D.nx U H) :
  ∃W:Nat->Nat->St->al->Prop,(∃m,W 0 m U H)/\∀i m U H,W i m U H->
   ((u9 K a).stop i H/\D.nx U H)\/((u9 K a).go i H/\∃N:St->al->Prop,(∀b2 H',N b2 H'->∃bU,bU<m/\W (i+1) bU b2 H')/\∀x H',(u9 K a).pD i H x H'->g x U H' fun bg ao=>dM {D with nx:=N,ct:=N,bk:=D.nx} bg ao):=by
 refine⟨fun i m U H=>m=xs.length-i/\i<=xs.length/\Pv i U H,⟨xs.length,by simp,UF _,aX⟩,?_⟩;rintro i m U H ⟨rfl,aF,p⟩;have q:=aB i U H aF p;by_cases hH:i<xs.length
 ·refine .inr ⟨⟨xs,xs[i],q,by simp[hH]⟩,Pv (i+1),fun b2 H' q9=>⟨xs.length-(i+1),by lia,rfl,hH,q9⟩,fun x H' y=>?_⟩;obtain⟨e,y⟩:=y;subst e;exact hs i x U _ (y xs q) p
 ·have e:i=xs.length:=by lia
  subst e;exact .inl ⟨⟨xs,q,cp _⟩,hd U H p⟩
def qu{g:gp}{dM:fb}{D:Ends}{U:St}(Pv:Nat->St->al->Prop)(aX:Pv 0 U H)
  (hs:∀i U H,i<n->Pv i U H->g (.int (lo+i)) U H fun bg ao=>dM {D with nx:=Pv (i+1),ct:=Pv (i+1),bk:=D.nx} bg ao) (hd:∀U H,Pv n U H->D.nx U H) :
  ∃W:Nat->Nat->St->al->Prop,(∃m,W 0 m U H)/\∀i m U H,W i m U H->
   ((qs lo n).stop i H/\D.nx U H)\/((qs lo n).go i H/\∃N:St->al->Prop,(∀b2 H',N b2 H'->∃bU,bU<m/\W (i+1) bU b2 H')/\∀x H',(qs lo n).pD i H x H'->g x U H' fun bg ao=>dM {D with nx:=N,ct:=N,bk:=D.nx} bg ao):=by
 refine⟨fun i m U H=>m=n-i/\i<=n/\Pv i U H,⟨n,by simp,UF _,aX⟩,?_⟩;rintro i m U H ⟨rfl,aF,p⟩;by_cases hH:i<n
 ·refine .inr ⟨hH,Pv (i+1),fun b2 H' q9=>⟨n-(i+1),by lia,rfl,hH,q9⟩,fun x H' y=>?_⟩;obtain⟨e,y⟩:=y;subst e y;exact hs i U _ hH p
 ·have e:i=n:=by lia
  subst e;exact .inl ⟨cp _,hd U H p⟩
noncomputable abbrev iF:=V->V->al->bI->Prop
def ea(X:bQ)(f:av->av->Sem av)(r:iF):Prop :=
 ∀(au:List (af×bZ))(s:aR)(U:St)(H:al)(x y:V)(v u:av)(Q:bI),Inv X au U H s->RelV x v->RelV y u->r x y H Q->
  b4 (model X.prog X.w) X.A (f v u) (jd X au U Q) X.xe s
def E8(X:bQ)(f:av->Sem av)(r:V->al->bI->Prop):Prop :=
 ∀(au:List (af×bZ))(s:aR)(U:St)(H:al)(x:V)(v:av)(Q:bI),Inv X au U H s->RelV x v->r x H Q->
  b4 (model X.prog X.w) X.A (f v) (jd X au U Q) X.xe s
def jG(X:bQ)(f:av)(r:List V->al->bI->Prop):Prop :=
 ∀(au:List (af×bZ))(s:aR)(U:St)(H:al)(xs:List V)(us:List av)(Q:bI),Inv X au U H s->Vals xs us->r xs H Q->
  b4 (model X.prog X.w) X.A (call f us) (jd X au U Q) X.xe s
def Ua(X:bQ)(r:V->al->(Bool->al->Prop)->Prop):Prop :=
 ∀(au:List (af×bZ))(s:aR)(U:St)(H:al)(x:V)(v:av)(Q:Bool->al->Prop),Inv X au U H s->RelV x v->r x H Q->
  b4 (model X.prog X.w) X.A (truthy v) (A0 X au U Q) X.xe s
def lZ(r:iF)(cD dM:TE):TE:=fun U H Q=>cD U H fun x H1=>dM U H1 fun y ao=>r x y ao Q
def ajG(r:V->al->bI->Prop)(cD:TE):TE:=fun U H Q=>cD U H fun x H1=>r x H1 Q
inductive KZ(C:Int->Int->Prop)(x y:V)(Q:Int->Int->Prop):Prop where
 |mk (i j:Int) (a:x=.int i) (b:y=.int j) (c:C i j) (h:Q i j):KZ C x y Q
def rd(C:Int->Int->Prop)(g:Int->Int->V):iF:=fun x y H Q=>KZ C x y fun i j=>Q (g i j) H
inductive K0(x y:V)(Q:Int->Int->Prop):Prop where
 |mk (i j:Int) (a:x=.int i) (b:y=.int j) (h:Q i j):K0 x y Q
def m6(g:Int->Int->V):iF:=fun x y H Q=>K0 x y fun i j=>Q (g i j) H
noncomputable def Qp(g:Int->V):V->al->bI->Prop:=fun x H Q=>∃i,x=.int i/\Q (g i) H
variable {r:iF} {g:Int->Int->Int}
section
variable {X:bQ} {a b c:cU} {cD dM gm:TE} {bh:Pos}
def Ht(aM:cH X a cD)(ag:cH X b dM){U:St}{R:V->V->al->Prop}(aa:Inv X au U H s)
  (h:cD U H fun x H1=>dM U H1 fun y ao=>R x y ao) {Q:av->aR->Prop}
  (aA:∀v u s2 x y ao,Inv X au U ao s2->RelV x v->RelV y u->R x y ao->b4 (model X.prog X.w) X.A (f v u) Q X.xe s2) :
  b4 (model X.prog X.w) X.A (eval a X.env) (fun v eu=>b4 (model X.prog X.w) X.A (eval b X.env) (fun u n2=>b4 (model X.prog X.w) X.A (f v u) Q X.xe n2) X.xe eu) X.xe s:=by
 refine dt (aM au s U H _ aa h) fun v s1 cb=>?_;obtain⟨x,H1,bB,cf,ck⟩:=cb;refine dt (ag au s1 U H1 _ bB ck) fun u s2 cb=>?_;obtain⟨y,ao,cM,d8,b1⟩:=cb;exact aA v u s2 x y ao cM cf d8 b1
def aO{op:Operator}(aN:ea X (lz op) r)(aM:cH X a cD)(ag:cH X b dM):cH X (.BinOp a op b bh) (lZ r cD dM):=by
 intro au s U H Q aa h;exact wpAny_BinOp (Ht aM ag aa h fun v u s2 x y ao cM bu cR q=>aN au s2 U ao x y v u Q cM bu cR q)
def k7{op:UnaryOp}{r:V->al->bI->Prop}(aN:E8 X (unaryOp op) r)(aM:cH X a cD):cH X (.UnaryOp op a bh) (ajG r cD):=by
 intro au s U H Q aa h;refine UnaryOp_ (dt (aM au s U H _ aa h) fun v s1 cb=>?_);obtain⟨x,H1,bB,cf,ck⟩:=cb;exact aN au s1 U H1 x v Q bB cf ck
def sz{C:Int->Int->Prop}
  (rule:∀(i j:Int)(t u:Tok)(s:aR)(Q:av->aR->Prop)(E:av->aR->Prop),C i j->Q (.int (g i j) s.toks) {s with toks:=s.toks+1}->b4 (model X.prog X.w) X.A (f (.int i t) (.int j u)) Q E s) :
  ea X f (rd C fun i j =>.int (g i j)):=by
 intro au s U H x y v u Q aa bu cR h;obtain⟨i,j,rfl,rfl,hc,q⟩:=h;obtain⟨t,rfl⟩:=bu;obtain⟨t',rfl⟩:=cR;exact rule i j t t' s _ _ hc ⟨.int (g i j),H,aa.tok _,⟨_,I⟩,q⟩
def Jr
  (rule:∀(i j:Int)(t u:Tok)(s:aR)(Q:av->aR->Prop)(E:av->aR->Prop),Q (.int (g i j) s.toks) {s with toks:=s.toks+1}->b4 (model X.prog X.w) X.A (f (.int i t) (.int j u)) Q E s) :
  ea X f (m6 fun i j =>.int (g i j)):=by
 intro au s U H x y v u Q aa bu cR h;obtain⟨i,j,rfl,rfl,q⟩:=h;obtain⟨t,rfl⟩:=bu;obtain⟨t',rfl⟩:=cR;exact rule i j t t' s _ _ ⟨.int (g i j),H,aa.tok _,⟨_,I⟩,q⟩
def Dz{g:Int->Int->Bool}
  (rule:∀(i j:Int)(t u:Tok)(s:aR)(Q:av->aR->Prop)(E:av->aR->Prop),Q (.bool (g i j)) s->b4 (model X.prog X.w) X.A (f (.int i t) (.int j u)) Q E s) :
  ea X f (m6 fun i j =>.aK (g i j)):=by
 intro au s U H x y v u Q aa bu cR h;obtain⟨i,j,rfl,rfl,q⟩:=h;obtain⟨t,rfl⟩:=bu;obtain⟨t',rfl⟩:=cR;exact rule i j t t' s _ _ ⟨.aK (g i j),H,aa,I,q⟩
def SO(i j:Int):Prop:=0<j/\j<1073741824
def Af(i j:Int):Prop:=0<=j/\j<=1000000/\i.natAbs<2^64
def Ae(i j:Int):Prop:=(-(2^64)<i/\i<2^64)\/(-(2^64)<j/\j<2^64)
def Ae.ok{i j:Int}(h:Ae i j):IntMulOk i j:=by
 rcases h with⟨ai,ar⟩|⟨ai,ar⟩
 .exact .of_left (intBits_le_64 ai ar)
 .exact .of_right (intBits_le_64 ai ar)
def ZU(k:Nat):(0:Int)<=2^k:=by
 rw[two_pow_cast];exact Int.natCast_nonneg _
def WC:ea X (lz .Add) (m6 fun i j =>.int (i+j)):=Jr fun _ _ _ _ _ _ _ q=>add_int q
def Wy:ea X (lz .Sub) (m6 fun i j =>.int (i-j)):=Jr fun _ _ _ _ _ _ _ q=>sub_int q
def WA:ea X (lz .Mult) (rd Ae fun i j =>.int (i*j)):=sz fun _ _ _ _ _ _ _ hc q=>mul_int q hc.ok
def hn:ea X (lz .FloorDiv) (rd SO fun i j =>.int (i/j)):=sz fun i j _ _ _ _ _ hc q=>by
 have ai:(0:Int)<j:=hc.1;have ar:j<1073741824:=hc.2;exact floordiv_int (by lia) (by rw[Int.fdiv_eq_ediv_of_nonneg i (by lia)];exact q) (.inl (PyProof.noPylong_small (by lia)))
def dX:ea X (lz .Mod) (rd (fun _ j=>0<j) fun i j =>.int (i%j)):=sz fun i j _ _ _ _ _ hc q=>by
 have ai:(0:Int)<j:=hc;exact mod_int' (by lia) (by rw[Int.fmod_eq_emod_of_nonneg i (by lia)];exact q)
def yj:ea X (lz .Pow) (rd Af fun i j =>.int (i^j.toNat)):=sz fun _ _ _ _ _ _ _ hc q=>pow_int_small hc.1 hc.2.1 hc.2.2 q
def Hk:ea X (lz .LShift) (rd Af fun i j =>.int (i*2^j.toNat)):=sz fun _ _ _ _ _ _ _ hc q=>lshift_int_small hc.1 hc.2.1 hc.2.2 q
def Ln:ea X (lz .RShift) (rd (fun _ j=>0<=j) fun i j =>.int (i/2^j.toNat)):=sz fun i j _ _ _ _ _ hc q =>
 rshift_int hc (by rw[Int.fdiv_eq_ediv_of_nonneg i (ZU _)];exact q)
def WB:ea X (lz .BitAnd) (m6 fun i j =>.int (de.bitAnd i j)):=Jr fun _ _ _ _ _ _ _ q=>and_int q
def akh{f:av->Sem av}{g:Int->Int}
  (rule:∀(i:Int)(t:Tok)(s:aR)(Q:av->aR->Prop)(E:av->aR->Prop),Q (.int (g i) s.toks) {s with toks:=s.toks+1}->b4 (model X.prog X.w) X.A (f (.int i t)) Q E s) :
  E8 X f (Qp fun i =>.int (g i)):=by
 intro au s U H x v Q aa bu h;obtain⟨i,rfl,q⟩:=h;obtain⟨t,rfl⟩:=bu;exact rule i t s _ _ ⟨.int (g i),H,aa.tok _,⟨_,I⟩,q⟩
def k1:E8 X (unaryOp .USub) (Qp fun i =>.int (-i)):=akh fun _ _ _ _ _ q=>neg_int q
end
noncomputable def Qs:V->V->Bool
 |.bf,.bf=>ah|.bf,.int _=>ah|.int _,.bf=>ah|.bf,.aK _=>ah|.aK _,.bf=>ah|.bf,.str _=>ah|.str _,.bf=>ah
 |.int _,.int _=>ah|.aK _,.aK _=>ah|.str _,.str _=>ah|.k8 _,.k8 _=>ah
 |.int _,.str _=>ah|.str _,.int _=>ah|.aK _,.str _=>ah|.str _,.aK _=>ah
 |_,_=>aE
def rb:iF:=fun x y H Q=>Qs x y=ah/\Q (.aK (decide (x=y))) H
def Qo:iF:=fun x y H Q=>Qs x y=ah/\Q (.aK (!decide (x=y))) H
def ye{i j:Int}:decide (V.int i=V.int j)=(i == j):=by
 rw[Bool.eq_iff_iff];simp
def Lv{i j:Bool}:decide (V.aK i=V.aK j)=(i == j):=by
 rw[Bool.eq_iff_iff];simp
def N3{i j:ae}:decide (V.str i=V.str j)=(i == j):=by
 rw[Bool.eq_iff_iff];simp
def N4{i j:Array UInt8}:decide (V.k8 i=V.k8 j)=(i.toList == j.toList):=by
 rw[Bool.eq_iff_iff];cases i;cases j;simp
section
variable {X:bQ} {a b c:cU} {cD dM gm:TE} {bh:Pos}
def fD{U:St}{Q:bI}{k gz:Bool}(aa:Inv X au U H s)(q:Q (.aK k) H)(e:k=gz):jd X au U Q (.bool gz) s:=by
 subst e;exact⟨.aK k,H,aa,I,q⟩
def W8:ea X (hg .Eq) rb:=by
 intro au s U H x y v u Q aa bu cR h;obtain⟨hs,q⟩:=h;cases x with
 |bf =>
  cases bu;cases y with
  |bf=>cases cR;exact PySem.EqNone.eq_none_none (fD aa q (by simp))
  |aK j=>cases cR;exact PySem.EqNone.eq_none_bool (fD aa q (by simp))
  |int j=>obtain⟨t',rfl⟩:=cR;exact PySem.EqNone.eq_none_int (fD aa q (by simp))
  |str j=>obtain⟨t',rfl⟩:=cR;exact PySem.EqNone.eq_none_str (fD aa q (by simp))
  |_=>exact absurd (show aE=ah from hs) ia
 |aK i =>
  cases bu;cases y with
  |bf=>cases cR;exact PySem.EqNone.eq_bool_none (fD aa q (by simp))
  |aK j=>cases cR;exact eq_bool (fD aa q Lv)
  |str j=>obtain⟨t',rfl⟩:=cR;exact PySem.EqMixed.eq_bool_str (fD aa q (by simp))
  |_=>exact absurd (show aE=ah from hs) ia
 |int i =>
  obtain⟨t,rfl⟩:=bu;cases y with
  |bf=>cases cR;exact PySem.EqNone.eq_int_none (fD aa q (by simp))
  |int j=>obtain⟨t',rfl⟩:=cR;exact eq_int (fD aa q ye)
  |str j=>obtain⟨t',rfl⟩:=cR;exact PySem.EqMixed.eq_int_str (fD aa q (by simp))
  |_=>exact absurd (show aE=ah from hs) ia
 |str i =>
  obtain⟨t,rfl⟩:=bu;cases y with
  |bf=>cases cR;exact PySem.EqNone.eq_str_none (fD aa q (by simp))
  |aK j=>cases cR;exact PySem.EqMixed.eq_str_bool (fD aa q (by simp))
  |int j=>obtain⟨t',rfl⟩:=cR;exact PySem.EqMixed.eq_str_int (fD aa q (by simp))
  |str j=>obtain⟨t',rfl⟩:=cR;exact eq_str (fD aa q N3)
  |_=>exact absurd (show aE=ah from hs) ia
 |k8 i =>
  obtain⟨t,rfl⟩:=bu;cases y with
  |k8 j=>obtain⟨t',rfl⟩:=cR;exact PySem.W.eq_bytes (fD aa q N4)
  |_=>exact absurd (show aE=ah from hs) ia
 |_=>cases y<;>exact absurd (show aE=ah from hs) ia
def W3:ea X (hg .NotEq) Qo:=by
 intro au s U H x y v u Q aa bu cR h;obtain⟨hs,q⟩:=h;cases x with
 |bf =>
  cases bu;cases y with
  |bf=>cases cR;exact PySem.EqNone.ne_none_none (fD aa q (by simp))
  |aK j=>cases cR;exact PySem.EqNone.ne_none_bool (fD aa q (by simp))
  |int j=>obtain⟨t',rfl⟩:=cR;exact PySem.EqNone.ne_none_int (fD aa q (by simp))
  |str j=>obtain⟨t',rfl⟩:=cR;exact PySem.EqNone.ne_none_str (fD aa q (by simp))
  |_=>exact absurd (show aE=ah from hs) ia
 |aK i =>
  cases bu;cases y with
  |bf=>cases cR;exact PySem.EqNone.ne_bool_none (fD aa q (by simp))
  |aK j=>cases cR;exact ne_bool (fD aa q (congrArg not Lv))
  |str j=>obtain⟨t',rfl⟩:=cR;exact PySem.EqMixed.ne_bool_str (fD aa q (by simp))
  |_=>exact absurd (show aE=ah from hs) ia
 |int i =>
  obtain⟨t,rfl⟩:=bu;cases y with
  |bf=>cases cR;exact PySem.EqNone.ne_int_none (fD aa q (by simp))
  |int j=>obtain⟨t',rfl⟩:=cR;exact ne_int (fD aa q (congrArg not ye))
  |str j=>obtain⟨t',rfl⟩:=cR;exact PySem.EqMixed.ne_int_str (fD aa q (by simp))
  |_=>exact absurd (show aE=ah from hs) ia
 |str i =>
  obtain⟨t,rfl⟩:=bu;cases y with
  |bf=>cases cR;exact PySem.EqNone.ne_str_none (fD aa q (by simp))
  |aK j=>cases cR;exact PySem.EqMixed.ne_str_bool (fD aa q (by simp))
  |int j=>obtain⟨t',rfl⟩:=cR;exact PySem.EqMixed.ne_str_int (fD aa q (by simp))
  |str j=>obtain⟨t',rfl⟩:=cR;exact ne_str (fD aa q (congrArg not N3))
  |_=>exact absurd (show aE=ah from hs) ia
 |k8 i =>
  obtain⟨t,rfl⟩:=bu;cases y with
  |k8 j=>obtain⟨t',rfl⟩:=cR;exact PySem.W.ne_bytes (fD aa q (congrArg not N4))
  |_=>exact absurd (show aE=ah from hs) ia
 |_=>cases y<;>exact absurd (show aE=ah from hs) ia
def W4:ea X (hg .Lt) (m6 fun i j =>.aK (decide (i<j))):=Dz fun _ _ _ _ _ _ _ q=>lt_int q
def W5:ea X (hg .LtE) (m6 fun i j =>.aK (decide (i<=j))):=Dz fun _ _ _ _ _ _ _ q=>le_int q
def W6:ea X (hg .Gt) (m6 fun i j =>.aK (decide (j<i))):=Dz fun _ _ _ _ _ _ _ q=>gt_int q
def W7:ea X (hg .GtE) (m6 fun i j =>.aK (decide (j<=i))):=Dz fun _ _ _ _ _ _ _ q=>ge_int q
inductive AX(x y:V)(Q:ae->ae->Prop):Prop where
 |mk (i j:ae) (a:x=.str i) (b:y=.str j) (h:Q i j):AX x y Q
def aaT:ea X (hg .Lt) (fun x y H Q=>AX x y fun i j=>Q (.aK (decide (i.cps.toList<j.cps.toList))) H):=by
 intro au s U H x y v u Q aa bu cR h;obtain⟨i,j,rfl,rfl,q⟩:=h;obtain⟨t,rfl⟩:=bu;obtain⟨t',rfl⟩:=cR;exact lt_str (fD aa q I)
def aaV:ea X (hg .In) (fun x y H Q=>AX x y fun i j=>Q (.aK (!(de.Str.occurrences j i 0 j.length 1).isEmpty)) H):=by
 intro au s U H x y v u Q aa bu cR h;obtain⟨i,j,rfl,rfl,q⟩:=h;obtain⟨t,rfl⟩:=bu;obtain⟨t',rfl⟩:=cR;exact in_str (fD aa q I)
def B8:ea X (hg .Is) (fun x y H Q=>y=.bf/\Q (.aK (decide (x=.bf))) H):=by
 intro au s U H x y v u Q aa bu cR h;obtain⟨rfl,q⟩:=h;cases cR;refine is_none_gen (fD aa q ?_)
 cases x<;>first
  |(cases bu;rfl)
  |(obtain⟨t,rfl⟩:=bu;rfl)
def ea.or{eW:iF}(h:ea X f r)(h':ea X f eW):ea X f (fun x y H Q=>r x y H Q\/eW x y H Q):=by
 intro au s U H x y v u Q aa bu cR q;rcases q with q|q
 .exact h au s U H x y v u Q aa bu cR q
 .exact h' au s U H x y v u Q aa bu cR q
def Lq(b:cU)(h:rg (op≠.In) w7)(ar:rg (op≠.NotIn) w7):behindInMarks op b=aE:=by
 have aL:(op == CmpOp.In)=aE:=by cases op<;>first|rfl|exact absurd I h
 have aS:(op == CmpOp.NotIn)=aE:=by cases op<;>first|rfl|exact absurd I ar
 cases b<;>simp[behindInMarks,aL,aS]
def G9(aN:ea X (hg op) r)(aM:cH X a cD)(ag:cH X b dM)(hm:behindInMarks op b=aE):cH X (.Compare a [op] [b] bh) (lZ r cD dM):=by
 intro au s U H Q aa h;exact wpAny_Compare1 (Ht aM ag aa h fun v u s2 x y ao cM bu cR q=>aN au s2 U ao x y v u Q cM bu cR q) hm
inductive K8(x:V)(Q:Bool->Prop):Prop where
 |mk (k:Bool) (a:x=.aK k) (h:Q k):K8 x Q
def ri(t:TE):g0:=fun U H Q=>t U H fun x H'=>K8 x fun k=>Q k H'
def x8(aN:ea X (hg op) r)(aM:cH X a cD)(ag:cH X b dM)(hm:behindInMarks op b=aE):k4 X (.Compare a [op] [b] bh) (ri (lZ r cD dM)):=by
 intro au s U H Q aa h
 refine wpAny_isTrue_Compare1 (dt (aM au s U H _ aa h) fun v s1 ⟨x,H1,bB,cf,ck⟩=>dt (ag au s1 U H1 _ bB ck) fun u s2 ⟨y,ao,cM,d8,b1⟩ =>
  dt (aN au s2 U ao x y v u _ cM cf d8 b1) fun c i8 ⟨z,bp,j0,lq,k,e,eS⟩=>?_) hm
 subst e;cases lq;exact Ac ⟨bp,j0,eS⟩
def A2(K:bS)(x:V)(H:al)(k:Bool):Prop :=
 match x with
 |.bf=>k=aE
 |.aK b=>k=b
 |.int i=>k=(i != 0)
 |.str y=>y.length<=cg/\k=((y.length:Int) != 0)
 |.k8 y=>y.size<=cg/\k=((y.size:Int) != 0)
 |.ref p=>(∃xs,cZ K H p xs/\k=!xs.isEmpty)\/(∃xs,gf K H p xs/\k=!xs.isEmpty)\/∃fR,H p=J (.lM fR)/\k=!fR.isEmpty
 |_=>False
def aak{uM:Type}{fR:List (uM×V)}{vs:List (uM×av)}(r:EO fR vs):(!vs.isEmpty)=!fR.isEmpty:=by
 cases r<;>rfl
def Mq{xs:List V}(r:Vals xs bq):(!bq.toArray.isEmpty)=!xs.isEmpty:=by
 cases r<;>simp
def wN:(cg:Nat)<2^63:=by rw[sizeLine_eq];decide
def Le:Ua X (fun x H Q=>∃k,A2 X.K x H k/\Q k H):=by
 intro au s U H x v Q aa bu h;obtain⟨k,e,q⟩:=h;have aB:=wN;have hs:cg=16777216:=sizeLine_eq;cases x with
 |bf =>
  cases bu;have e':k=aE:=e;subst e';exact truthy_none ⟨H,aa,q⟩
 |aK b =>
  cases bu;have e':k=b:=e;subst e';exact Ac ⟨H,aa,q⟩
 |int i =>
  obtain⟨t,rfl⟩:=bu;have e':k=(i != 0):=e;subst e';exact PySem.P.truthy_int ⟨H,aa,q⟩
 |str y =>
  obtain⟨t,rfl⟩:=bu;obtain⟨aW,e'⟩:y.length<=cg/\k=((y.length:Int) != 0):=e;subst e';exact PySem.P.truthy_str (by lia) ⟨H,aa.tok _,q⟩
 |k8 y =>
  obtain⟨t,rfl⟩:=bu;obtain⟨aW,e'⟩:y.size<=cg/\k=((y.size:Int) != 0):=e;subst e';exact PySem.W.truthy_bytes (by lia) ⟨H,aa.tok _,q⟩
 | ref p =>
  cases bu;have e':(∃xs,cZ X.K H p xs/\k=!xs.isEmpty)\/(∃xs,gf X.K H p xs/\k=!xs.isEmpty)\/∃fR,H p=J (.lM fR)/\k=!fR.isEmpty:=e;rcases e' with⟨xs,aq,e'⟩|⟨xs,aq,e'⟩|⟨fR,aq,e'⟩
  ·subst e';obtain⟨bq,r,pl,bV⟩:=aa.list aq;have c1:=r.length;exact wpAny_truthy_list pl.isList (by simp only[eU];lia) ⟨H,aa.tok _,by rw[Mq r];exact q⟩
  ·subst e';obtain⟨bq,r,pl,bV⟩:=aa.tuple aq;have c1:=r.length;exact truthy_tuple pl (by simp only[eU];lia) ⟨H,aa.tok _,by rw[Mq r];exact q⟩
  ·subst e';obtain⟨bV,df,vs,r,m⟩:fR.length<=cg/\(p == sysModules)=aE/\∃vs,EO fR vs/\s.heap.DictOf (PZ X.prog X.w) p vs:=aa.aP p _ aq;have c1:fR.length=vs.length:=Paired.length r;exact wpAny_truthy_dict df m (by lia) ⟨H,aa.tok _,by rw[aak r];exact q⟩
 |_=>exact(show False from e).elim
def UD(aM:cH X a cD)(he:∀whole,isTrue a X.env whole=(do let v <-whole;standAt a.pos;holding [v] (truthy v))):
  k4 X a (fun U H Q=>cD U H fun x H'=>∃k,A2 X.K x H' k/\Q k H'):=by
 intro au s U H Q aa h;refine isTrue_plain (dt (aM au s U H _ aa h) fun v s1 cb=>?_) (he _);obtain⟨x,H1,bB,cf,ck⟩:=cb;exact Le au s1 U H1 x v Q bB cf ck
inductive K1(x y:V)(Q:ae->ae->Prop):Prop where
 |mk (i j:ae) (a:x=.str i) (b:y=.str j) (c:i.length+j.length<=cg) (h:Q i j):K1 x y Q
def Z7:ea X (lz .Add) (fun x y H Q=>K1 x y fun i j=>Q (.str (i++j)) H):=by
 intro au s U H x y v u Q aa bu cR h;obtain⟨i,j,rfl,rfl,bV,q⟩:=h;obtain⟨t,rfl⟩:=bu;obtain⟨t',rfl⟩:=cR;exact add_str (fun t' dQ=>⟨.str (i++j),H,aa.tok _,⟨_,I⟩,q⟩) bV
def vals1{x:V}(r:Vals [x] us):∃u,us=[u]/\RelV x u:=by
 cases r with
 |cons cf d8=>cases d8;exact⟨_,I,cf⟩
def vals2{x:V}(r:Vals [x,y] us):∃u hW,us=[u,hW]/\RelV x u/\RelV y hW:=by
 cases r with
 |cons cf d8 =>
  cases d8 with
  |cons lq Jx=>cases Jx;exact⟨_,_,I,cf,lq⟩
def Va:jG X (.builtin "abs") (fun xs H Q=>∃i,xs=[.int i]/\Q (.int (if i<0 then -i else i)) H):=by
 intro au s U H xs us Q aa r h;obtain⟨i,rfl,q⟩:=h;obtain⟨u,rfl,t,rfl⟩:=vals1 r;exact call_abs_int fun u dQ=>⟨.int (if i<0 then -i else i),H,aa.tok _,⟨_,rfl⟩,q⟩
def Ue(hc:X.calm=ah):jG X (.builtin "max") (fun xs H Q=>∃i j,xs=[.int i,.int j]/\Q (.int (if j > i then j else i)) H):=by
 intro au s U H xs us Q aa r h;obtain⟨i,j,rfl,q⟩:=h;obtain⟨u,hW,rfl,⟨t,rfl⟩,⟨t',rfl⟩⟩:=vals2 r;refine max_two_ints (aa.ok.hd hc) fun h' dQ k=>⟨_,H,aa.kept k,?_,q⟩;by_cases b0:j > i
 .rw[if_pos b0,if_pos b0];exact⟨_,I⟩
 .rw[if_neg b0,if_neg b0];exact⟨_,I⟩
def xY(hc:X.calm=ah):jG X (.builtin "min") (fun xs H Q=>∃i j,xs=[.int i,.int j]/\Q (.int (if j<i then j else i)) H):=by
 intro au s U H xs us Q aa r h;obtain⟨i,j,rfl,q⟩:=h;obtain⟨u,hW,rfl,⟨t,rfl⟩,⟨t',rfl⟩⟩:=vals2 r;refine min_two_ints (aa.ok.hd hc) fun h' dQ k=>⟨_,H,aa.kept k,?_,q⟩;by_cases b0:j<i
 .rw[if_pos b0,if_pos b0];exact⟨_,I⟩
 .rw[if_neg b0,if_neg b0];exact⟨_,I⟩
def Ug:jG X (.type "int") (fun xs H Q=>(∃i,xs=[.int i]/\Q (.int i) H)\/∃k,xs=[.aK k]/\Q (.int (if k then 1 else 0)) H):=by
 intro au s U H xs us Q aa r h;rcases h with⟨i,rfl,q⟩|⟨k,rfl,q⟩
 ·obtain⟨u,rfl,t,rfl⟩:=vals1 r;exact call_int_int ⟨.int i,H,aa,⟨_,I⟩,q⟩
 ·obtain⟨u,rfl,cf⟩:=vals1 r;cases cf;exact call_int_bool ⟨.int (if k then 1 else 0),H,aa.tok _,⟨_,rfl⟩,q⟩
def KQ(K:bS)(x:V)(H:al)(n:Nat):Prop :=
 match x with
 |.str y=>y.length<=cg/\n=y.length
 |.k8 y=>y.size<=cg/\n=y.size
 |.ref p=>(∃xs,cZ K H p xs/\n=xs.length)\/∃xs,gf K H p xs/\n=xs.length
 |_=>False
inductive KP(K:bS)(xs:List V)(H:al)(Q:Nat->Prop):Prop where
 |mk (x:V) (n:Nat) (a:xs=[x]) (b:KQ K x H n) (h:Q n):KP K xs H Q
def dx:jG X (.builtin "len") (fun xs H Q=>KP X.K xs H fun n=>Q (.int n) H):=by
 intro au s U H xs us Q aa r h;obtain⟨x,n,rfl,e,q⟩:=h;obtain⟨u,rfl,bu⟩:=vals1 r;have aB:=wN;have hs:cg=16777216:=sizeLine_eq;cases x with
 |str y =>
  obtain⟨t,rfl⟩:=bu;obtain⟨aW,e'⟩:y.length<=cg/\n=y.length:=e;subst e';exact len_str (by lia) ⟨.int _,H,aa.tok _,⟨_,I⟩,q⟩
 |k8 y =>
  obtain⟨t,rfl⟩:=bu;obtain⟨aW,e'⟩:y.size<=cg/\n=y.size:=e;subst e';exact PySem.W.len_bytes (by lia) ⟨.int _,H,aa.tok _,⟨_,I⟩,q⟩
 | ref p =>
  cases bu;have e':(∃xs,cZ X.K H p xs/\n=xs.length)\/∃xs,gf X.K H p xs/\n=xs.length:=e;rcases e' with⟨xs,aq,e'⟩|⟨xs,aq,e'⟩
  ·subst e';obtain⟨bq,eW,pl,bV⟩:=aa.list aq;have c1:=eW.length;exact Calls.call_len_list pl.isList (by simp only[eU];lia) ⟨.int xs.length,H,aa.tok _,⟨_,by simp only[eU];rw[c1]⟩,q⟩
  ·subst e';obtain⟨bq,eW,pl,bV⟩:=aa.tuple aq;have c1:=eW.length;exact len_tuple pl (by simp only[eU];lia) ⟨.int xs.length,H,aa.tok _,⟨_,by simp only[eU];rw[c1]⟩,q⟩
 |_=>exact(show False from e).elim
end
structure s7(h:bG)(x ak C:af)(fI:ae->Option av):Prop where
 obj:h.get? x=J (nd C ak)
 ns:h.Ns1 ak fI
 ne:ak≠x
set_option tactic.hygienic true in
def aa3{ak:af}(n:h.Ns1 ak fI):∃gA,h.get? ak=J gA/\∀name,Kv name gA=J (fI name):=by
 obtain⟨o,aZ,gh,aN,hd,hk,_,hm⟩:=n;refine⟨o,aN,fun name=>?_⟩;have e:=hm name;unfold nsFind findBy at e;rw[<-Array.find?_toList]at e;unfold Kv;rw[hd];dsimp only;split
 ·rename_i y q;rw[q]at e;exact congrArg J e
 ·rename_i q;rw[q]at e
  have a:aZ.toList.any (·.refKey)=aE:=by
   rw[List.any_eq_false];intro y aW;obtain⟨z,t,ad0⟩:=hk y (Array.mem_toList_iff.mp aW);simp[DictEntry.refKey,ad0]
  have abq:¬aZ.toList.any (·.refKey)=ah:=by rw[a];exact ia
  rw[if_neg abq];exact congrArg J e
def s7.look{x ak:af}(aa:s7 h x ak C fI):∃gA,PySem.W.InstAt h x (nd C ak) C (J gA)/\∀name,Kv name gA=J (fI name) :=
 let ⟨gA,aN,aB⟩:=aa3 aa.ns
 ⟨gA,⟨aa.obj,rfl,rfl,aN⟩,aB⟩
section
variable {prog:dI} {w:dc} {A:dU} {E:av->aR->Prop} {s:aR} {K:bS} {x ak C f:af} {fI:ae->Option av} {name:ae} {v:av}
def get_map{expr:Bool}{Q:av->aR->Prop}(X:K.In s.heap)(aa:s7 s.heap x ak C fI)(bb:D7 K C name=ah)(gG:Kr K C=ah)
  (aM:gB K (.ref C) name=J ax) (bR:fI name=J v) (tW:PySem.W.handedIn v=ah) (h:Q v {s with toks:=s.toks+1}) :
  b4 (model prog w) A (getAttr (.ref x) name expr) Q E s:=by
 obtain⟨gA,bF,aB⟩:=aa.look;exact PySem.W.get_value X bF (PySem.W.plainGet_of bb).1 (PySem.W.findObj_own gG aM I (by rw[aB,bR])) tW h
def UQ{pl:Sem Bool}{Q:av×List av->aR->Prop}(X:K.In s.heap)(aa:s7 s.heap x ak C fI)(bb:D7 K C name=ah)
  (aA:gB K (.ref C) name=J (J (.ref f))) (bc:Ks K (.ref f)=ah) (bR:fI name=ax) (h:Q (.ref f,[.ref x]) s) :
  b4 (model prog w) A (getMethod (.ref x) name pl) Q E s:=by
 obtain⟨gA,bF,aB⟩:=aa.look;exact PySem.W.method_fn X bF (PySem.W.plainGet_of bb).1 (PySem.W.plainGet_of bb).2 aA (beq_iff_eq.mp bc) (by show(Kv name gA).map (·.isSome)=J aE;rw[aB,bR];rfl) h
def Vv(X:K.In s.heap)(aa:s7 s.heap x ak C fI)
  (hs:gB K (.ref C) "__setattr__"=J (J (.builtin "object.__setattr__"))) (aU:PySem.W.plainOver K C=ah) (bc:PySem.W.takerIn K C name=J ax) (gG:Kr K C=ah)
  (hw:PySem.Within fI ns) (g9:ns.length<=cg)
  (h:∀h',s7 h' x ak C (fun y=>if y=name then J v else fI y)->bG.SameBut ak s.heap h'->Q () {s with heap:=h',toks:=s.toks+2}) :
  b4 (model prog w) A (setAttr (.ref x) name v) Q E s:=by
 obtain⟨gA,bF,aB⟩:=aa.look;refine PySem.W.set_plain X bF hs (PySem.W.osa_open (s:={s with toks:=s.toks+1}) (r:=ax) X bF aU bc fun b=>?_);obtain⟨e3,hc,oZ⟩:=PySem.W.any_some gG;have aq:s.heap.get? x=J ⟨.ref C,J ak,.plain,#[]⟩:=aa.obj;refine cq (fq (cq (cq (wpAny_loadPart aq (cq (PySem.W.Looks.here (s:={s with toks:=s.toks+1}) (PySem.W.looks_clsIn X hc) ?_))))));rw[oZ];refine fq (a:=J ak) (cq (fq (cq ?_)));refine wpAny_nsSet1 (s:={s with toks:=s.toks+1}) aa.ns fun h' mX ff=>?_;obtain⟨alY,ak3,ak2,aeb,adA,adx⟩:=mX.count (PySem.Within.cons name v hw);refine cq (wpAny_lookBehind aeb (by rw[adA];exact pastItsLine_dict (dF adx (by rw[eb];lia))) ?_);exact fq (h _ ⟨(ff.2 _ (ei aa.ne)).trans aa.obj,mX,aa.ne⟩ ff)
def UN{R:Result->aR->Prop}{vs:List av}(X:K.In s.heap)(hm:Ab K C=ah)
  (aF:gB K (.ref C) "__init__"=J (J (.ref f))) (aA:PySem.W.typeIn K (.ref f)=J (.type "function"))
  (h:oe (model prog w) (A.under (.builtin "type.__call__" ⟨.ref C::vs,kw⟩)) (.call (.ref f) ⟨.ref (s.heap.objs.size+1)::vs,kw⟩) (PySem.W.InitBack (s.heap.objs.size+1) R)
   {s with heap:=(s.heap.push nc).push (nd C s.heap.objs.size)}) :
  oe (model prog w) A (.call (.ref C) ⟨vs,kw⟩) R s:=by
 obtain⟨gG,g,d,t,os⟩:=s;exact PySem.W.make_core (PySem.W.makes_of X hm) (PySem.W.looks_findIn X aF) (fun self=>PySem.W.bind_fn X self aA) (.inl I) h
def aa2{R:Result->aR->Prop}(X:K.In s.heap)(hm:Ab K C=ah)
  (aF:gB K (.ref C) "__init__"=J (J (.builtin "object.__init__")))
  (ag:∀self,PySem.W.Looks (model prog w) s.heap (bindSpecial (.builtin "object.__init__") self) (.builtin "object.__init__",[self]))
  (h:oe (model prog w) (A.under (.builtin "type.__call__" ⟨[.ref C],[]⟩)) (.call (.builtin "object.__init__") ⟨[.ref (s.heap.objs.size+1)],[]⟩) (PySem.W.InitBack (s.heap.objs.size+1) R)
   {s with heap:=(s.heap.push nc).push (nd C s.heap.objs.size)}) :
  oe (model prog w) A (.call (.ref C) ⟨[],[]⟩) R s:=by
 obtain⟨gG,g,d,t,os⟩:=s;exact PySem.W.make_core (PySem.W.makes_of X hm) (PySem.W.looks_findIn X aF) ag (.inr ⟨I,I⟩) h
end
noncomputable def fg(f:ae)(v:V):List (ae×V)->List (ae×V)
 |[]=>[(f,v)]
 |(g,x)::r=>if g=f then(g,v)::r else(g,x)::fg f v r
theorem Mf(f g:ae)(v:V):∀fs:List (ae×V),(fg f v fs).lookup g=if g=f then J v else fs.lookup g
 | []=>by
  show List.lookup g [(f,v)]=_;by_cases h:g=f
  ·have ag:(g == f)=ah:=beq_iff_eq.mpr h;simp only[List.lookup,ag,if_pos h]
  ·have ag:(g == f)=aE:=beq_eq_false_iff_ne.mpr h;simp only[List.lookup,ag,if_neg h]
 | (k,x)::r=>by
  have bK:=Mf f g v r;rw[show fg f v ((k,x)::r)=(if k=f then(k,v)::r else(k,x)::fg f v r)from rfl];by_cases hk:k=f
  ·rw[if_pos hk];by_cases h:g=k
   ·have ag:(g == k)=ah:=beq_iff_eq.mpr h;simp only[List.lookup,ag,if_pos (h.trans hk)]
   ·have ag:(g == k)=aE:=beq_eq_false_iff_ne.mpr h;simp only[List.lookup,ag,if_neg (fun e:g=f=>h (e.trans hk.symm))]
  ·rw[if_neg hk];by_cases h:g=k
   ·have ag:(g == k)=ah:=beq_iff_eq.mpr h;simp only[List.lookup,ag,if_neg (fun e:g=f=>hk (h.symm.trans e))]
   ·have ag:(g == k)=aE:=beq_eq_false_iff_ne.mpr h;simp only[List.lookup,ag];exact bK
theorem GI(f:ae)(v:V):∀fs:List (ae×V),f∈(fg f v fs).map (·.1)/\∀g,g∈fs.map (·.1)->g∈(fg f v fs).map (·.1)
 |[]=>⟨by simp[fg],fun g h=>by simp at h⟩
 | (k,x)::r=>by
  obtain⟨dC,cW⟩:=GI f v r;rw[show fg f v ((k,x)::r)=(if k=f then(k,v)::r else(k,x)::fg f v r)from rfl];by_cases hk:k=f
  ·rw[if_pos hk];subst hk;exact⟨by simp,fun g h=>by simpa using h⟩
  ·rw[if_neg hk];refine⟨?_,fun g h=>?_⟩
   ·rw[fB];exact dw _ dC
   ·rw[fB]at h ⊢;rcases dd.mp h with e|e
    .exact dd.mpr (.inl e)
    .exact dw _ (cW g e)
theorem Mh(f:ae)(v:V):∀fs:List (ae×V),(fg f v fs).length<=fs.length+1
 |[]=>by simp[fg]
 |(k,x)::r=>by
  have bK:=Mh f v r;rw[show fg f v ((k,x)::r)=(if k=f then(k,v)::r else(k,x)::fg f v r)from rfl];by_cases hk:k=f
  .rw[if_pos hk,eb,eb];lia
  .rw[if_neg hk,eb,eb];lia
def pN.ajc{v:V}{o:Option av}(r:pN (J v) o):∃u,o=J u/\RelV v u:=by
 cases o with
 |none=>exact(show False from r).elim
 |some u=>exact⟨u,I,r⟩
def pN.none_of{o:Option av}(r:pN ax o):o=ax:=by
 cases o with
 |none=>rfl
 |some u=>exact(show False from r).elim
def aba{v:V}(r:RelV v u):PySem.W.handedIn u=ah:=by
 cases v with
 |bf=>cases(show u=av.none from r);rfl
 |aK b=>cases(show u=av.bool b from r);rfl
 |int i=>obtain⟨t,e⟩:=(show ∃t,u=av.int i t from r);cases e;rfl
 |str x=>obtain⟨t,e⟩:=(show ∃t,u=av.str x t from r);cases e;rfl
 |k8 b=>obtain⟨t,e⟩:=(show ∃t,u=av.bytes b t from r);cases e;rfl
 |rT b=>obtain⟨t,e⟩:=(show ∃t,u=av.float b t from r);cases e;rfl
 |ref a=>cases(show u=av.ref a from r);rfl
 |ty n=>cases(show u=av.type n from r);rfl
section
variable {P:dI} {w:dc} {H H':al} {h h':bG} {a C ak:af} {fs oT:List (ae×V)}
def yc(aP:gd P w H h)(e:H a=J (.ins C ak fs)):∃fI,s7 h a ak C fI/\(∀f,pN (fs.lookup f) (fI f))/\PySem.Within fI (fs.map (·.1))/\fs.length<=1000/\H ak=J (.own a):=by
 obtain⟨d,z,ne,eh,fI,n,r,q⟩:=(show hM P w H h a (.ins C ak fs)from aP a _ e);exact⟨fI,⟨eh,n,ne⟩,r,q,z,d⟩
end
structure fT(K:bS)(C:af):Prop where
 agz:D7 K C ae.empty=ah
 hd:Kr K C=ah
 po:PySem.W.plainOver K C=ah
 ai1:gB K (.ref C) "__setattr__"=J (J (.builtin "object.__setattr__"))
def fT.get(c:fT K C)(f:ae):D7 K C f=ah:=c.agz
def jL(K:bS)(C:af)(f:ae):Prop:=gB K (.ref C) f=J ax
def jL.ajT{f:ae}(n:jL K C f):PySem.W.takerIn K C f=J ax:=by
 unfold PySem.W.takerIn;rw[show gB K (.ref C) f=J ax from n];rfl
structure vo(K:bS)(C:af)(m:ae)(f:af):Prop where
 at_:gB K (.ref C) m=J (J (.ref f))
 fn:Ks K (.ref f)=ah
 mw:qk K (.ref f)=ah
section
variable {X:bQ} {au:List (af×bZ)} {U:St} {H:al} {s:aR} {a C ak:af} {fs:List (ae×V)} {f:ae} {v:V} {A:dU} {E:av->aR->Prop}
def aan{b:Bool}{Q:av->aR->Prop}(aa:Inv X au U H s)(e:H a=J (.ins C ak fs))(c:fT X.K C)(n:jL X.K C f)(l:fs.lookup f=J v)
  (h:∀u br,Inv X au U H br->RelV v u->Q u br):b4 (model X.prog X.w) A (getAttr (.ref a) f b) Q E s:=by
 obtain⟨fI,O,r,_,_,_⟩:=yc aa.aP e;obtain⟨u,cz,e1⟩:=pN.ajc (v:=v) (o:=fI f) (by rw[<-l];exact r f);exact get_map aa.f3 O (c.get f) c.hd n cz (aba e1) (h u _ (aa.tok _) e1)
def Gq{m:ae}{g:af}{pl:Sem Bool}{Q:av×List av->aR->Prop}(aa:Inv X au U H s)(e:H a=J (.ins C ak fs))(c:fT X.K C)(k:vo X.K C m g)(l:fs.lookup m=ax)
  (h:Q (.ref g,[.ref a]) s):b4 (model X.prog X.w) A (getMethod (.ref a) m pl) Q E s:=by
 obtain⟨fI,O,r,_,_,_⟩:=yc aa.aP e;have aV:fI m=ax:=pN.none_of (by rw[<-l];exact r m);exact UQ aa.f3 O (c.get m) k.at_ k.fn aV h
def Z0(aa:Inv X au U H s)(e:H a=J (.ins C ak fs))(c:fT X.K C)(n:jL X.K C f)(aB:fs.length<1000)(cR:RelV y u)
  (h:∀br,Inv X au U (upd H a (.ins C ak (fg f y fs))) br->Q () br):b4 (model X.prog X.w) A (setAttr (.ref a) f u) Q E s:=by
 obtain⟨fI,O,r,ja,_,aN⟩:=yc aa.aP e;have bV:(fs.map (·.1)).length<=cg:=by rw[cA,sizeLine_eq];lia
 refine Vv aa.f3 O c.ai1 c.po n.ajT c.hd ja bV fun h' EW mx=>h _ ?_;have hd:∃o,h'.get? ak=J o:=let ⟨o,_,_,e',_⟩:=EW.ns;⟨o,e'⟩;refine aa.write (x:=a) (e:=ak) (by rw[e];exact True.intro) (.inr aN) (fun b q ag z=>(mx.2 b ag).trans z) hd ?_;refine⟨by rw[bC O.ne];exact aN,?_,O.ne,EW.obj,_,EW.ns,fun g=>?_,fun g bb=>?_⟩
 .have:=Mh f y fs;lia
 ·show pN ((fg f y fs).lookup g) (if g=f then J u else fI g);rw[Mf];by_cases q:g=f
  .rw[if_pos q,if_pos q];exact cR
  .rw[if_neg q,if_neg q];exact r g
 ·by_cases q:g=f
  .rw[q];exact(GI f y fs).1
  ·refine(GI f y fs).2 g (ja g fun z=>bb ?_);show(if g=f then J u else fI g)=ax;rw[if_neg q];exact z
def Inv.made(aa:Inv X au U H s):Inv X au U (upd (upd H s.heap.objs.size (.own (s.heap.objs.size+1))) (s.heap.objs.size+1) (.ins C s.heap.objs.size []))
  {s with heap:=(s.heap.push nc).push (nd C s.heap.objs.size)}:=by
 have aL:(s.heap.push nc).get? s.heap.objs.size=J nc:=hA s.heap rfl
 have aS:((s.heap.push nc).push (nd C s.heap.objs.size)).get? (s.heap.objs.size+1)=J (nd C s.heap.objs.size):=by
  have:=hA (s.heap.push nc) (o:=nd C s.heap.objs.size) rfl;rwa [bG.size_push]at this
 have gw:(s.heap.push nc).Ns s.heap.objs.size (fun _=>ax):=⟨nc,#[],_,aL,rfl,(fun e he=>absurd he (by simp)),fun _=>rfl⟩;have bB:=aa.laid (a:=s.heap.objs.size) (o :=.own (s.heap.objs.size+1)) (h':=s.heap.push nc) (t':=s.toks) (fun b u q=>fV _ q) (cp _) ⟨_,aL⟩;refine bB.laid (a:=s.heap.objs.size+1) (o :=.ins C s.heap.objs.size []) (t':=s.toks) (fun b u q=>fV _ q) (Nat.le_of_eq (bG.size_push _ _)) ?_;have ne:s.heap.objs.size≠s.heap.objs.size+1:=hl (Nat.lt_succ_self _);refine⟨by rw[bC ne,aG],UF _,ne,aS,fun _=>ax,(bG.Ns1.of_empty gw).at fun o q=>fV _ q,fun _=>True.intro,fun y aW=>absurd rfl aW⟩
def Wh{f:ae}{s:aR}{Q:av->aR->Prop}(ag:attributeBase e f env (eval e env)=eval e env)
  (h:b4 (model prog w) A (eval e env) (fun o eu=>b4 (model prog w) A (getAttr o f ah) Q E eu) E s):b4 (model prog w) A (eval (.Attribute e f bh) env) Q E s :=
 Attribute_any_ h (by rw[arm_eval_Attribute,ag])
end
inductive KG(K:bS)(f:ae)(x:V)(H:al)(Q:V->Prop):Prop where
 |mk (a C ak:af) (fs:List (ae×V)) (v:V) (e:x=.ref a) (h:H a=J (.ins C ak fs)) (c:fT K C) (n:jL K C f) (l:fs.lookup f=J v) (q:Q v):KG K f x H Q
def ajs(K:bS)(cD:TE)(f:ae):TE:=fun U H Q=>cD U H fun x H1=>KG K f x H1 fun v=>Q v H1
def ai0(K:bS)(cD xf:TE)(f:ae):fb:=fun D U H=>xf U H fun y H1=>cD U H1 fun x ao=>∃a C ak fs,x=.ref a/\ao a=J (.ins C ak fs)/\fT K C/\jL K C f/\fs.length<1000/\
 D.nx U (upd ao a (.ins C ak (fg f y fs)))
section
variable {X:bQ} {o e value:cU} {f:ae} {bh pos' sI:Pos} {cD xf:TE}
def d6(he:cH X e cD)(ag:attributeBase e f X.env (eval e X.env)=eval e X.env):cH X (.Attribute e f bh) (ajs X.K cD f):=by
 intro au s U H Q aa h;refine Wh ag (dt (he au s U H _ aa h) fun u s1 cb=>?_);obtain⟨x,H1,bB,bu,a,C,ak,fs,v,ex,cL,c,n,l,q⟩:=cb;subst ex;obtain rfl:u=av.ref a:=bu;exact aan bB cL c n l fun u' s2 cM e1=>⟨v,H1,cM,e1,q⟩
def i1(aM:cH X o cD)(bR:cH X value xf)(hs:swapsWith value (J (.Attribute o f pos')) bh.line X.env=pure aE):k3 X (.Assign [.Attribute o f pos'] value bh) (ai0 X.K cD xf f):=by
 intro au s U H D aa h;refine plainObj_wpAny_Assign_Attribute (dt (bR au s U H _ aa h) fun u s1 ⟨y,H1,bB,cR,q⟩=>dt (aM au s1 U H1 _ bB q) fun lp s2 cb=>?_) hs;obtain⟨x,ao,cM,bu,a,C,ak,fs,ex,cL,c,n,l,b1⟩:=cb;subst ex;obtain rfl:lp=av.ref a:=bu;exact Z0 cM cL c n l cR fun i8 j0=>⟨U,_,j0,b1⟩
end
section
variable {X:bQ} {au:List (af×bZ)} {U:St} {H:al} {s:aR} {A:dU} {E:av->aR->Prop} {Q:av->aR->Prop} {c:av} {b:Bool}
inductive kI (K:bS) (H:al):V->av->Prop where
 |bf:kI K H .bf (.type "NoneType")
 |aK (x:Bool):kI K H (.aK x) (.type "bool")
 |int (i:Int):kI K H (.int i) (.type "int")
 |str (x:ae):kI K H (.str x) (.type "str")
 |rT (x:UInt64):kI K H (.rT x) (.type "float")
 |lst {a:af} {xs:List V} (e:H a=J (.lst xs)):kI K H (.ref a) (.type "list")
 |iM {a:af} {o:bZ} {xs:List V} (e:H a=J (.iM o (.lst xs))):kI K H (.ref a) (.type "list")
 |tup {a:af} {xs:List V} (e:H a=J (.tup xs)):kI K H (.ref a) (.type "tuple")
 |lM {a:af} {fR:List (Key×V)} (e:H a=J (.lM fR)):kI K H (.ref a) (.type "dict")
 |oP {a:af} {fR:List (List Key×V)} (e:H a=J (.oP fR)):kI K H (.ref a) (.type "dict")
 | ins {a C ak:af} {fs:List (ae×V)} (e:H a=J (.ins C ak fs)) (cl:fT K C) (aM:gB K (.ref C) "__class__"=J (J (.builtin "object.__class__")))
   (aV:PySem.W.specialIn K (.builtin "object.__class__") "__get__"=J (J (.builtin "getset_descriptor.__get__"))) (m3:PySem.W.takesIn K (.builtin "object.__class__")=J ah)
   (hm:PySem.W.mroIn K C (.type "object")=J ah):kI K H (.ref a) (.ref C)
def MK{x:V}{t:av}(aa:Inv X au U H s)(bu:RelV x u)(ty:kI X.K H x t)(e:pF X.K t c=J b)(h:∀dQ,Q (.bool b) {s with toks:=dQ}):
  b4 (model X.prog X.w) A (call (.builtin "isinstance") [u,c]) Q E s:=by
 cases ty with
 |bf=>cases(show u=av.none from bu);exact rq PySem.W.kitx_none aa.f3 True.intro e (fun z=>nomatch z) h
 |aK y=>cases(show u=av.bool y from bu);exact rq PySem.W.kitx_bool aa.f3 True.intro e (fun z=>nomatch z) h
 |int i=>obtain⟨t,q⟩:=(show ∃t,u=av.int i t from bu);cases q;exact rq PySem.W.kitx_int aa.f3 True.intro e (fun z=>nomatch z) h
 |str y=>obtain⟨t,q⟩:=(show ∃t,u=av.str y t from bu);cases q;exact rq PySem.W.kitx_str aa.f3 True.intro e (fun z=>nomatch z) h
 |rT y=>obtain⟨t,q⟩:=(show ∃t,u=av.float y t from bu);cases q;exact rq PySem.W.kitx_float aa.f3 True.intro e (fun z=>nomatch z) h
 | @lst a xs cL =>
  cases(show u=av.ref a from bu);obtain⟨_,_,n,_,ai⟩:=(show hM X.prog X.w H s.heap a (.lst xs)from aa.aP a _ cL);exact rq Ku aa.f3 ⟨_,ai,I⟩ e (fun z=>nomatch z) h
 | @iM a eh xs cL =>
  cases(show u=av.ref a from bu);obtain⟨_,_,_,n,_,ai⟩:=(show hM X.prog X.w H s.heap a (.iM eh (.lst xs))from aa.aP a _ cL);exact rq Ku aa.f3 ⟨_,ai,I⟩ e (fun z=>nomatch z) h
 | @tup a xs cL =>
  cases(show u=av.ref a from bu);obtain⟨_,_,_,p⟩:=(show hM X.prog X.w H s.heap a (.tup xs)from aa.aP a _ cL);obtain⟨o,ai,ar,_⟩:=p;exact rq PySem.W.kitx_tuple aa.f3 ⟨o,ai,ar⟩ e (fun z=>nomatch z) h
 | @lM a fR cL =>
  cases(show u=av.ref a from bu);obtain⟨_,_,vs,_,p⟩:=(show hM X.prog X.w H s.heap a (.lM fR)from aa.aP a _ cL);obtain⟨o,aZ,gh,ai,ar,_⟩:=p;exact rq PySem.W.kitx_dict aa.f3 ⟨o,ai,ar.1⟩ e (fun z=>nomatch z) h
 | @oP a fR cL=>exact(show False from aa.aP a _ cL).elim
 | @ins a C ak fs cL cl aM aV m3 hm =>
  cases(show u=av.ref a from bu);obtain⟨fI,O,_⟩:=yc aa.aP cL;obtain⟨gA,bF,_⟩:=O.look;exact rq (PySem.W.kitx_own (cl.get _) cl.hd aM aV m3 hm) aa.f3 bF e (fun z=>nomatch z) h
end
structure gT(k:Nat)(A:dU):Prop where
 hd:A.handled=ax
 mf:A.depth+3*k+5<recursionLimit
 un:A.units+16*k+200<cLine
def gT.mono(r:gT k A)(h:j<=k):gT j A:=⟨r.hd,by have:=r.mf;lia,by have:=r.un;lia⟩
theorem gT.deeper(r:gT (k+1) A)(env:Env):gT k (A.deeper env) :=
 ⟨r.hd,by have:=r.mf;show A.depth+1+3*k+5<_;lia,by have:=r.un;show A.units+3+16*k+200<_;lia⟩
def aae:(A.under (.builtin "type.__call__" ⟨.ref C::us,kw⟩)).depth=A.depth+1:=by
 first|rfl|simp[dU.under,Code.weight,Code.isCreation,Code.isGuard,Code.isCaller,Code.frames,Code.isFrame,guardIds]
def aad:(A.under (.builtin "type.__call__" ⟨.ref C::us,kw⟩)).units=A.units+1:=by
 first|rfl|simp[dU.under,Code.cUnits,Code.frames,Code.isFrame]
def gT.make(r:gT (k+1) A)(C:af)(us:List av)(kw:List (ae×av)):gT k (A.under (.builtin "type.__call__" ⟨.ref C::us,kw⟩)) :=
 ⟨r.hd,by have:=r.mf;rw[aae];lia,by have:=r.un;rw[aad];lia⟩
theorem gT.depth(r:gT k A):A.depth<recursionLimit:=by have:=r.mf;lia
def DT:hz:=fun _ H Q=>Q [] H
def Sn(cD:TE)(aka:hz):hz:=fun U H Q=>cD U H fun x H1=>aka U H1 fun xs ao=>Q (x::xs) ao
section
variable {X:bQ} {e:cU} {aZ:List cU} {cJ:TE} {t:hz} {bh:Pos}
def az:iD X [] DT:=fun _ _ _ _ H Q aa h=>Calls.spliced_nil ⟨[],H,aa,.nil,h⟩
def aj(aM:cH X e cJ)(aw:iD X aZ t)(hs:rg (en (e::aZ) X.env=(aE,eval e X.env)::en aZ X.env) w8):iD X (e::aZ) (Sn cJ t):=by
 intro bh au s U H Q aa h;rw[hs];show b4 _ _ (spliced ((aE,eval e X.env)::backTo bh (en aZ X.env))) _ _ s;refine Calls.spliced_cons (dt (aM au s U H _ aa h) fun u s1 cb=>?_);obtain⟨x,H1,bB,cf,ck⟩:=cb;refine dt (aw bh au s1 U H1 _ bB ck) fun us s2 cb=>?_;obtain⟨xs,ao,cM,d8,b1⟩:=cb;exact ⟨x::xs,ao,cM,.cons cf d8,b1⟩
def ajF(t:hz):TE:=fun U H Q=>t U H fun xs H1=>xs.length<=cg/\∀p,H1 p=ax->Q (.ref p) (upd H1 p (.tup xs))
def ajw(t:hz):TE:=fun U H Q=>t U H fun xs H1=>xs.length<=cg/\∀p,H1 p=ax->Q (.ref p) (upd H1 p (.lst xs))
def jm{kE}(h:iD X aZ t):cH X (.Tuple aZ kE bh) (ajF t):=by
 intro au s U H Q aa bo;refine wpAny_Tuple_spliced (dt (h bh au s U H _ aa bo) fun us s1 cb=>?_);obtain⟨xs,H1,bB,r,z,q⟩:=cb;refine ⟨by rw[<-r.length];exact z,?_⟩;have aA:H1 s1.heap.objs.size=ax:=bB.aP.fresh (cp _);refine⟨.ref s1.heap.objs.size,upd H1 s1.heap.objs.size (.tup xs),bB.laid (t':=s1.toks) (fun b u e=>fV _ e) (cp _) ?_,I,q _ aA⟩;exact⟨z,us,r,⟨_,hA _ I,I,_,I⟩⟩
def hB(h:iD X aZ t):cH X (.List aZ bh) (ajw t):=by
 intro au s U H Q aa bo;refine wpAny_List_spliced (dt (h bh au s U H _ aa bo) fun us s1 cb=>?_);obtain⟨xs,H1,bB,r,z,q⟩:=cb;refine ⟨by rw[<-r.length];exact z,?_⟩;have aA:H1 s1.heap.objs.size=ax:=bB.aP.fresh (cp _);refine⟨.ref s1.heap.objs.size,upd H1 s1.heap.objs.size (.lst xs),bB.laid (t':=s1.toks) (fun b u e=>fV _ e) (cp _) ?_,I,q _ aA⟩;exact⟨z,us,0,r,hA _ I⟩
end
noncomputable abbrev cv:=List V->al->bI->cB->Prop
noncomputable abbrev mA:=List Env->al->aR->cB->av->aR->Prop
structure sV(P:dI)(w:dc)(K:bS)(mg:ae->Option av)(zn:bG)(A:dU)(outer:List Env)(s:aR)(H:al):Prop where
 frames:A.frames=J outer
 mod:Mod K mg zn
 bs:∀b o,zn.get? b=J o->s.heap.get? b=J o/\H b=ax
 pX:zn.objs.size<=s.heap.objs.size
 mP:s.heap.FunFrames zn outer
 rU:∀b∈ks outer,H b=ax
 aP:gd P w H s.heap
 bare:AllBare s.gens
def Ed(outer:List Env)(P:dI)(w:dc)(H:al)(s:aR)(Q:bI)(u:av)(br:aR):Prop :=
 ∃v H',br.os=s.os/\AllBare br.gens/\g6 (ks outer) [] H H' s.heap br.heap/\gd P w H' br.heap/\RelV v u/\Q v H'
def SP(CX:mA)(outer:List Env)(P:dI)(w:dc)(H:al)(s:aR)(Q:bI)(E:cB)(r:Result)(br:aR):Prop :=
 match r with
 |.ok (.ret u)=>Ed outer P w H s Q u br
 |.ok _=>False
 |.error e=>CX outer H s E e br
structure dh(P:dI)(w:dc)(K:bS)(mg:ae->Option av)(zn:bG)(CX:mA)(k:Nat)(f:af)(fd:jc)(aQ:List ae)(sp:cv):Prop where
 len:∀vs H Q E,sp vs H Q E->vs.length=aQ.length
 run:∀(A:dU)(outer:List Env)(s:aR)(H:al)(args:Args)(us:List av)(vs:List V)(Q:bI)(E:cB),gT k A->sV P w K mg zn A outer s H->BindsTo s fd args (aQ.zip us)->Vals vs us->sp vs H Q E->
  oe (model P w) A (.call (.ref f) args) (SP CX outer P w H s Q E) s
variable {f:af}
theorem dh.mono{CX:mA}{sp:cv}(F:dh P w K mg zn CX j f fd aQ sp)(h:j<=k):
  dh P w K mg zn CX k f fd aQ sp:=⟨F.len,fun A outer s H args us vs Q E aw=>F.run A outer s H args us vs Q E (aw.mono h)⟩
def sV.make(e:sV P w K mg zn A outer s H)(C:af)(us:List av)(kw:List (ae×av)):
  sV P w K mg zn (A.under (.builtin "type.__call__" ⟨.ref C::us,kw⟩)) outer s H:=⟨by first|exact e.frames|(simpa [dU.under,Code.envs,Code.isFrame,pushEnvs] using e.frames),e.mod,e.bs,e.pX,e.mP,e.rU,e.aP,e.bare⟩
section
variable {X:bQ} {au:List (af×bZ)} {U:St} {H:al} {s br:aR}
def Inv.Ov(aa:Inv X au U H s):sV X.prog X.w X.K X.mg X.zn X.A X.stack s H :=
 ⟨aa.ok.frames,aa.ok.mod,aa.bs,dF aa.ok.pX aa.d3,aa.stack,aa.J0,aa.aP,aa.bare⟩
def Inv.after{Q:bI}(aa:Inv X au U H s)(h:Ed X.stack X.prog X.w H s Q u br):jd X au U Q u br:=by
 obtain⟨v,H',os,bare,un,aP,r,q⟩:=h;obtain⟨gG,g,d,t,zB⟩:=br;obtain rfl:zB=s.os:=os;exact⟨v,H',aa.call (h':=gG) (g':=g) (d':=d) (t':=t) (ch:=[]) un aP bare (fun b z=>absurd z (by simp)),r,q⟩
end
def J3(sp:cv)(dvs:List V)(E:cB)(t:hz):TE:=fun U H Q=>t U H fun vs H1=>sp (vs++dvs) H1 Q E
inductive KV(C:af)(m:ae)(x:V)(H:al)(R:Prop):Prop where
 |mk (a ak:af) (fs:List (ae×V)) (e:x=.ref a) (h:H a=J (.ins C ak fs)) (l:fs.lookup m=ax) (q:R):KV C m x H R
def DS(C:af)(m:ae)(sp:cv)(dvs:List V)(E:cB)(cD:TE)(t:hz):TE:=fun U H Q=>cD U H fun x H1=>KV C m x H1 (
 t U H1 fun vs ao=>sp (x::(vs++dvs)) ao Q E)
def So(C:af)(sp:cv)(dvs:List V)(E:cB)(t:hz):TE:=fun U H Q=>t U H fun vs H1=>∀x ak,H1 x=ax->H1 ak=ax->ak≠x->
 sp (.ref x::(vs++dvs)) (upd (upd H1 ak (.own x)) x (.ins C ak [])) (fun v ao=>v=.bf/\Q (.ref x) ao) E
def Binds(K:bS)(fd:jc)(aQ:List ae)(ds:List av):Prop :=
 ∀(s:aR)(us:List av),K.In s.heap->(us++ds).length=aQ.length->BindsTo s fd ⟨us,[]⟩ (aQ.zip (us++ds))
def Binds.all(h:∀us:List av,us.length=aQ.length->bindArgs fd ⟨us,[]⟩=pure (aQ.zip us)):Binds K fd aQ []:=fun s us _ aB=>by
 rw[List.append_nil]at aB ⊢;exact .of_eq (h us aB)
def Passes(CX:mA)(X:bQ)(E:cB):Prop:=∀(au:List (af×bZ))(U:St)(H:al)(s:aR)(e:av)(br:aR),Inv X au U H s->CX X.stack H s E e br->X.xe e br
section
variable {X:bQ} {CX:mA} {k:Nat} {f C:af} {fd:jc} {aQ:List ae} {sp:cv} {dvs:List V} {ds:List av} {E:cB} {x m:ae} {p bh apos:Pos} {e o:cU} {aZ:List cU} {cD:TE} {t:hz}
def B7{U:St}{Q:bI}{vs:List V}(F:dh X.prog X.w X.K X.mg X.zn CX k f fd aQ sp)(aw:gT k X.A)(ag:Binds X.K fd aQ ds)(hd:Vals dvs ds)(aq:Passes CX X E)
  (aa:Inv X au U H s) (r:Vals vs us) (h:sp (vs++dvs) H Q E):b4 (model X.prog X.w) X.A (call (.ref f) us) (jd X au U Q) X.xe s:=by
 have d8:Vals (vs++dvs) (us++ds):=r.append hd;have aB:(us++ds).length=aQ.length:=by rw[<-d8.length];exact F.len _ _ _ _ h
 refine D8 (uO (F.run X.A X.stack s H ⟨us,[]⟩ (us++ds) (vs++dvs) Q E aw aa.Ov (ag s us aa.f3 aB) d8 h) fun r br bo=>?_);cases r with
 |error e=>exact aq au U H s e br aa bo
 |ok fG =>
  cases fG with
  |ret u=>exact aa.after bo
  |next=>exact False.elim bo
  |brk=>exact False.elim bo
  |cont=>exact False.elim bo
def VG(F:dh X.prog X.w X.K X.mg X.zn CX k f fd aQ sp)(aw:gT k X.A)(bb:je X x)(hm:X.mg x=J (.ref f))(hk:qk X.K (.ref f)=ah)(ag:Binds X.K fd aQ ds)(hd:Vals dvs ds)(aq:Passes CX X E)
  (aM:iD X (e::aZ) t) (mV:rg ((x == ("__debug__":ae))=aE) w7) (he:rg (en (e::aZ) X.env=(aE,eval e X.env)::en aZ X.env) w8) (hq:rg ((backTo bh (en aZ X.env)).any (·.1)=aE) w8) :
  cH X (.Call (.Name x p) (e::aZ) [] bh) (J3 sp dvs E t):=by
 intro au s U H Q aa h;refine uP (B4 aa bb hm ?_ mV);refine Kq (h₀:=X.zn) aa.ok.mod.wI hk (dt (aM bh au s U H _ aa h) fun us s1 cb=>?_) he hq;obtain⟨vs,H1,bB,r,q⟩:=cb;refine ⟨bB.f3,?_⟩;exact B7 F aw ag hd aq bB r q
def VD{pl:Sem Bool}(he:cH X o cD)(c:fT X.K C)(hm:vo X.K C m f)(F:dh X.prog X.w X.K X.mg X.zn CX k f fd aQ sp)(aw:gT k X.A)(ag:Binds X.K fd aQ ds)(hd:Vals dvs ds)(aq:Passes CX X E)(aM:iD X (e::aZ) t)
  (q1:rg (en (e::aZ) X.env=(aE,eval e X.env)::en aZ X.env) w8) (hq:rg ((backTo bh (en aZ X.env)).any (·.1)=aE) w8)
  (bc:rg (eval (.Call (.Attribute o m apos) (e::aZ) [] bh) X.env=(do
   let lp <-eval o X.env
   standAt apos.atName
   let (f,first) <-holding [lp] (getMethod lp m pl)
   callWith bh f first (backTo bh (en (e::aZ) X.env)) (backToKw bh (xn [] X.env)))) w8) :
  cH X (.Call (.Attribute o m apos) (e::aZ) [] bh) (DS C m sp dvs E cD t):=by
 intro au s U H Q aa h;refine PySem.W.methodCall_KW (pl:=pl) (dt (he au s U H _ aa h) fun u s1 cb=>?_) bc;obtain⟨x,H1,bB,bu,a,ak,fs,ex,cL,l,q⟩:=cb;subst ex;obtain rfl:u=av.ref a:=bu;refine Gq bB cL c hm l ?_;refine Kq (first:=[.ref a]) (h₀:=X.zn) aa.ok.mod.wI hm.mw (dt (aM bh au s1 U H1 _ bB q) fun us s2 cb=>?_) q1 hq;obtain⟨vs,ao,cM,r,b1⟩:=cb;refine ⟨cM.f3,?_⟩;exact B7 (us :=.ref a::us) (vs :=.ref a::vs) F aw ag hd aq cM (.cons I r) b1
def UE{pl:Sem Bool}(he:cH X o cD)(c:fT X.K C)(hm:vo X.K C m f)(F:dh X.prog X.w X.K X.mg X.zn CX k f fd aQ sp)(aw:gT k X.A)(ag:Binds X.K fd aQ ds)(hd:Vals dvs ds)(aq:Passes CX X E)
  (bc:rg (eval (.Call (.Attribute o m apos) [] [] bh) X.env=(do
   let lp <-eval o X.env
   standAt apos.atName
   let (f,first) <-holding [lp] (getMethod lp m pl)
   callWith bh f first (backTo bh (en [] X.env)) (backToKw bh (xn [] X.env)))) w8) :
  cH X (.Call (.Attribute o m apos) [] [] bh) (DS C m sp dvs E cD DT):=by
 intro au s U H Q aa h;refine PySem.W.methodCall_KW (pl:=pl) (dt (he au s U H _ aa h) fun u s1 cb=>?_) bc;obtain⟨x,H1,bB,bu,a,ak,fs,ex,cL,l,q⟩:=cb;subst ex;obtain rfl:u=av.ref a:=bu;refine Gq bB cL c hm l ?_;exact PySem.W.callWith_K0 (first:=[.ref a]) bB.f3 hm.mw (B7 (us:=[.ref a]) (vs:=[.ref a]) F aw ag hd aq bB (.cons I .nil) q)
structure EV(K:bS)(C f:af):Prop where
 makes:Ab K C=ah
 init:gB K (.ref C) "__init__"=J (J (.ref f))
 fn:Ks K (.ref f)=ah
 mw:qk K (.ref C)=ah
def Ux{U:St}{Q:bI}{vs:List V}(M:EV X.K C f)(F:dh X.prog X.w X.K X.mg X.zn CX k f fd aQ sp)(aw:gT (k+1) X.A)(ag:Binds X.K fd aQ ds)(hd:Vals dvs ds)
  (aq:Passes CX X E) (aa:Inv X au U H s) (r:Vals vs us)
  (h:∀x ak,H x=ax->H ak=ax->ak≠x->sp (.ref x::(vs++dvs)) (upd (upd H ak (.own x)) x (.ins C ak [])) (fun v ao=>v=.bf/\Q (.ref x) ao) E) :
  b4 (model X.prog X.w) X.A (call (.ref C) us) (jd X au U Q) X.xe s:=by
 have bo:=h (s.heap.objs.size+1) s.heap.objs.size (aa.aP.fresh (Nat.le_succ _)) (aa.aP.fresh (cp _)) (hl (Nat.lt_succ_self _));have cM:=Inv.made (C:=C) aa;have d8:Vals (V.ref (s.heap.objs.size+1)::(vs++dvs)) (av.ref (s.heap.objs.size+1)::(us++ds)) :=.cons rfl (r.append hd)
 have aB:(av.ref (s.heap.objs.size+1)::us++ds).length=aQ.length:=by
  have e:=d8.length;rw[F.len _ _ _ _ bo]at e;exact e.symm
 refine D8 (UN (f:=f) aa.f3 M.makes M.init (beq_iff_eq.mp M.fn) (uO (F.run _ X.stack _ _ ⟨av.ref (s.heap.objs.size+1)::us,[]⟩ (av.ref (s.heap.objs.size+1)::(us++ds)) _ _ E (aw.make C us [])
  (cM.Ov.make C us []) (ag _ (av.ref (s.heap.objs.size+1)::us) cM.f3 aB) d8 bo) fun r br y4=>?_))
 cases r with
 |error e=>exact aq au U _ _ e br cM y4
 | ok fG =>
  cases fG with
  |ret u =>
   obtain⟨v,H',j0,d2,ev,eS⟩:=cM.after y4;subst ev;exact⟨d2,⟨V.ref (s.heap.objs.size+1),H',j0,I,eS⟩⟩
  |next=>exact False.elim y4
  |brk=>exact False.elim y4
  |cont=>exact False.elim y4
def VE(M:EV X.K C f)(F:dh X.prog X.w X.K X.mg X.zn CX k f fd aQ sp)(aw:gT (k+1) X.A)(bb:je X x)(hm:X.mg x=J (.ref C))(ag:Binds X.K fd aQ ds)(hd:Vals dvs ds)(aq:Passes CX X E)
  (aM:iD X (e::aZ) t) (mV:rg ((x == ("__debug__":ae))=aE) w7) (he:rg (en (e::aZ) X.env=(aE,eval e X.env)::en aZ X.env) w8) (hq:rg ((backTo bh (en aZ X.env)).any (·.1)=aE) w8) :
  cH X (.Call (.Name x p) (e::aZ) [] bh) (So C sp dvs E t):=by
 intro au s U H Q aa h;refine uP (B4 aa bb hm ?_ mV);refine Kq (h₀:=X.zn) aa.ok.mod.wI M.mw (dt (aM bh au s U H _ aa h) fun us s1 cb=>?_) he hq;obtain⟨vs,H1,bB,r,q⟩:=cb;refine ⟨bB.f3,?_⟩;exact Ux M F aw ag hd aq bB r q
end
structure b3(N P:List ae)(sc:Scope):Prop where
 kind:sc.kind=.function
 co:sc.isCoroutine=aE
 gen:sc.isGenerator=aE
 bj:N.Nodup
 pre:N.take P.length=P
 par:∀x∈P,sc.names.lookup x=J .local\/sc.names.lookup x=J .cell
 af9:∀y∈sc.names,y.2≠.free
def agI(N P:List ae)(sc:Scope):Bool:=decide ((sc.kind=.function)∧(sc.isCoroutine=aE)∧(sc.isGenerator=aE)∧(N.Nodup)∧(N.take P.length=P)∧(∀x∈P,sc.names.lookup x=J .local\/sc.names.lookup x=J .cell)∧(∀y∈sc.names,y.2≠.free))
def cd{P:List ae}(h:rg (agI N P sc=ah) rru):b3 N P sc:=have ⟨a,b,c,d,e,f,g⟩:=of_decide_eq_true h;⟨a,b,c,d,e,f,g⟩
theorem MX{kindOf:ae->Option kf}{x:ae}:∀{binds:List (ae×av)}{m:ae->Option av},(∀v,(x,v)∉binds)->bindL kindOf binds m x=m x
 |[],_,_=>rfl
 | (n,v)::r,m,h=>by
  unfold bindL;rw[MX fun w hw=>h w (dw _ hw)];split
  ·have:x≠n:=by rintro rfl;exact h v eA
   simp[this]
  .rfl
theorem MZ{kindOf:ae->Option kf}{x:ae}:∀{binds:List (ae×av)}{m:ae->Option av},(∀v,(x,v)∉binds)->bindC kindOf binds m x=m x
 |[],_,_=>rfl
 | (n,v)::r,m,h=>by
  unfold bindC;rw[MZ fun w hw=>h w (dw _ hw)];split
  .rfl
  ·have:x≠n:=by rintro rfl;exact h v eA
   simp[this]
theorem MY{kindOf:ae->Option kf}{x:ae}{v:av}:∀{P:List ae}{vs:List av}{i:Nat}{m:ae->Option av},P.Nodup->P[i]?=J x->vs[i]?=J v->kindOf x=J .local->
  bindL kindOf (P.zip vs) m x=J v
 |[],_,_,_,_,h,_,_=>by simp at h
 |_::_,[],_,_,_,_,h,_=>by simp at h
 |p::P,w::vs,0,m,bj,ai,ar,hk=>by
  simp at ai ar;subst ai;subst ar;show bindL kindOf ((p,w)::P.zip vs) m p=_;unfold bindL;rw[MX fun v bR=>(List.nodup_cons.mp bj).1 (List.of_mem_zip bR).1,if_pos hk];simp
 |p::P,w::vs,i+1,m,bj,ai,ar,hk=>by
  show bindL kindOf ((p,w)::P.zip vs) m x=_;unfold bindL;exact MY (i:=i) (List.nodup_cons.mp bj).2 (by simpa using ai) (by simpa using ar) hk
theorem M0{kindOf:ae->Option kf}{x:ae}{v:av}:∀{P:List ae}{vs:List av}{i:Nat}{m:ae->Option av},P.Nodup->P[i]?=J x->vs[i]?=J v->kindOf x≠J .local->
  bindC kindOf (P.zip vs) m x=J v
 |[],_,_,_,_,h,_,_=>by simp at h
 |_::_,[],_,_,_,_,h,_=>by simp at h
 |p::P,w::vs,0,m,bj,ai,ar,hk=>by
  simp at ai ar;subst ai;subst ar;show bindC kindOf ((p,w)::P.zip vs) m p=_;unfold bindC;rw[MZ fun v bR=>(List.nodup_cons.mp bj).1 (List.of_mem_zip bR).1,if_neg hk];simp
 |p::P,w::vs,i+1,m,bj,ai,ar,hk=>by
  show bindC kindOf ((p,w)::P.zip vs) m x=_;unfold bindC;exact M0 (i:=i) (List.nodup_cons.mp bj).2 (by simpa using ai) (by simpa using ar) hk
noncomputable def start(N:List ae)(vs:List V):St:=vs.map J++List.replicate (N.length-vs.length) ax
noncomputable def oO(CX:mA)(P:dI)(w:dc)(K:bS)(mg:ae->Option av)(zn:bG)(N:List ae)(e7:ae)(dR:Scope)(f:af)(e3:av)(A:dU)(outer:List Env)(s:aR)(H:al)(E:cB):bQ where
 prog:=P
 w:=w
 K:=K
 mg:=mg
 zn:=zn
 A:=A.deeper (envOfC e7 dR s.heap.objs.size f e3)
 N:=N
 eQ:=s
 jI:=H
 env:=envOfC e7 dR s.heap.objs.size f e3
 outer:=outer
 stack:=envOfC e7 dR s.heap.objs.size f e3::outer
 ex:=[]
 calm:=ah
 fn:=fun _=>ah
 pn:=[]
 xe:=fun e br=>b4 (model P w) (A.deeper (envOfC e7 dR s.heap.objs.size f e3)) (leaving (envOfC e7 dR s.heap.objs.size f e3) e) (fun _ pk=>CX outer H s E e pk) (fun e' pk=>CX outer H s E e' pk) br
def ND(h:sc.names.lookup x=J .cell):∃c,(cellsFrom n sc.names []).lookup x=J c:=by
 have q:=PySem.W.cellsFrom_some sc.names n [] (.inl h);exact Option.isSome_iff_exists.mp q
def aa6{CX:mA}{e3:av}{s1:aR}{E:cB}{vs:List V}
  (S:b3 N aQ dR) (hd:A.handled=ax) (eV:sV P w K mg zn A outer s H) (aB:vs.length=aQ.length) (r:Vals vs us)
  (x:InCallC s s.heap.objs.size (bindL (envOfC e7 dR s.heap.objs.size f e3).kindOf (aQ.zip us) fun _=>ax) (cellsFrom (s.heap.objs.size+1) dR.names []) (bindC (envOfC e7 dR s.heap.objs.size f e3).kindOf (aQ.zip us) fun _=>ax) s1) :
  Inv (oO CX P w K mg zn N e7 dR f e3 A outer s H E) [] (start N vs) H s1:=by
 have hq:aQ.length<=N.length:=by have:=congrArg List.length S.pre;rw[hN]at this;lia
 obtain⟨ai,dQ,rfl,hk⟩:=x.done;have zy:∀b:af,b∉(oO CX P w K mg zn N e7 dR f e3 A outer s H E).ex:=fun b z=>absurd (show b∈([]:List af)from z) (by simp)
 refine⟨⟨eV.mod,S.kind,I,I,cp _,fun y z c ai ar=>?_,fun y aW=>?_,fun y c _ h=>?_,fun _=>hd,dU.frames_deeper eV.frames,.inr ⟨I,I⟩,fun b z=>absurd z (zy b),eV.bs,eV.pX,fun b _ _=>zy b,fun b z=>absurd z (zy b),eV.mP,eV.rU⟩,
  rfl,eV.bare,g6.kept hk,⟨_,x.toInCall.ns,fun i y v ai ar bz=>?_⟩,fun y c h=>⟨_,x.cell y c h⟩,eV.aP.fresh (cp _),fun y c h=>?_,fun p aU=>absurd (show p∈([]:List (af×bZ))from aU) (by simp),eV.aP.kept hk,?_⟩
 .exact name_of_addr x.apart (PySem.mem_of_lookup ai) (PySem.mem_of_lookup ar)
 ·have aW:dR.names.lookup y=J .cell\/dR.names.lookup y=J .free:=aW;rcases aW with aW|aW
  .exact ND aW
  .exact absurd I (S.af9 _ (PySem.mem_of_lookup aW))
 .exact Nat.le_of_lt (x.above y c (PySem.mem_of_lookup h))
 ·have aF:i<vs.length:=by
   unfold start at ar;by_cases aF:i<vs.length
   .exact aF
   ·rw[List.getElem?_append_right (by simpa using aF)]at ar;rw[List.getElem?_replicate]at ar;split at ar<;>cases ar
  have aM:vs[i]?=J v:=by
   unfold start at ar;rw[List.getElem?_append_left (by simpa using aF),eD]at ar;cases e:vs[i]? with
   |none=>rw[e]at ar;cases ar
   |some a=>rw[e]at ar;cases ar;rfl
  obtain⟨u,cz,d2⟩:=r.get aM
  have aU:aQ[i]?=J y:=by
   rw[<-S.pre,List.getElem?_take_of_lt (by lia)];exact ai
  have P5:aQ.Nodup:=by rw[<-S.pre];exact S.bj.sublist (List.take_sublist _ _)
  refine⟨u,d2,?_⟩;rcases S.par y (eY aU)with k|k
  .exact .inl ⟨k,MY P5 aU cz k⟩
  ·obtain⟨c,e⟩:=ND (n:=s.heap.objs.size+1) k;refine .inr ⟨.inl k,c,e,?_⟩;have q:=x.cell y c e;rw[M0 P5 aU cz (by show dR.names.lookup y≠_;rw[k];decide)]at q;exact q
 .exact eV.aP.fresh (Nat.le_of_lt (x.above y c (PySem.mem_of_lookup h)))
 ·unfold start;show _=N.length;rw[dP,cA,List.length_replicate];lia
def Xb{CX:mA}{name:ae}{params:Arguments}{Ci hr:av}
  {sp:cv} (wQ:K.lookup f=J ⟨iW,gA,.func (od name e7 params body dR Ci hr doc pm an bw ct),nZ⟩) (oY:D6 K bw e7=ah) (S:b3 N aQ dR)
  (len:∀vs H Q E,sp vs H Q E->vs.length=aQ.length)
  (oX:∀(A:dU)(outer:List Env)(s:aR)(H:al)(vs:List V)(Q:bI)(E:cB),gT k (A.deeper (envOfC e7 dR s.heap.objs.size f bw))->sp vs H Q E->
   ∃t,jy (oO CX P w K mg zn N e7 dR f bw A outer s H E) body t/\t {nx:=fun _ H'=>Q .bf H',rt:=Q} (start N vs) H) :
  dh P w K mg zn CX (k+1) f (od name e7 params body dR Ci hr doc pm an bw ct) aQ sp:=by
 refine⟨len,fun A outer s H args us vs Q E aw eV ag r sd=>?_⟩;have aB:=len _ _ _ _ sd;have KX:K.In s.heap:=eV.mod.wI.keeps fun b o e=>(eV.bs b o e).1;have lim:s.heap.NoLimit:=eV.mod.nolimit.keeps fun b o e=>(eV.bs b o e).1
 have ad1:∀y∈aQ.zip us,dR.names.lookup y.1=J .local\/(dR.names.lookup y.1=J .cell/\((cellsFrom (s.heap.objs.size+1) dR.names []).lookup y.1).isSome=ah):=fun⟨n,v⟩ aW=>by
  rcases S.par n (List.of_mem_zip aW).1 with q|q
  .exact .inl q
  .exact .inr ⟨q,PySem.W.cellsFrom_some _ _ _ (.inl q)⟩
 refine codeAny_call_function aw.depth (KX _ _ wQ) I S.co S.gen I (PySem.W.codeRec_of KX oY) (ag _ _ _ _ ?_);refine wpAny_newFunctionEnv_cells S.kind ad1 fun env he s1 x=>?_;subst he;refine⟨lim.keeps x.toInCall.keep,codeAny_func ?_⟩;obtain⟨t,bc,bo⟩:=oX A outer s H vs Q E (aw.deeper _) sd;have aa:Inv (oO CX P w K mg zn N e7 dR f bw A outer s H E) [] (start N vs) H s1:=aa6 S aw.hd eV aB r x;refine mz (bc [] s1 (start N vs) H _ aa bo) (fun fG br hs=>?_) fun e br hs=>hs
 have dp:∀{b2:St}{H':al}{v:V}{u:av},Inv (oO CX P w K mg zn N e7 dR f bw A outer s H E) [] b2 H' br->RelV v u->Q v H'->Ed outer P w H s Q u br :=
  fun{b2 H' v u}bF d2 q=>⟨v,H',bF.os,bF.bare,bF.zn,bF.aP,d2,q⟩
 cases fG with
 |ret u =>
  obtain⟨v,b2,H',bF,d2,q⟩:=hs;exact dp bF d2 q
 |next =>
  obtain⟨b2,H',bF,q⟩:=hs;exact dp (v:=V.bf) (u:=av.none) bF I q
 |brk =>
  obtain⟨_,_,_,q⟩:=hs;exact False.elim q
 |cont =>
  obtain⟨_,_,_,q⟩:=hs;exact False.elim q
section
variable {X:bQ} {x:ae} {p bh:Pos} {e:cU} {aZ:List cU} {t:hz} {id T:String} {r:List V->al->bI->Prop}
def Sm(r:List V->al->bI->Prop)(t:hz):TE:=fun U H Q=>t U H fun vs H1=>r vs H1 Q
def b8(hc:jG X (.builtin id) r)(bb:je X x)(hm:X.mg x=ax)(bR:kg x=J (.builtin id))(aM:iD X (e::aZ) t)(aV:rg (x≠"__name__") w7)(mV:rg ((x == ("__debug__":ae))=aE) w7)
  (he:rg (en (e::aZ) X.env=(aE,eval e X.env)::en aZ X.env) w8) (hq:rg ((backTo bh (en aZ X.env)).any (·.1)=aE) w8):cH X (.Call (.Name x p) (e::aZ) [] bh) (Sm r t):=by
 intro au s U H Q aa h;refine uP (mD aa bb hm bR ?_ aV mV);refine PyProof.Rows.callWith_builtin1 (dt (aM bh au s U H _ aa h) fun us s1 cb=>?_) he hq;obtain⟨vs,H1,bB,cf,ck⟩:=cb;exact hc au s1 U H1 vs us Q bB cf ck
def oE(hc:jG X (.type T) r)(bb:je X x)(hm:X.mg x=ax)(bR:kg x=J (.type T))(aM:iD X (e::aZ) t)(aV:rg (x≠"__name__") w7)(mV:rg ((x == ("__debug__":ae))=aE) w7)
  (he:rg (en (e::aZ) X.env=(aE,eval e X.env)::en aZ X.env) w8) (hq:rg ((backTo bh (en aZ X.env)).any (·.1)=aE) w8):cH X (.Call (.Name x p) (e::aZ) [] bh) (Sm r t):=by
 intro au s U H Q aa h;refine uP (mD aa bb hm bR ?_ aV mV);refine PyProof.Rows.callWith_type1 (dt (aM bh au s U H _ aa h) fun us s1 cb=>?_) he hq;obtain⟨vs,H1,bB,cf,ck⟩:=cb;exact hc au s1 U H1 vs us Q bB cf ck
end
end c7
namespace du
open PySem PyProof.Rows
noncomputable def lexLt:List Int->List Int->Bool
 |[],[]=>aE
 |[],_::_=>ah
 |_::_,[]=>aE
 |x::xs,y::ay=>if x=y then lexLt xs ay else decide (x<y)
def wM(x y:Int)(xs ay:List Int):lexLt (x::xs) (y::ay)=if x=y then lexLt xs ay else decide (x<y):=rfl
def Yi(y:Int)(ay:List Int):lexLt [] (y::ay)=ah:=rfl
def Yj(x:Int)(xs:List Int):lexLt (x::xs) []=aE:=rfl
def UA(A:dU)(s:aR)(a:Int)(t:Tok)(c:Int)(u:Tok)(prog:dI)(w:dc)(E:av->aR->Prop)(Q:av->aR->Prop)(h:Q (.bool (decide (a<c))) s):
  b4 (model prog w) A (richCompare .Lt (.int a t) (.int c u)) Q E s :=
 (PyProof.Rows.lt_int h:b4 (model prog w) A (hg .Lt (.int a t) (.int c u)) Q E s)
section
open PySem.SeqAt
open PySem.AutoSeq1 (wpAny_loadPart')
open PySem.MeetsSeq PySem.MeetsSeq2 PySem.MeetsSeq3
end
section
variable {prog:dI} {w:dc} {A:dU} {E:av->aR->Prop} {s:aR}
noncomputable def fS(n d:Nat):Option Int->Nat
 |none=>d
 |some v=>if v<0 then(v+(n:Int)).toNat else min v.toNat n
def zL(n d:Nat):fS n d ax=d:=rfl
def uw(n d k:Nat):fS n d (J (k:Int))=min k n:=by
 show(if(k:Int)<0 then((k:Int)+(n:Int)).toNat else min (k:Int).toNat n)=min k n;rw[if_neg (by lia),Int.toNat_natCast]
def Qr(n d:Nat)(hd:d<=n)(o:Option Int):fS n d o<=n:=by
 cases o with
 |none=>exact hd
 |some v =>
  show(if v<0 then(v+(n:Int)).toNat else min v.toNat n)<=n;by_cases bR:v<0
  .rw[if_pos bR];lia
  .rw[if_neg bR];exact Nat.min_le_right _ _
end
end du
variable {U:c7.St} {H:c7.al}
namespace c7
open PySem PySem.Spec PyProof.Rows
noncomputable abbrev dJ:=St->al->(Option Int->al->Prop)->Prop
def xK(X:bQ)(e:Option cU)(t:dJ):Prop :=
 ∀(au:List (af×bZ))(s:aR)(U:St)(H:al)(Q:Option Int->al->Prop),Inv X au U H s->t U H Q->
  b4 (model X.prog X.w) X.A (evalPart e X.env) (fun u br=>∃o H',Inv X au U H' br/\IsPart u o/\Q o H') X.xe s
def ajz:dJ:=fun _ H Q=>Q ax H
def ajC(t:TE):dJ:=fun U H Q=>t U H fun x H1=>∃i,x=.int i/\Q (J i) H1
def BD{ns:List Int}:∀{us:List av},Vals (ns.map V.int) us->IntsAre us ns:=by
 induction ns with
 |nil=>intro us r;rw[List.map_nil]at r;cases r;exact .nil
 | cons n ns bK =>
  intro us r;rw[fB]at r;cases r with
  |cons cf d8 =>
   obtain⟨t,e⟩:=cf;subst e;exact .cons n t (bK d8)
variable {r:V->Option Int->Option Int->al->bI->Prop}
section
variable {X:bQ} {e:cU} {cJ:TE} {lo aF:Option cU} {dT z0:dJ} {bh cn:Pos}
def mB:xK X ax ajz:=by
 intro au s U H Q aa h;rw[evalPart_none];exact fq ⟨ax,H,aa,.none,h⟩
def kL(h:cH X e cJ):xK X (J e) (ajC cJ):=by
 intro au s U H Q aa hw;rw[evalPart_some];refine dt (h au s U H _ aa hw) fun u s1 cb=>?_;obtain⟨x,H1,bB,cf,ck⟩:=cb;obtain⟨i,rfl,q⟩:=ck;obtain⟨t,rfl⟩:=cf;exact⟨J i,H1,bB,.int i t,q⟩
def rI(X:bQ)(r:V->Option Int->Option Int->al->bI->Prop):Prop :=
 ∀(au:List (af×bZ))(s:aR)(U:St)(H:al)(x:V)(v n8 n9:av)(lo aF:Option Int)(eC:af)(Q:bI),Inv X au U H s->RelV x v->s.heap.IsSliceOf eC n8 n9 .none->IsPart n8 lo->IsPart n9 aF->r x lo aF H Q->
  ∃T id,typeLookup (.type T) "__getitem__"=pure (J (.builtin id))/\s.TypeIs v T/\b4 (model X.prog X.w) X.A (getItem v (.ref eC)) (jd X au U Q) X.xe s
def rI.or{eW:V->Option Int->Option Int->al->bI->Prop}(h:rI X r)(h':rI X eW):rI X (fun x lo aF H Q=>r x lo aF H Q\/eW x lo aF H Q):=by
 intro au s U H x v n8 n9 lo aF eC Q aa bu hs pl pu q;rcases q with q|q
 .exact h au s U H x v n8 n9 lo aF eC Q aa bu hs pl pu q
 .exact h' au s U H x v n8 n9 lo aF eC Q aa bu hs pl pu q
def ajE(r:V->Option Int->Option Int->al->bI->Prop)(cJ:TE)(dT z0:dJ):TE:=fun U H Q=>cJ U H fun x H1=>dT U H1 fun l ao=>z0 U ao fun u bp=>r x l u bp Q
def lK(aw:rI X r)(he:cH X e cJ)(aB:xK X lo dT)(cz:xK X aF z0):cH X (.Subscript e (.Slice lo aF ax cn) bh) (ajE r cJ dT z0):=by
 intro au s U H Q aa h;refine Subscript_ (dt (he au s U H _ aa h) fun v s1 cb=>?_);obtain⟨x,H1,bB,cf,ck⟩:=cb;refine wpAny_Slice (dt (aB au s1 U H1 _ bB ck) fun n8 s2 ⟨l,ao,cM,pl,b1⟩=>dt (cz au s2 U ao _ cM b1) fun n9 i8 cb=>?_);obtain⟨u,bp,j0,pu,eS⟩:=cb;rw[evalPart_none];refine fq ?_;have xx:Inv X au U bp {i8 with heap:=i8.heap.push {cls :=.type "slice",data :=.fields #[n8,n9,.none]}}:=j0.kept (t':=i8.toks) fun b eh q=>fV _ q;obtain⟨T,id,cc,bc,bb⟩:=aw au {i8 with heap:=i8.heap.push {cls :=.type "slice",data :=.fields #[n8,n9,.none]}} U bp x v n8 n9 l u i8.heap.objs.size Q xx cf (bG.IsSliceOf.new ..) pl pu eS;show b4 (model X.prog X.w) X.A (subscriptTail e (.Slice lo aF ax cn) v (.ref i8.heap.objs.size)) (jd X au U Q) X.xe {i8 with heap:=i8.heap.push {cls :=.type "slice",data :=.fields #[n8,n9,.none]}};exact tail_any (ops:=[.ref i8.heap.objs.size,v]) bc cc bb (by with_unfolding_all rfl)
noncomputable def p0(xs:List V)(lo aF:Option Int):List V:=(xs.drop (du.fS xs.length 0 lo)).take (du.fS xs.length xs.length aF-du.fS xs.length 0 lo)
def ZO(xs:List V)(lo aF:Option Int):(p0 xs lo aF).length<=xs.length:=by
 unfold p0;rw[hN,ie];lia
end
noncomputable def si(n:Nat)(i:Int):Option Nat:=if 0<=i then(if i<n then J i.toNat else ax)else if -(n:Int)<=i then J (i+n).toNat else ax
noncomputable def ed{α:Type}(xs:List α)(i:Int):Option α:=(si xs.length i).bind fun j=>xs[j]?
def V2{i:Int}(h:si n i=J j):seqIndex? i n=J j/\j<n/\-(n:Int)<=i/\i<n:=by
 unfold si at h;by_cases aX:0<=i
 ·rw[if_pos aX]at h;by_cases ai:i<n
  ·rw[if_pos ai]at h;have e:i.toNat=j:=gq h;exact⟨by rw[seqIndex_of aX ai,e],by lia,by lia,ai⟩
  .rw[if_neg ai]at h;cases h
 ·rw[if_neg aX]at h;by_cases ai : -(n:Int)<=i
  ·rw[if_pos ai]at h;have e:(i+n).toNat=j:=gq h;exact⟨by rw[seqIndex_neg (by lia) ai,e],by lia,ai,by lia⟩
  .rw[if_neg ai]at h;cases h
def B6{xs:List α}{i:Int}{v:α}(h:ed xs i=J v):∃j,seqIndex? i xs.length=J j/\xs[j]?=J v/\j<xs.length/\-(xs.length:Int)<=i/\i<xs.length:=by
 unfold ed at h;cases e:si xs.length i with
 |none=>rw[e]at h;cases h
 |some j =>
  rw[e]at h;obtain⟨ai,ar,bz,c0⟩:=V2 e;exact⟨j,ai,h,ar,bz,c0⟩
def cT{xs:List α}{v:α}(h:xs[j]?=J v):ed xs (j:Int)=J v:=by
 have b0:j<xs.length:=(gr.mp h).1
 have e:si xs.length (j:Int)=J j:=by
  unfold si;rw[if_pos (by lia),if_pos (by lia)];simp
 unfold ed;rw[e];exact h
def NF(xs:List α)(v:α):ed (xs++[v]) (-1)=J v:=by
 have aB:(xs++[v]).length=xs.length+1:=by simp
 have e:si (xs++[v]).length (-1)=J xs.length:=by
  unfold si;rw[aB,if_neg (by decide),if_pos (by lia)];congr 1;lia
 unfold ed;rw[e];show(xs++[v])[xs.length]?=J v;simp
def KW(b:cU):Prop:=∀o i,subscripted b aE o i=operate [o,i] (getItem o i)
def ov(X:bQ)(r:iF):Prop :=
 ∀(value slice:cU)(au:List (af×bZ))(s:aR)(U:St)(H:al)(x y:V)(v u:av)(Q:bI),Inv X au U H s->RelV x v->RelV y u->r x y H Q->
  subscripted slice aE v u=operate [v,u] (getItem v u)->b4 (model X.prog X.w) X.A (subscriptTail value slice v u) (jd X au U Q) X.xe s
def vp(X:bQ)(id:String)(r:V->List V->al->bI->Prop):Prop :=
 ∀(au:List (af×bZ))(s:aR)(U:St)(H:al)(x:V)(xs:List V)(v:av)(us:List av)(Q:bI),Inv X au U H s->RelV x v->Vals xs us->r x xs H Q->
  b4 (model X.prog X.w) X.A (call (.builtin id) (v::us)) (jd X au U Q) X.xe s
variable {x:V}
section
variable {X:bQ} {a b:cU} {cD dM:TE} {bh:Pos}
def ov.or{r eW:iF}(h:ov X r)(h':ov X eW):ov X (fun x y H Q=>r x y H Q\/eW x y H Q):=by
 intro value slice au s U H x y v u Q aa bu cR q hs;rcases q with q|q
 .exact h value slice au s U H x y v u Q aa bu cR q hs
 .exact h' value slice au s U H x y v u Q aa bu cR q hs
def W2{r:iF}(aw:ov X r)(aM:cH X a cD)(ag:cH X b dM)(hs:KW b):cH X (.Subscript a b bh) (lZ r cD dM):=by
 intro au s U H Q aa h;exact Subscript_ (Ht aM ag aa h fun v u s2 x y ao cM bu cR q=>aw a b au s2 U ao x y v u Q cM bu cR q (hs _ _))
inductive KM(K:bS)(x y:V)(H:al)(Q:V->Prop):Prop where
 |mk (p:af) (xs:List V) (i:Int) (v:V) (a:x=.ref p) (b:y=.int i) (c:cZ K H p xs) (d:ed xs i=J v) (h:Q v):KM K x y H Q
def Jy(K:bS):iF:=fun x y H Q=>KM K x y H fun v=>Q v H
inductive KN(K:bS)(x y:V)(H:al)(Q:V->Prop):Prop where
 |mk (p:af) (xs:List V) (i:Int) (v:V) (a:x=.ref p) (b:y=.int i) (c:gf K H p xs) (d:ed xs i=J v) (h:Q v):KN K x y H Q
def JA(K:bS):iF:=fun x y H Q=>KN K x y H fun v=>Q v H
def Jz:iF:=fun x y H Q=>∃z i c,x=.str z/\y=.int i/\z.length<=cg/\ed z.cps.toList i=J c/\Q (.str ⟨#[c]⟩) H
def V1:ov X (Jy X.K):=by
 intro value slice au s U H x y v u Q aa bu cR h hs;obtain⟨p,xs,i,z,rfl,rfl,bo,he,q⟩:=h;cases bu;obtain⟨t,rfl⟩:=cR;obtain⟨bq,r,pl,bV⟩:=aa.list bo;obtain⟨j,ai,ar,bz,c0,es⟩:=B6 he;obtain⟨w,kr,zJ⟩:=r.get ar;have aB:=r.length;have aV:=wN;have dp:jd X au U Q w s:=⟨z,H,aa,zJ,q⟩;by_cases aX:0<=i
 ·have b0:i.toNat=j:=by
   rw[seqIndex_of aX es]at ai;exact gq ai
  exact item_listR pl.isList aX (by lia) (by rw[b0];simpa using kr) dp hs
 ·have b0:(i+(bq.toArray.size:Int)).toNat=j:=by
   rw[seqIndex_neg (by lia) c0]at ai;rw[eU,<-aB];exact gq ai
  exact subscriptTail_builtinR (x:=w) pl.isList.typeIs slot_list_getitem.lookup
   (wpAny_getItem_list_neg (Q:=fun r br=>r=w/\jd X au U Q r br) pl.isList (by lia) (by rw[eU]<;>lia) (by lia) (by rw[b0];simpa using kr) ⟨rfl,dp⟩) hs
def WN:ov X (JA X.K):=by
 intro value slice au s U H x y v u Q aa bu cR h hs;obtain⟨p,xs,i,z,rfl,rfl,bo,he,q⟩:=h;cases bu;obtain⟨t,rfl⟩:=cR;obtain⟨bq,r,pl,bV⟩:=aa.tuple bo;obtain⟨j,ai,ar,bz,c0,es⟩:=B6 he;obtain⟨w,kr,zJ⟩:=r.get ar;have aB:=r.length;have aV:=wN;have dp:jd X au U Q w s:=⟨z,H,aa,zJ,q⟩
 exact subscriptTail_builtinR (x:=w) pl.typeIs slot_tuple_getitem.lookup
  (getItem_tuple (j:=j) (Q:=fun r br=>r=w/\jd X au U Q r br) pl (by lia) (by lia) (by rw[eU,<-aB];exact ai) (by simpa using kr) ⟨rfl,dp⟩) hs
def WO:ov X Jz:=by
 intro value slice au s U H x y v u Q aa bu cR h hs;obtain⟨z,i,c,rfl,rfl,bV,he,q⟩:=h;obtain⟨t,rfl⟩:=bu;obtain⟨t',rfl⟩:=cR;obtain⟨j,ai,ar,bz,c0,es⟩:=B6 he;have aB:z.cps.toList.length=z.length:=by simp[ae.length]
 rw[aB]at ai c0 es;have aV:=wN
 exact tail_any (typeIs_str s z t) slot_str_getitem.lookup (getItem_str (c:=c) (by
  have aL:decide (i < -(2^63:Int))=aE:=fL (by lia);have aS:decide (i>=2^63)=aE:=fL (by lia)
  rw[aL,aS,Bool.or_false]) (by rw[ai];simpa using ar) ⟨.str ⟨#[c]⟩,H,aa.tok _,⟨_,rfl⟩,q⟩) hs
def YQ(lo aF:Option Int)(n:Nat):(sliceBounds lo aF ax n).1=((du.fS n 0 lo:Nat):Int)/\(sliceBounds lo aF ax n).2.1=((du.fS n n aF:Nat):Int)/\(sliceBounds lo aF ax n).2.2=1:=by
 refine⟨?_,?_,I⟩
 ·cases lo with
  |none=>simp[sliceBounds,du.fS]
  |some i =>
   simp only[sliceBounds,du.fS,Option.getD_none,show(1:Int) > 0 by decide,if_true];by_cases h:i<0
   .simp only[h,if_true]<;>lia
   .simp only[h,if_false]<;>lia
 ·cases aF with
  |none=>simp[sliceBounds,du.fS]
  |some i =>
   simp only[sliceBounds,du.fS,Option.getD_none,show(1:Int) > 0 by decide,if_true];by_cases h:i<0
   .simp only[h,if_true]<;>lia
   .simp only[h,if_false]<;>lia
def Yn(bq:List av)(lo aF:Option Int):slicePick bq.toArray lo aF ax=((bq.drop (du.fS bq.length 0 lo)).take (du.fS bq.length bq.length aF-du.fS bq.length 0 lo)).toArray:=by
 obtain⟨ai,ar,bz⟩:=YQ lo aF bq.toArray.size;unfold slicePick;rw[ai,ar,bz];simp only[sliceRange_one,pick_run,eU]<;>rfl
inductive K5(K:bS)(x:V)(H:al)(Q:List V->Prop):Prop where
 |mk (a:af) (xs:List V) (e:x=.ref a) (h:cZ K H a xs) (q:Q xs):K5 K x H Q
noncomputable def aiU(K:bS):V->Option Int->Option Int->al->bI->Prop:=fun x lo aF H Q=>K5 K x H fun xs=>∀p,H p=ax->Q (.ref p) (upd H p (.lst (p0 xs lo aF)))
def Vt:rI X (aiU X.K):=by
 intro au s U H x v n8 n9 lo aF eC Q aa bu hs pl pu h;obtain⟨a,xs,rfl,aq,q⟩:=h;cases bu;obtain⟨bq,r,bc,bV⟩:=aa.list aq;have c1:=r.length;refine⟨"list",_,slot_list_getitem.lookup,bc.isList.typeIs,?_⟩;refine wpAny_getItem_list_slice bc.isList hs pl pu .none (by simp) ?_ (by rw[eU]<;>lia);rw[Yn,<-c1];refine⟨.ref s.heap.objs.size,_,aa.laid (t':=s.toks) (o :=.lst (p0 xs lo aF)) (fun b eh q=>fV _ q) (cp _) ?_,I,q _ (aa.aP.fresh (cp _))⟩;exact⟨dF (ZO xs lo aF) bV,_,0,(r.drop (du.fS xs.length 0 lo)).take (du.fS xs.length xs.length aF-du.fS xs.length 0 lo),hA _ I⟩
noncomputable def qM:V->Bool
 |.bf=>ah
 |.aK _=>ah
 |.int _=>ah
 |.str _=>ah
 |_=>aE
noncomputable def mO:V->V->Bool
 |.bf,.bf=>ah
 |.aK a,.aK b=>a == b
 |.aK a,.int b=>(if a then 1 else 0) == b
 |.int a,.aK b=>a == (if b then 1 else 0)
 |.int a,.int b=>a == b
 |.str a,.str b=>a == b
 |_,_=>aE
def WR{y:V}{v:av}(cR:RelV y u)(bu:RelV x v)(nI:qM y=ah)(gP:qM x=ah):SeqAt.EqAt A s u v (mO y x):=by
 cases y with
 |bf =>
  cases cR;cases x with
  |bf=>cases bu;exact SeqAt.EqAt.same _
  |aK b=>cases bu;exact SeqAt.EqAt.none_bool b
  |int b=>obtain⟨t,rfl⟩:=bu;exact SeqAt.EqAt.none_int b t
  |str b=>obtain⟨t,rfl⟩:=bu;exact SeqAt.EqAt.none_str b t
  |_=>exact absurd (show aE=ah from gP) ia
 |aK a =>
  cases cR;cases x with
  |bf=>cases bu;exact SeqAt.EqAt.bool_none a
  |aK b=>cases bu;exact SeqAt.EqAt.bool_bool a b
  |int b=>obtain⟨t,rfl⟩:=bu;exact SeqAt.EqAt.bool_int a b t
  |str b=>obtain⟨t,rfl⟩:=bu;exact SeqAt.EqAt.bool_str a b t
  |_=>exact absurd (show aE=ah from gP) ia
 |int a =>
  obtain⟨t',rfl⟩:=cR;cases x with
  |bf=>cases bu;exact SeqAt.EqAt.int_none a t'
  |aK b=>cases bu;exact SeqAt.EqAt.int_bool a t' b
  |int b=>obtain⟨t,rfl⟩:=bu;exact SeqAt.EqAt.int_int a t' b t
  |str b=>obtain⟨t,rfl⟩:=bu;exact SeqAt.EqAt.int_str a t' b t
  |_=>exact absurd (show aE=ah from gP) ia
 |str a =>
  obtain⟨t',rfl⟩:=cR;cases x with
  |bf=>cases bu;exact SeqAt.EqAt.str_none a t'
  |aK b=>cases bu;exact SeqAt.EqAt.str_bool a t' b
  |int b=>obtain⟨t,rfl⟩:=bu;exact SeqAt.EqAt.str_int a t' b t
  |str b=>obtain⟨t,rfl⟩:=bu;exact SeqAt.EqAt.str_str a t' b t
  |_=>exact absurd (show aE=ah from gP) ia
 |_=>exact absurd (show aE=ah from nI) ia
noncomputable def lO(x:V)(u:av):Bool:=match u with
 |.none=>mO .bf x
 |.bool b=>mO (.aK b) x
 |.int i _=>mO (.int i) x
 |.str z _=>mO (.str z) x
 |_=>aE
def Lu{y:V}(r:RelV y u)(f:qM y=ah):lO x u=mO y x:=by
 cases y with
 |bf=>cases r;rfl
 |aK b=>cases r;rfl
 |int i=>obtain⟨t,rfl⟩:=r;rfl
 |str z=>obtain⟨t,rfl⟩:=r;rfl
 |_=>exact absurd (show aE=ah from f) ia
theorem yg{x:V}:∀{xs:List V}{us:List av},Vals xs us->xs.all qM=ah->us.any (lO x)=xs.any fun y=>mO y x
 |_,_,.nil,_=>rfl
 |y::xs,u::us,.cons r t,f=>by
  rw[List.all_cons,g4]at f;rw[List.any_cons,List.any_cons,Lu r f.1,yg t f.2]
theorem x4{A:dU}{s:aR}{x:V}{v:av}(bu:RelV x v)(gP:qM x=ah):∀{xs:List V}{us:List av},Vals xs us->xs.all qM=ah->∀u∈us,SeqAt.EqAt A s u v (lO x u)
 |_,_,.nil,_=>fun u cz=>by cases cz
 |y::xs,u::us,.cons r t,f=>fun u' cz=>by
  rw[List.all_cons,g4]at f;rcases dd.mp cz with rfl|cz
  .rw[Lu r f.1];exact WR r bu f.1 gP
  .exact x4 bu gP t f.2 u' cz
noncomputable def wG(x:V)(xs:List V):Bool:=xs.any fun y=>mO y x
def Qn(K:bS)(neg:Bool):iF:=fun x y H Q=>∃p xs,y=.ref p/\(cZ K H p xs\/gf K H p xs)/\qM x=ah/\xs.all qM=ah/\Q (.aK (if neg then !wG x xs else wG x xs)) H
def GC:ea X (hg .In) (Qn X.K aE):=by
 intro au s U H x y v u Q aa bu cR h;obtain⟨p,xs,rfl,bo,gP,fs,q⟩:=h;cases cR;rcases bo with bo|bo
 ·obtain⟨bq,r,pl,bV⟩:=aa.list bo;refine SeqAt.in_listAt (lO x) pl.isList (fun w hw=>x4 bu gP r fs w (by simpa using hw)) ⟨.aK _,H,aa,I,?_⟩;rw[show bq.toArray.any (lO x)=bq.any (lO x) by simp,yg r fs];exact q
 ·obtain⟨bq,r,pl,bV⟩:=aa.tuple bo;refine SeqAt.in_tupleAt (lO x) pl (fun w hw=>x4 bu gP r fs w (by simpa using hw)) ⟨.aK _,H,aa,I,?_⟩;rw[show bq.toArray.any (lO x)=bq.any (lO x) by simp,yg r fs];exact q
def Y1:ea X (hg .NotIn) (Qn X.K ah):=by
 intro au s U H x y v u Q aa bu cR h;obtain⟨p,xs,rfl,bo,gP,fs,q⟩:=h;cases cR;rcases bo with bo|bo
 ·obtain⟨bq,r,pl,bV⟩:=aa.list bo;refine SeqAt.notIn_listAt (lO x) pl.isList (fun w hw=>x4 bu gP r fs w (by simpa using hw)) ⟨.aK _,H,aa,I,?_⟩;rw[show bq.toArray.any (lO x)=bq.any (lO x) by simp,yg r fs];exact q
 ·obtain⟨bq,r,pl,bV⟩:=aa.tuple bo;refine SeqAt.notIn_tupleAt (lO x) pl (fun w hw=>x4 bu gP r fs w (by simpa using hw)) ⟨.aK _,H,aa,I,?_⟩;rw[show bq.toArray.any (lO x)=bq.any (lO x) by simp,yg r fs];exact q
def FF:jG X (.type "tuple") (fun xs H Q=>∃p ay,xs=[.ref p]/\((cZ X.K H p ay/\∀l,H l=ax->Q (.ref l) (upd H l (.tup ay)))\/(gf X.K H p ay/\Q (.ref p) H))):=by
 intro au s U H xs us Q aa r h;obtain⟨p,ay,rfl,h⟩:=h;obtain⟨u,rfl,bu⟩:=vals1 r;cases bu;rcases h with⟨bo,q⟩|⟨bo,q⟩
 ·obtain⟨bq,eW,pl,bV⟩:=aa.list bo;have c1:=eW.length;refine call_tuple_list pl.isList (fun h' mw=>?_) (by simp only[eU]<;>lia);have bB:Inv X au U H {s with heap:=h'}:=aa.kept (t':=s.toks) mw
  have cM:Inv X au U (upd H h'.objs.size (.tup ay)) {s with heap:=h'.push {cls :=.type "tuple",data :=.seq bq.toArray}} :=
   bB.laid (t':=s.toks) (fun b o e=>fV _ e) (cp _) (show hM X.prog X.w _ _ _ (.tup ay)from⟨bV,bq,eW,IsTup.new _ _⟩)
  exact⟨.ref h'.objs.size,_,cM,I,q _ (bB.aP.fresh (cp _))⟩
 ·obtain⟨bq,eW,pl,bV⟩:=aa.tuple bo;exact call_tuple_same pl ⟨.ref p,H,aa,I,q⟩
def Kc(K:bS)(T:String)(x:V)(H:al):Prop:=match x with
 |.str _=>T="str"
 |.int _=>T="int"
 | .ref p=>(T="list"/\∃xs,cZ K H p xs)\/(T="tuple"/\∃o,K.lookup p=J o/\o.cls=.type "tuple"/\o.dict=ax)\/
   (T="dict"/\((∃fR,H p=J (.lM fR))\/∃fR,H p=J (.oP fR)))\/(T="set"/\∃S n,H p=J (.set S n))
 |_=>False
def Ld{T:String}{v:av}(aa:Inv X au U H s)(r:RelV x v)(ty:Kc X.K T x H):
  s.TypeIs v T/\∀a,v=.ref a->∃eh,s.heap.get? a=J eh/\eh.dict=ax:=by
 cases x with
 |str z =>
  obtain⟨t,rfl⟩:=r;cases(show T="str" from ty);exact⟨typeIs_str s z t,fun _ e=>nomatch e⟩
 |int i =>
  obtain⟨t,rfl⟩:=r;cases(show T="int" from ty);exact⟨typeIs_int s i t,fun _ e=>nomatch e⟩
 | ref p =>
  cases r;rcases ty with⟨rfl,xs,bo⟩|⟨rfl,o,hk,hc,hd⟩|⟨rfl,hk⟩|⟨rfl,S,n,hk⟩
  ·obtain⟨bq,_,pl,_⟩:=aa.list bo;refine⟨pl.isList.typeIs,fun a e=>?_⟩;cases e;obtain⟨o,n,e,c,hd,_⟩:=pl;exact⟨o,e,hd⟩
  ·refine⟨⟨o,aa.f3 p o hk,hc⟩,fun a e=>?_⟩;cases e;exact⟨o,aa.f3 _ o hk,hd⟩
  ·have z:∃o,s.heap.get? p=J o/\o.ExactDict:=by
    rcases hk with⟨fR,hk⟩|⟨fR,hk⟩
    ·obtain⟨_,_,_,_,o,_,_,e,ex,_⟩:=aa.aP p _ hk;exact⟨o,e,ex⟩
    .exact(show False from aa.aP p _ hk).elim
   obtain⟨o,e,ex⟩:=z;refine⟨⟨o,e,ex.1⟩,fun a aS=>?_⟩;cases aS;exact⟨o,e,ex.2.1⟩
  ·obtain⟨o,_,_,_,e,ex,_⟩:=aa.aP p _ hk;refine⟨⟨o,e,ex.1⟩,fun a aS=>?_⟩;cases aS;exact⟨o,e,ex.2.1⟩
 |_=>exact False.elim ty
def ajp(K:bS)(T:String)(r:V->List V->al->bI->Prop)(to:TE):TE:=fun U H Q=>to U H fun x H1=>Kc K T x H1/\r x [] H1 Q
def ajo(K:bS)(T:String)(r:V->List V->al->bI->Prop)(to:TE)(t:hz):TE:=fun U H Q=>to U H fun x H1=>Kc K T x H1/\t U H1 fun xs ao=>r x xs ao Q
variable {o e:cU} {aZ:List cU} {to:TE} {t:hz} {name:ae} {apos qJ:Pos} {T id:String} {r:V->List V->al->bI->Prop}
def yi(zD:PlainAttrs T)(slot:Slot T name id)(I1:typeOf (.builtin id)=pure (.type "method_descriptor"))(hm:vp X id r)(aN:cH X o to)
  (Ii:rg (attributeBase o name X.env (eval o X.env)=eval o X.env) w8) (ID:rg ((apos.endLine == qJ.line)=ah) w8):cH X (.Call (.Attribute o name apos) [] [] qJ) (ajp X.K T r to):=by
 intro au s U H Q aa h;refine wpAny_Call_method0_late Ii ID (dt (aN au s U H _ aa h) fun v s1 cb=>?_);obtain⟨x,H1,bB,cf,ty,ck⟩:=cb;obtain⟨ai,ar⟩:=Ld bB cf ty;exact⟨T,id,zD,slot,I1,ai,ar,Calls.callWith_builtin I (PySem.evalArgs_none (hm au s1 U H1 x [] v [] Q bB cf .nil ck))⟩
def hZ(zD:PlainAttrs T)(slot:Slot T name id)(I1:typeOf (.builtin id)=pure (.type "method_descriptor"))(hm:vp X id r)(aN:cH X o to)(aM:iD X (e::aZ) t)
  (Ii:rg (attributeBase o name X.env (eval o X.env)=eval o X.env) w8)
  (adP:rg (((backTo qJ (en (e::aZ) X.env)).all (fun x=>!x.1)&&(backToKw qJ (xn [] X.env)).all (fun x=>x.1.isSome)
   && decide ((e::aZ).length+([]:List Keyword).length+(if([]:List Keyword).isEmpty then 0 else 1)<30))=ah) w8)
  (ID:rg ((apos.endLine == qJ.line)=ah) w8) (hs:rg (en (e::aZ) X.env=(aE,eval e X.env)::en aZ X.env) w8) (aek:rg ((backTo qJ (en aZ X.env)).any (·.1)=aE) w8) :
  cH X (.Call (.Attribute o name apos) (e::aZ) [] qJ) (ajo X.K T r to t):=by
 intro au s U H Q aa h;refine wpAny_Call_method_late Ii adP ID I (dt (aN au s U H _ aa h) fun v s1 cb=>?_);obtain⟨x,H1,bB,cf,ty,ck⟩:=cb;obtain⟨ai,ar⟩:=Ld bB cf ty;refine⟨T,id,zD,slot,I1,ai,ar,?_⟩;have hF:=aM qJ au s1 U H1 _ bB ck;rw[hs]at hF ⊢;refine Calls.callWith_builtin (by show(aE||(backTo qJ (en aZ X.env)).any (·.1))=aE;rw[aek]<;>rfl) (Calls.evalArgs_plain ?_);refine dt hF fun us s2 cb=>?_;obtain⟨vs,ao,cM,d8,b1⟩:=cb;exact hm au s2 U ao x vs v us Q cM cf d8 b1
end
def AF(X:bQ)(id:String)(r:V->List V->al->bI->Prop):Prop :=
 ∀(au:List (af×bZ))(s:aR)(U:St)(H:al)(x:V)(xs:List V)(v:av)(us:List av)(Q:bI),Inv X au U H s->RelV x v->Vals xs us->r x xs H Q->
  b4 (model X.prog X.w) X.A (call (.builtin id) (v::us)) (jd X au U Q) X.xe s
theorem Vals.one:∀{x:V}{us:List av},Vals [x] us->∃u,us=[u]/\RelV x u
 |_,_,.cons r .nil=>⟨_,rfl,r⟩
theorem Vals.eraseIdx:∀{xs:List V}{us:List av}(i:Nat),Vals xs us->Vals (xs.eraseIdx i) (us.eraseIdx i)
 |_,_,_,.nil =>.nil
 |_,_,0,.cons _ t=>t
 |_,_,i+1,.cons r t =>.cons r (Vals.eraseIdx i t)
theorem MG{α:Type}:∀(l:List α)(i:Nat),(l.eraseIdx i).length<=l.length
 |[],_=>cp _
 |_::_,0=>Nat.le_succ _
 |_::r,i+1=>Nat.succ_le_succ (MG r i)
section
variable {X:bQ} {au:List (af×bZ)} {U:St} {H:al} {s:aR} {l b:af} {xs ay zs:List V}
def Inv.Di{its':List av}{f:Array av->Array av}(aa:Inv X au U H s)(j8:H l=J (.lst xs))
  (e:s.heap.get? l=J {cls :=.type "list",data :=.seq bq.toArray n}) (aA:f bq.toArray=its'.toArray) (bR:Vals ay its') (bV:ay.length<=cg) :
  Inv X au U (upd H l (.lst ay)) {s with heap:=s.heap.update l (bZ.mapSeq f),toks:=t'}:=by
 have q:=PySem.IsL.update e f;rw[aA]at q;refine aa.write (x:=l) (e:=l) (by rw[j8];exact trivial) (.inl I) (fun j3 u ag cz=>(bG.get?_update_other s.heap (bZ.mapSeq f) (ei ag)).trans cz) ⟨_,q⟩ ?_;exact⟨bV,its',_,bR,q⟩
def Inv.afn(aa:Inv X au U H s)(bR:Vals ay bq)(bV:ay.length<=cg):
  Inv X au U (upd H s.heap.objs.size (.lst ay)) {s with heap:=s.heap.push {cls :=.type "list",data :=.seq bq.toArray},toks:=t'} :=
 aa.laid (fun _ _ q=>fV _ q) (cp _) ⟨bV,bq,0,bR,hA _ rfl⟩
theorem Inv.fresh(aa:Inv X au U H s):H s.heap.objs.size=ax:=aa.aP.fresh (cp _)
def Inv.t2(aa:Inv X au U H s)(j8:H l=J (.lst xs)):xs.length<=cg/\∃(bq:List av)(n:Nat),Vals xs bq/\xs.length=bq.length/\s.heap.get? l=J {cls :=.type "list",data :=.seq bq.toArray n}:=by
 obtain⟨z,bq,n,r,e⟩:=aa.aP l _ j8;exact⟨z,bq,n,r,r.length,e⟩
end
section
variable {X:bQ}
inductive Kw(x:V)(vs:List V)(H:al)(Q:af->List V->V->Prop):Prop where
 |mk (l:af) (xs:List V) (y:V) (e:x=.ref l) (a:vs=[y]) (h:H l=J (.lst xs)) (c:xs.length<cg) (q:Q l xs y):Kw x vs H Q
noncomputable def aiL:V->List V->al->bI->Prop:=fun x vs H Q=>Kw x vs H fun l xs y=>Q .bf (upd H l (.lst (xs++[y])))
def qt:AF X "list.append" aiL:=by
 intro au s U H x vs v us Q aa bu d2 h;obtain⟨l,xs,y,rfl,rfl,j8,bV,q⟩:=h;cases bu;obtain⟨u,rfl,e1⟩:=d2.one;obtain⟨z,bq,n,r,aB,e⟩:=aa.t2 j8;refine call_meets F.slot_list_append ⟨_,e,I⟩ F.entry_list_append (F.args_list_append_2 _ _) (PySem.list_append l bq.toArray n u (by rw[eU];lia)) ⟨e,?_⟩;refine⟨.bf,_,aa.Di (its':=bq++[u]) j8 e (by simp) (r.append (.cons e1 .nil)) ?_,I,q⟩;rw[dP,k5];lia
noncomputable def aiS:V->List V->al->bI->Prop:=fun x vs H Q=>∃l xs i k y,x=.ref l/\vs=[.int i]/\H l=J (.lst xs)/\-(2^63)<=i/\i<2^63/\seqIndex? i xs.length=J k/\xs[k]?=J y/\Q y (upd H l (.lst (xs.eraseIdx k)))
def Nh:AF X "list.pop" aiS:=by
 intro au s U H x vs v us Q aa bu d2 h;obtain⟨l,xs,i,k,y,rfl,rfl,j8,ai,ar,hk,aW,q⟩:=h;cases bu;obtain⟨u,rfl,e1⟩:=d2.one;obtain⟨t,rfl⟩:=e1;obtain⟨z,bq,n,r,aB,e⟩:=aa.t2 j8;obtain⟨w,hw,zJ⟩:=r.get aW
 refine call_meets F.slot_list_pop ⟨_,e,I⟩ F.entry_list_pop (F.args_list_pop_2 _ _)
  (MeetsSeq.list_pop_at l bq.toArray n i t k w (fitsIndex_both ai ar) (by rw[eU,<-aB];exact hk) (by rw[<-Array.getElem?_toList];exact hw) (by rw[eU];lia)) ⟨e,?_⟩
 refine⟨y,_,aa.Di (its':=bq.eraseIdx k) j8 e ?_ (r.eraseIdx k) ?_,zJ,q⟩
 ·show bq.toArray.eraseIdxIfInBounds k=(bq.eraseIdx k).toArray;rw[List.eraseIdxIfInBounds_toArray]
 ·have:=MG xs k;lia
def aiN:iF:=fun x y H Q=>∃l b xs zs,x=.ref l/\y=.ref b/\H l=J (.lst xs)/\H b=J (.lst zs)/\xs.length+zs.length<=cg/\∀p,H p=ax->Q (.ref p) (upd H p (.lst (xs++zs)))
def Lp:ea X (lz .Add) aiN:=by
 intro au s U H x y v u Q aa bu cR h;obtain⟨l,b,xs,zs,rfl,rfl,j8,mh,bV,q⟩:=h;cases bu;cases cR;obtain⟨z,bq,n,r,aB,e⟩:=aa.t2 j8;obtain⟨dg,fm,dS,d8,gb,aS⟩:=aa.t2 mh;refine PySem.P.add_list e aS ?_ (by rw[eU,eU];lia);have cL:bq.toArray++fm.toArray=(bq++fm).toArray:=by simp
 rw[cL];exact⟨.ref _,_,aa.afn (t':=s.toks) (r.append d8) (by rw[dP];lia),I,q _ aa.fresh⟩
end
end c7
variable {loose:List ae} {vD:(ae->Option av)->bG->Prop} {rJ:dc->bG->Prop}
namespace Kx
open PySem PySem.W PySem.Calls PyProof.Rows
variable {P:Params}
def XX:∀(ns:List Int)(vs:List av),WellAll P h vs (ns.map WData.int)->IntsAre vs ns:=by
 intro ns
 induction ns with
 |nil =>
  intro vs w;rw[List.map_nil]at w;cases w;exact .nil
 | cons n ns bK =>
  intro vs w;rw[fB]at w;cases w with
  |cons a b =>
   cases a;exact .cons _ _ (bK _ b)
variable {l:OpenLaw}
def aaE(aV:l.most=J n){args:List WData}{vals:List av}
  (lS:l.row.toRowW.claim.pre args=ah) (Dc:WellAll P h vals args) :
  ∃a vs ns,vals=[av.ref a]/\args=[WData.list (ns.map WData.int)]/\h.get? a=J {cls :=.type "list",data :=.seq vs.toArray}/\IntsAre vs ns/\ns.length<=n:=by
 have aev:WShape.hasAll [] args [.list .int]=ah:=(pre_splitW lS).1;have hc:l.pre.holds [] {args:=args}=ah:=(pre_splitW lS).2;obtain⟨d,r,rfl,ai,ar⟩:=hasAllW_cons aev;obtain rfl:=hasAllW_nil ar;obtain⟨xs,rfl,bz⟩:=hasW_list ai;obtain⟨ns,rfl⟩:=items_int bz
 have c1:ns.length<=n:=by
  unfold OpenLaw.pre at hc
  have c0:(WTm.not (.lt (.lit (.int (n:Int))) (.len (.arg 0)))).holds [] {args:=[.list (ns.map .int)]}=ah:=by
   have c0:=(holds_andW hc).1;rw[aV]at c0;exact c0
  have es:=condW_of c0 (w_not (w_lt w_lit (w_len_list (w_arg rfl))));rw[cA]at es;refine Nat.le_of_not_lt fun q=>?_;have iA:(n:Int)<((ns.length:Nat):Int):=by lia
  first
   |(rw[eT iA]at es;exact absurd es (by decide))
   |(simp at es;lia)
 cases Dc with
 |cons rk jY =>
  cases jY;cases rk with
  |list aN f9=>exact⟨_,_,ns,I,I,aN,XX ns _ f9,c1⟩
def aaJ(l:OpenLaw)(args:List WData):l.row.toRowW.claim.post args (.bool ah) args=ah :=
 postW_of (r:=l.row.toRowW) (X:=(ah == ah))
  (show WShape.has [] (.bool ah) .bool=ah by first|rfl|decide|simp[WShape.has,WShape.arms,WShape.armsAll])
  (show(WTm.eq .res (.lit (.bool ah))).value [] {args:=args,res:=J (.bool ah),after:=args}=J (.bool (ah == ah))from w_eq_bool (w_res rfl) w_lit) rfl
def abB{q:dI}{d:DefRec}
  (aV:l.most=J n) (qV:d.params.defaults=[])
  (call:∀(w:dc)(eQ eu:aR)(mg nU:ae->Option av)(fa:af)(o:bZ)(pm e3 doc:av)(a:af)(vs:List av)(ns:List Int),
   Ground q loose [] vD w eQ mg nU eu.heap->rJ w eu.heap->
   eu.heap.get? fa=J o->o.data=.func (docDef d.name d.params d.body d.scope pm e3 doc)->eu.heap.CodeRec e3 d.name->mg d.name=J (.ref fa)->
   eu.heap.get? a=J {cls :=.type "list",data :=.seq vs.toArray}->IntsAre vs ns->ns.length<=n->eu.gens=#[]->
   oe (model l.prog w) callerA (.call (.ref fa) ⟨[.ref a],[]⟩) (fun r br=>r=.ok (.ret (.bool ah))/\OldK eu.heap br.heap/\br.os=eu.os/\AllBare br.gens) eu) :
  WalkO q loose vD rJ l.row.toRowW d [] (fun f vs=>PySem.call f vs):=by
 intro w eQ eu mg nU G Y fa o pm e3 doc Ci hr aN hd oY c2 hmg bb args vals as lS alq y6 Dc als;obtain rfl:Ci=.none:=Dflts.none c2 qV;obtain rfl:hr=.none:=Dflts.noKw c2;obtain⟨a,vs,ns,rfl,rfl,IK,hints,c1⟩:=aaE aV lS Dc;refine enter_call (uO (call w eQ eu mg nU fa o pm e3 doc a vs ns G Y aN (fd_plain hd) oY hmg IK hints c1 bb) fun r br bo=>?_);obtain⟨rfl,ar,bz,c0⟩:=bo;exact⟨.inl ⟨.bool ah,.bool ah,[],I,fun _=>I,.bool ah,aaJ l _,fun _=>⟨List.Pairwise.nil,fun _ hm=>(nomatch hm)⟩⟩,ar,bz,c0⟩
section
variable {prog:dI} {w:dc} {A:dU} {E:av->aR->Prop} {s:aR} {K:Frag}
noncomputable def alU(h:bG)(L d:af):List (af×bZ):=(List.range h.objs.size).filterMap fun a=>if a=L\/a=d then ax else(h.get? a).map fun o=>(a,o)
end
end Kx
variable {CX:c7.mA} {fa:af} {H1 ao H':c7.al} {xs:List c7.V}
namespace c7
open PySem PySem.Spec PyProof.Rows
theorem Mt:∀{vs:List av}{ns:List Int},IntsAre vs ns->Vals (ns.map V.int) vs
 |_,_,.nil =>.nil
 |_,_,.cons n t h =>.cons ⟨t,rfl⟩ (Mt h)
def EX(H:al):Prop:=∀b,H b=ax\/∃o xs,H b=J (.iM o (.lst xs))
def afc{nU:ae->Option av}{a:af}{sp:cv}{eu:aR}{vs:List av}{ns:List Int}
  (KX:K.In eu.heap) (C0:eu.heap.Ns fp mg) (ag:eu.heap.Ns builtinsNs nU) (Ij:∀x:ae,x≠"__name__"->nU x=kg x) (ad2:eu.heap.NoLimit) (bb:eu.gens=#[])
  (aM:eu.heap.get? a=J {cls :=.type "list",data :=.seq vs.toArray}) (aF:IntsAre vs ns) (aB:ns.length<=cg) (aw:gT k callerA)
  (F:∀zn:bG,K.In zn->zn.Ns fp mg->dh P w K mg zn CX k fa fd [x] sp) (adv:∀(s:aR)(u:av),BindsTo s fd ⟨[u],[]⟩ [(x,u)])
  (sd:∀H:al,EX H->cZ K H a (ns.map V.int)->sp [.ref a] H (fun v _=>v=.aK ah) fun _ _ _=>False)
  (H3:∀H e br,CX [] H eu (fun _ _ _=>False) e br->False) :
  oe (model P w) callerA (.call (.ref fa) ⟨[.ref a],[]⟩) (fun r br=>r=.ok (.ret (.bool ah))/\OldK eu.heap br.heap/\br.os=eu.os/\AllBare br.gens) eu:=by
 have d2:=Mt aF;have afg:=aF.length
 have core:∀H:al,EX H->cZ K H a (ns.map V.int)->gd P w H eu.heap->(∀b,H b≠ax->b=a)->(H a≠ax->K.lookup a=ax)->
   oe (model P w) callerA (.call (.ref fa) ⟨[.ref a],[]⟩) (fun r br=>r=.ok (.ret (.bool ah))/\OldK eu.heap br.heap/\br.os=eu.os/\AllBare br.gens) eu:=by
  intro H CN df aP hF f7;have base_of:∀{b:af}{o:bZ},eu.heap.get? b=J o->H b=ax->(qX eu.heap H).get? b=J o:=fun e n=>UP e n
  have zy:∀{b:af}{o:bZ}{aZ:Array DictEntry}{gh:Nat},eu.heap.get? b=J o->o.data=.dict aZ gh->H b=ax:=fun{b o aZ gh}e d=>by
   cases q:H b with
   |none=>rfl
   |some u =>
    have e':b=a:=hF b (by rw[q];simp);subst e';rw[aM]at e;cases e;have d':Data.seq vs.toArray _=Data.dict aZ gh:=d;cases d'
  have ua:∀{b:af}{m:ae->Option av},eu.heap.Ns b m->(qX eu.heap H).Ns b m:=fun {b m} ⟨o,aZ,gh,e,d,r⟩=>⟨o,aZ,gh,base_of e (zy e d),d,r⟩
  have OU:K.In (qX eu.heap H):=fun b o e=>base_of (KX b o e) (by
   cases q:H b with
   |none=>rfl
   |some u =>
    have e':b=a:=hF b (by rw[q];simp);subst e'
    rw[f7 (by rw[q];simp)]at e;cases e)
  have qS:Mod K mg (qX eu.heap H):=⟨OU,ua C0,⟨nU,ua ag,Ij⟩,let ⟨afE,ai,ar⟩:=ad2;⟨afE,ua ai,ar⟩⟩;have eV:sV P w K mg (qX eu.heap H) callerA [] eu H:=⟨rfl,qS,fun b o e=>VS e,Nat.le_of_eq (aa9 _ _),trivial,fun b ag=>absurd (show b∈([]:List af)from ag) (by simp),aP,.of_eq bb⟩;refine uO ((F _ OU (ua C0)).run callerA [] eu H ⟨[.ref a],[]⟩ [.ref a] [.ref a] _ _ aw eV (adv eu (.ref a)) (.cons I .nil) (sd H CN df)) fun r br h=>?_;cases r with
  |error e=>exact(H3 H e br h).elim
  | ok fG =>
   cases fG with
   |next=>exact False.elim h
   |brk=>exact False.elim h
   |cont=>exact False.elim h
   | ret u =>
    obtain⟨v,H',os,bare,un,aef,eW,q⟩:=h;have iA:v=.aK ah:=q;subst iA;obtain rfl:u=av.bool ah:=eW;refine⟨I,OldK.of_keep fun b o e=>?_,os,bare⟩;cases q:H b with
    |none=>exact un.keep b o e q (by intro z;exact absurd (show b∈([]:List af)from z) (by simp)) (by simp)
    | some u =>
     rcases CN b with z|⟨eh,xs,z⟩
     .rw[q]at z;cases z
     ·have dg:=un.nH b eh _ z;obtain⟨aL,_⟩:=aP b _ z;obtain⟨aS,_⟩:=aef b _ dg;rw[e]at aL;cases aL;exact aS
 cases hk:K.lookup a with
 |some o =>
  have e:=KX a o hk;rw[aM]at e;cases e;refine core (fun _=>ax) (fun _ =>.inl I) (.inr ⟨_,vs.toArray,_,hk,I,I,I,by rw[eU,afg];exact aB,by simpa using d2⟩) (fun b u z=>by have pE:(ax:Option cX)=J u:=z;cases pE) (fun b z=>absurd rfl z) fun z=>absurd rfl z
 | none =>
  refine core (fun b=>if b=a then J (.iM {cls :=.type "list",data :=.seq vs.toArray} (.lst (ns.map V.int)))else ax) (fun b=>?_) (.inl (.inr ⟨{cls :=.type "list",data :=.seq vs.toArray},if_pos rfl⟩)) (fun b u z=>?_) (fun b z=>?_) fun _=>hk
  ·by_cases ag:b=a
   .exact .inr ⟨_,_,if_pos ag⟩
   .exact .inl (if_neg ag)
  ·by_cases ag:b=a
   ·have pE:=(if_pos ag).symm.trans z;cases pE;subst ag;exact⟨aM,by rw[cA];exact aB,vs,_,d2,aM⟩
   ·have pE:=(if_neg ag).symm.trans z;cases pE
  ·by_cases ag:b=a
   .exact ag
   .exact absurd (if_neg ag) z
def Vn{l:PySem.W.OpenLaw}{q:dI}{d:DefRec}{K:Params->bS}{CX:dc->mA}{sp:dc->cv}
  (aV:l.most=J n) (mX:n<=cg) (qV:d.params.defaults=[]) (aw:gT k callerA)
  (Ih:∀(w:dc)(h:bG),rJ w h->(K w.params).In h)
  (F:∀(w:dc)(mg:ae->Option av)(fa:af)(h:bG),(K w.params).In h->h.Ns fp mg->mg d.name=J (.ref fa)->
   ∃fd:jc,(∀(s:aR)(u:av),BindsTo s fd ⟨[u],[]⟩ [(x,u)])/\
    ∀zn:bG,(K w.params).In zn->zn.Ns fp mg->dh l.prog w (K w.params) mg zn (CX w) k fa fd [x] (sp w))
  (sd:∀(w:dc)(H:al)(a:af)(ns:List Int),ns.length<=n->EX H->cZ (K w.params) H a (ns.map V.int)->sp w [.ref a] H (fun v _=>v=.aK ah) fun _ _ _=>False)
  (H3:∀(w:dc)(H:al)(s:aR)(e:av)(br:aR),CX w [] H s (fun _ _ _=>False) e br->False) :
  PySem.W.WalkO q loose vD rJ l.row.toRowW d [] (fun f vs=>PySem.call f vs):=by
 refine Kx.abB aV qV fun w eQ eu mg nU fa o pm e3 doc a vs ns G Y aN hd oY hmg IK hints c1 bb=>?_;have KX:=Ih w _ Y;obtain⟨fd,ag,dk⟩:=F w mg fa _ KX G.T.g hmg;exact afc KX G.T.g G.T.b G.T.builtins G.T.nolimit bb IK hints (dF c1 mX) aw dk ag (fun H CN df=>sd w H a ns c1 CN df) fun H e br=>H3 w H eu e br
noncomputable def ej(s:bA)(j:Nat):bA:=match s with
 |.ClassDef _ _ _ body _ _ _ _ _ _ _=>body.getD j (.Pass ⟨0,0,0,0⟩)
 |_ => .Pass ⟨0,0,0,0⟩
noncomputable def oQ(s:bA):Arguments:=match s with
 |.FunctionDef _ a _ _ _ _ _ _ _ _=>a
 |_=>{posonlyargs:=[],args:=[],vararg:=ax,kwonlyargs:=[],kw_defaults:=[],kwarg:=ax,defaults:=[]}
noncomputable def k9(s:bA):List bA:=match s with
 |.FunctionDef _ _ b _ _ _ _ _ _ _=>b
 |_=>[]
noncomputable def bO(s:bA):Scope:=match s with
 |.FunctionDef _ _ _ _ _ _ sc _ _ _=>sc
 |_=>{kind :=.function,names:=[],isGenerator:=aE,isCoroutine:=aE}
noncomputable abbrev dA:mA:=fun _ _ _ _ _ _=>False
abbrev jx:cB:=fun _ _ _=>False
def zE{X:bQ}:Passes dA X jx:=fun _ _ _ _ _ _ _ h=>h.elim
structure dN(K:bS)(x e7:ae)(st:bA)(f:af)(fd:jc):Prop where
 ex:∃(iW:av)(gA:Option af)(hr doc pm:av)(an:Option af)(bw ct:av)(nZ:Array (Option av)),
  fd=od x e7 (oQ st) (k9 st) (bO st) .none hr doc pm an bw ct/\K.lookup f=J ⟨iW,gA,.func fd,nZ⟩/\D6 K bw e7=ah
 mw:qk K (.ref f)=ah
variable {f:af}
section
variable {P:dI} {w:dc} {K:bS} {mg:ae->Option av} {zn:bG}
def dN.ok{st:bA}{sp:cv}(F:dN K x e7 st f fd)(S:b3 N aQ (bO st))(len:∀vs H Q E,sp vs H Q E->vs.length=aQ.length)
  (oX:∀(bw:av)(A:dU)(outer:List Env)(s:aR)(H:al)(vs:List V)(Q:bI)(E:cB),gT k (A.deeper (envOfC e7 (bO st) s.heap.objs.size f bw))->sp vs H Q E->
   ∃t,jy (oO dA P w K mg zn N e7 (bO st) f bw A outer s H E).q7 (k9 st) t/\t {nx:=fun _ H'=>Q .bf H',rt:=Q} (start N vs) H):dh P w K mg zn dA (k+1) f fd aQ sp:=by
 obtain⟨iW,gA,hr,doc,pm,an,bw,ct,nZ,rfl,wQ,oY⟩:=F.ex;refine Xb wQ oY S len fun A outer s H vs Q E aw sd=>?_;obtain⟨t,h,q⟩:=oX bw A outer s H vs Q E aw sd;exact⟨t,h.q7,q⟩
def dN.binds{st:bA}(F:dN K x e7 st f fd)
  (h:∀(hr doc pm:av)(an:Option af)(bw ct:av)(us:List av),us.length=aQ.length->bindArgs (od x e7 (oQ st) (k9 st) (bO st) .none hr doc pm an bw ct) ⟨us,[]⟩=pure (aQ.zip us)):Binds K fd aQ []:=by
 obtain⟨iW,gA,hr,doc,pm,an,bw,ct,nZ,rfl,wQ,oY⟩:=F.ex;exact .all (h hr doc pm an bw ct)
def Ls{st:bA}{hr:av}(l:K.lookup f=J ⟨iW,gA,.func (od x e7 (oQ st) (k9 st) (bO st) .none hr doc pm an bw ct),nZ⟩)
  (c:D6 K bw e7=ah) (k:qk K (.ref f)=ah):dN K x e7 st f (od x e7 (oQ st) (k9 st) (bO st) .none hr doc pm an bw ct):=⟨⟨iW,gA,hr,doc,pm,an,bw,ct,nZ,rfl,l,c⟩,k⟩
end
section
variable {X:bQ}
def ab(i:Nat)(bP:rg (X.N[i]?=J x) w8)(bR:rg (A3 X.env.scope x) rrv)(hd:rg ((x == ("__debug__":ae))=aE) w7)
  (oY:rg ((x == ("__classdict__":ae))=aE) w7):cH X (.Name x bh) (pw i):=Wx bP bR hd oY
end
variable {A B:Prop}
def da(h:B):if aE=ah then A else B:=by
 rw[if_neg ia];exact h
def eP(h:A):if ah=ah then A else B:=by
 rw[if_pos rfl];exact h
def ze{c:Prop}[Decidable c](hc:c)(h:B):if(!decide c)=ah then A else B:=by
 rw[eT hc];exact da h
def dY(H H':al):Prop:=∀b o,H b=J o->H' b=J o
def dY.refl(H:al):dY H H:=fun _ _ h=>h
def dY.trans(a:dY H H1)(b:dY H1 ao):dY H ao:=fun c o h=>b c o (a c o h)
def dY.free(e:dY H H'){l:af}(h:H' l=Option.none):H l=Option.none:=by
 cases q:H l with
 |none=>rfl
 |some o =>
  rw[e l o q]at h;cases h
def dY.seq{a:af}(e:dY H H')(h:cZ K H a xs):cZ K H' a xs:=by
 rcases h with(h|⟨o,h⟩)|h
 .exact .inl (.inl (e _ _ h))
 .exact .inl (.inr ⟨o,e _ _ h⟩)
 .exact .inr h
end c7
variable {o:c7.cX} {p:af} {cD:c7.hz} {acc:av} {oT:List (ae×c7.V)} {sX:c7.al} {zM:c7.cv}
section
namespace c7
open PySem PySem.Spec PyProof.Rows
section
variable {X:bQ}
def xV:vp X "int.bit_length" (fun x xs H Q=>∃i,x=.int i/\xs=[]/\Q (.int ((de.Int.intBits i:Nat):Int)) H):=by
 intro au s U H x xs v us Q aa bu d2 h;obtain⟨i,rfl,rfl,q⟩:=h;obtain⟨t,rfl⟩:=bu;cases d2;exact call_gives F.slot_int_bit_length (typeIs_int s i t) F.entry_int_bit_length (F.args_int_bit_length_1 _) (AutoIntG2.int_bit_length_int_0 i t) ⟨.int _,H,aa.tok _,⟨_,I⟩,q⟩
theorem NJ:∀{ay:List ae}{bq:List av},Vals (ay.map V.str) bq->StrsAre bq ay
 |[],_,.nil =>.nil
 |_::_,_,.cons ⟨_,e⟩ r=>by subst e;exact .cons _ _ (NJ r)
def tm:vp X "str.join" (fun x xs H Q=>∃y a ay,x=.str y/\xs=[.ref a]/\cZ X.K H a (ay.map V.str)/\(ay.map (·.length)).sum+ay.length*y.length<=16777216/\Q (.str (Txt.join y ay)) H):=by
 intro au s U H x xs v us Q aa bu d2 h;obtain⟨y,a,ay,rfl,rfl,bo,bV,q⟩:=h;obtain⟨t,rfl⟩:=bu;obtain⟨u,rfl,e1⟩:=d2.one;cases e1;obtain⟨bq,r,pl,_⟩:=aa.list bo;exact join_list pl.isList (by simpa using NJ r) bV fun t' k=>⟨.str _,H,aa.tok _,⟨_,I⟩,q⟩
def Z6:ea X (lz .Mult) (fun x y H Q=>∃z i,x=.str z/\y=.int i/\i<2^40/\-(2^40)<i/\z.length*i.toNat<=cg/\Q (.str (Txt.mul z i)) H):=by
 intro au s U H x y v u Q aa bu cR h;obtain⟨z,i,rfl,rfl,ai,ar,bz,q⟩:=h;obtain⟨t,rfl⟩:=bu;obtain⟨t',rfl⟩:=cR;refine SB.mul ⟨?_,fun c0 _=>?_,fun c0 _=>?_⟩ fun t' k=>⟨.str _,H,aa.tok _,⟨_,I⟩,q⟩
 .simp only[Bool.or_eq_false_iff,decide_eq_false_iff_not];lia
 ·intro c;have aV:(0:Int)<i:=by lia
  have ak8:=wN
  have e:(z.length:Int)*i<=2^63-1:=by
   have:((z.length*i.toNat:Nat):Int)=(z.length:Int)*i:=by rw[Int.natCast_mul];congr 1;lia
   lia
  have:=(Int.le_ediv_iff_mul_le aV).mpr e;lia
 .unfold de.Str.tooLong;simpa using bz
def YM:jG X (.type "int") (fun xs H Q=>∃x n,xs=[.str x]/\PySem.intText? x=J n/\x.length<=640/\Q (.int n) H):=by
 intro au s U H xs us Q aa r h;obtain⟨x,n,rfl,aV,aB,q⟩:=h;obtain⟨u,rfl,t,rfl⟩:=vals1 r;exact PySem.W.KIN.call_text aV aB ⟨.int n,H,aa.tok _,⟨_,I⟩,q⟩
def Wq:rI X (fun x lo aF H Q=>∃z,x=.str z/\z.length<=cg/\Q (.str (Txt.slice z lo aF)) H):=by
 intro au s U H x v n8 n9 lo aF eC Q aa bu hs pl pu h;obtain⟨z,rfl,bV,q⟩:=h;obtain⟨t,rfl⟩:=bu;refine⟨"str",_,F.slot_str_getitem.lookup,typeIs_str s z t,?_⟩;have dp:∀(t':Tok)(k:Nat),jd X au U Q (.str (Txt.slice z lo aF) t') {s with toks:=k}:=fun t' k=>⟨.str _,H,aa.tok _,⟨_,rfl⟩,q⟩;obtain⟨o,aN,hc,hd⟩:=hs;cases pl with
 |none =>
  cases pu with
  |none=>exact D9 (l:=ax) (u:=ax) (st:=ax) ⟨o,aN,hc,hd⟩ I (post_val_or_str ⟨dF (Txt.slice_le z _ _) bV,dp⟩)
  |int j Kd=>exact D9 (l:=ax) (u:=J (j,Kd)) (st:=ax) ⟨o,aN,hc,hd⟩ I (post_val_or_str ⟨dF (Txt.slice_le z _ _) bV,dp⟩)
 |int i Sx =>
  cases pu with
  |none=>exact D9 (l:=J (i,Sx)) (u:=ax) (st:=ax) ⟨o,aN,hc,hd⟩ I (post_val_or_str ⟨dF (Txt.slice_le z _ _) bV,dp⟩)
  |int j Kd=>exact D9 (l:=J (i,Sx)) (u:=J (j,Kd)) (st:=ax) ⟨o,aN,hc,hd⟩ I (post_val_or_str ⟨dF (Txt.slice_le z _ _) bV,dp⟩)
def ZR:jG X (.builtin "isinstance") (fun xs H Q=>∃x T t b,xs=[x,.ty T]/\kI X.K H x t/\pF X.K t (.type T)=J b/\Q (.aK b) H):=by
 intro au s U H xs us Q aa r h;obtain⟨x,T,t,b,rfl,ty,e,q⟩:=h;obtain⟨u,hW,rfl,cf,d8⟩:=vals2 r;cases(show hW=av.type T from d8);exact MK aa cf ty e fun dQ=>⟨.aK b,H,aa.tok _,I,q⟩
def Zk:jG X (.builtin "isinstance") (fun xs H Q=>∃x C t b,xs=[x,.ref C]/\kI X.K H x t/\pF X.K t (.ref C)=J b/\Q (.aK b) H):=by
 intro au s U H xs us Q aa r h;obtain⟨x,C,t,b,rfl,ty,e,q⟩:=h;obtain⟨u,hW,rfl,cf,d8⟩:=vals2 r;cases(show hW=av.ref C from d8);exact MK aa cf ty e fun dQ=>⟨.aK b,H,aa.tok _,I,q⟩
end
noncomputable def s3(lo c:Int)(n:Nat):kk:=⟨fun i _=>i<n,fun i H x H'=>H'=H/\x=.int (lo+i*c),fun i _=>n<=i⟩
def L7(it:af)(lo c:Int)(n:Nat):Turn P w K ep (s3 lo c n) [it] it (fun i h=>IsRangeIter h it (lo+(i:Nat)*c) ((n:Int)-(i:Nat)) c) where
 mem:=by simp
 obj:=fun i h st b ag=>by
  have e:b=it:=by simpa using ag
  subst e
  exact⟨_,st,fun v z=>by
   have pE:Data.fields _=Data.cell v:=z
   cases pE⟩
 keep:=fun i h h' st k=>k it (by simp) _ st
 item:=by
  intro X cV hw f7 hc i au s U H E aa aA st bb;subst cV hw f7;obtain⟨f0,f1,f2,gi,f4,hp⟩:=aA it (by simp);have W:=Walks.range (prog:=X.prog) (w:=X.w) (aa.ok.hd hc) it lo c n;refine W.item i s _ _ bb st fun v h' dQ bR hK eI=>?_;obtain⟨t,rfl⟩:=bR;have bB:Inv X au U H {s with heap:=h',toks:=dQ}:=aa.turned (fun b o ag e=>eI b o (by simpa using ag) e) f0 f1 gi f4 hp;exact⟨_,I,vV (s:={s with heap:=h',toks:=dQ}) (n:="range_iterator") hK I I (by decide) ⟨.int (lo+i*c),H,bB,⟨t,I⟩,⟨I,I⟩,hK,fun b ag=>(aA b ag).1⟩⟩
 done:=by
  intro X cV hw f7 hc i au s U H E aa aA st bb;subst cV hw f7;obtain⟨f0,f1,f2,gi,f4,hp⟩:=aA it (by simp);exact wpAny_pyNext_range_end (aa.ok.hd hc) st (by have:n<=i:=bb;lia) fun h' eG=>⟨I,aa.turned (t':=s.toks) (fun b o ag e=>eG b o ag e) f0 f1 gi f4 hp⟩
 self:=fun _ _ _ _ _ st h=>wpAny_pyIter_rangeiter st h
section
variable {X:bQ} {ep:cU}
def aeY(cD:hz):dZ:=fun U H R=>cD U H fun vs H1=>∃i j:Int,vs=[.int i,.int j,.int (-1)]/\(-(2^61)<=i/\i<2^61/\-(2^61)<=j/\j<2^61)/\R (s3 i (-1) (i-j).toNat) H1
end
section
variable {X:bQ} {ep:cU}
def ZZ{a b:Int}(aM : -(2^61)<=a)(r2:a<2^61)(ag : -(2^61)<=b)(lQ:b<2^61):de.Range.small a b (-1)=ah:=by
 unfold de.Range.small de.Range.rangeSize;simp only[de.Range.rangeFitsLong,g4,Bool.or_eq_true,kn,beq_iff_eq,show ¬((-1:Int) > 0) by decide,if_false,Int.neg_neg,Int.ediv_one];split<;>lia
def Yc(a b:Int):de.Range.rangeSize a b (-1)=(((a-b).toNat:Nat):Int):=by
 unfold de.Range.rangeSize;rw[if_neg (by decide)];simp only[Int.neg_neg,Int.ediv_one];split<;>lia
def MB{a b:cU}{p:Pos}(bb:je X "range")(hm:X.mg "range"=ax)(aM:iD X [a,b,c] cD)
  (hs:rg (en [a,b,c] X.env=[(aE,eval a X.env),(aE,eval b X.env),(aE,eval c X.env)]) w8) (ff:rg (en [b,c] X.env=[(aE,eval b X.env),(aE,eval c X.env)]) w8) :
  iE X ep (.Call (.Name "range" p) [a,b,c] [] bh) (aeY cD):=by
 intro au s U H R aa h;refine Call_ (mD aa bb hm boot_range (PyProof.Rows.callWith_type1 (dt (aM bh au s U H _ aa h) fun us s1 ⟨vs,H1,bB,cf,ck⟩=>?_) (by rw[hs,ff]) (by rw[ff];rfl)));obtain⟨i,j,e,⟨ck,b1,eS,sE⟩,q⟩:=ck;subst e;cases cf with
 | cons r ir =>
  cases ir with
  | cons eW ir =>
   cases ir with
   | cons Jw ir =>
    cases ir;obtain⟨t,rfl⟩:=r;obtain⟨t',rfl⟩:=eW;obtain⟨J2,rfl⟩:=Jw;refine call_range_3 (by decide) ?_ (.inl (PyProof.noPylong_small (by decide)));refine wpAny_pyIter_range (IsRange.new ..) (ZZ ck b1 eS sE) ?_;have cM:Inv X au U H1 {s1 with heap:=s1.heap.push {cls :=.type "range",data :=.fields #[.int i t,.int j t',.int (-1) J2]}}:=bB.kept (t':=s1.toks) fun b o e=>fV _ e;refine⟨_,[_],_,_,H1,I,cM.kept (t':=s1.toks) fun b o e=>fV _ e,L7 _ i (-1) (i-j).toNat,?_,fun b ag=>?_,q⟩
    ·have aL:i+((0:Nat):Int)*(-1)=i:=by simp
     have aS:(((i-j).toNat:Nat):Int)-((0:Nat):Int)=de.Range.rangeSize i j (-1):=by rw[Yc];simp
     show IsRangeIter _ _ (i+((0:Nat):Int)*(-1)) ((((i-j).toNat:Nat):Int)-((0:Nat):Int)) (-1);rw[aL,aS];exact hA _ I
    ·have e:=ft.mp ag;subst e;exact cM.nF (cp _) (cM.aP.fresh (cp _))
end
noncomputable def u7(x:ae):kk:=⟨fun i _=>i<x.cps.size,fun i H v H'=>H'=H/\∃c,x.cps[i]?=J c/\v=.str ⟨#[c]⟩,fun i _=>x.cps.size<=i⟩
section
variable {X:bQ} {ep:cU}
def M1{ep:cU}(x:ae)(it:af)(n:String)(t:Tok)(W:∀Ad:dU,Ad.handled=ax->Walks P w Ad it [it] [it] x.cps.size (SignAt x) (fun i h=>h.IsStrIter it n x t i))
  (aV:["enumerate","zip","dict_itemiterator","dict_reverseitemiterator","odict_iterator","itertools.zip_longest","itertools.pairwise"].contains n=aE)
  (adD:∀(A:dU)(i:Nat)(s:aR)(Q:Option av->aR->Prop)(E:av->aR->Prop),A.handled=ax->s.heap.IsStrIter it n x t i->x.cps.size<=i->(∀h',(∀b o,b≠it->s.heap.get? b=J o->h'.get? b=J o)->Q ax {s with heap:=h'})->b4 (model P w) A (pyNext (.ref it)) Q E s)
  (aeu:∀(A:dU)(i:Nat)(s:aR)(Q:av->aR->Prop)(E:av->aR->Prop),s.heap.IsStrIter it n x t i->Q (.ref it) s->b4 (model P w) A (pyIter (.ref it)) Q E s) :
  Turn P w K ep (u7 x) [it] it (fun i h=>h.IsStrIter it n x t i) where
 mem:=by simp
 obj:=fun i h st b ag=>by
  have e:b=it:=by simpa using ag
  subst e;obtain⟨o,aN,hc,hd⟩:=st;exact⟨o,aN,fun v z=>by rw[hd]at z;cases z⟩
 keep:=fun i h h' st k=>by
  obtain⟨o,aN,r⟩:=st;exact⟨o,k it (by simp) o aN,r⟩
 item:=by
  intro X cV hw f7 hc i au s U H E aa aA st bb;subst cV hw f7;obtain⟨f0,f1,f2,gi,f4,hp⟩:=aA it (by simp);refine(W X.A (aa.ok.hd hc)).item i s _ _ bb st fun v h' dQ bR hK eI=>?_;obtain⟨c,u,ml,rfl⟩:=bR;have bB:Inv X au U H {s with heap:=h',toks:=dQ}:=aa.turned (fun b o ag e=>eI b o (by simpa using ag) e) f0 f1 gi f4 hp;obtain⟨o,aN,kP,hd⟩:=id hK;exact⟨_,I,vV (s:={s with heap:=h',toks:=dQ}) (n:=n) aN kP hd aV ⟨.str ⟨#[c]⟩,H,bB,⟨u,I⟩,⟨I,c,ml,I⟩,hK,fun b ag=>(aA b ag).1⟩⟩
 done:=by
  intro X cV hw f7 hc i au s U H E aa aA st bb;subst cV hw f7;obtain⟨f0,f1,f2,gi,f4,hp⟩:=aA it (by simp);exact adD X.A i s _ _ (aa.ok.hd hc) st bb fun h' eG=>⟨I,aa.turned (t':=s.toks) (fun b o ag e=>eG b o ag e) f0 f1 gi f4 hp⟩
 self:=fun A i s Q E st h=>aeu A i s Q E st h
def I8(dT:TE):dZ:=fun U H R=>dT U H fun x H1=>∃y,x=.str y/\R (u7 y) H1
def Wv{l:cU}{dT:TE}(aB:cH X l dT):iE X ep l (I8 dT):=by
 intro au s U H R aa h;refine dt (aB au s U H _ aa h) fun v s1 cb=>?_;obtain⟨x,H1,bB,cf,ck⟩:=cb;obtain⟨y,e,q⟩:=ck;subst e;obtain⟨t,rfl⟩:=cf
 have dp:∀(o:bZ)(i9:Nat->bG->Prop),Turn X.prog X.w X.K ep (u7 y) [s1.heap.objs.size] s1.heap.objs.size i9->i9 0 (s1.heap.push o)->EY X au U ep R (.ref s1.heap.objs.size) {s1 with heap:=s1.heap.push o}:=fun o i9 T aX=>by
  refine⟨s1.heap.objs.size,[s1.heap.objs.size],i9,u7 y,H1,I,bB.kept (t':=s1.toks) fun b o e=>fV _ e,T,aX,fun b ag=>?_,q⟩;have e:=ft.mp ag;subst e;exact bB.nF (cp _) (bB.aP.fresh (cp _))
 cases aM:y.cps.all (· < 128)
 ·refine wpAny_pyIter_wide aM (dp _ _ (M1 y _ "str_iterator" t (fun Ad hF=>Walks.strWide hF _ y t) (by decide) (fun A i s Q E gG st aF fZ=>?_) fun A i s Q E st bo=>wpAny_pyIter_striter_wide st bo) ⟨_,hA _ I,I,I⟩);exact wpAny_pyNext_wide_end gG st (by simpa using aF) fun h' tM=>fZ h' fun b o ag e=>tM b o ag e
 ·refine wpAny_pyIter_ascii aM (dp _ _ (M1 y _ "str_ascii_iterator" t (fun Ad hF=>Walks.strAscii hF _ y t) (by decide) (fun A i s Q E gG st aF fZ=>?_) fun A i s Q E st bo=>wpAny_pyIter_striter_ascii st bo) ⟨_,hA _ I,I,I⟩);exact wpAny_pyNext_ascii_end gG st (by simpa using aF) fun h' tM=>fZ h' fun b o ag e=>tM b o ag e
end
noncomputable def Cg(sc:Scope)(cs:List ae):Bool :=
 sc.kind ==.function&&sc.names.all (fun y=>y.2 !=.cell)&&sc.names.all (fun y=>y.2 !=.local||sc.names.lookup y.1 == J .local) &&
  sc.names.all (fun y=>y.2 !=.free||cs.contains y.1)&&cs.all (fun x=>sc.names.lookup x == J .free)
noncomputable def sQ(X:bQ):List (Nat×ae)->Prop
 |[]=>True
 |(j,x)::r=>X.N[j]?=J x/\(X.env.kindOf x=J .cell\/X.env.kindOf x=J .free)/\sQ X r
theorem sQ.at{X:bQ}:∀{cs:List (Nat×ae)},sQ X cs->∀p∈cs,X.N[p.1]?=J p.2/\(X.env.kindOf p.2=J .cell\/X.env.kindOf p.2=J .free)
 |[],_,_,h=>nomatch h
 |(j,x)::r,⟨ai,ar,bz⟩,p,h=>by
  rcases dd.mp h with e|e
  .subst e;exact⟨ai,ar⟩
  .exact sQ.at bz p e
noncomputable def Ch(X:bQ)(dR:Scope)(cl:List (ae×af))(C:af)(N:List ae)(s2:aR)(ao:al)(cm:List af):bQ where
 prog:=X.prog
 w:=X.w
 K:=X.K
 mg:=X.mg
 zn:=X.zn
 A:=X.A
 N:=N
 eQ:=s2
 jI:=ao
 env:=compEnvC dR cl C X.env
 outer:=X.stack
 stack:=X.stack
 ex:=cm
 calm:=X.calm
 fn:=fun _=>aE
 pn:=[]
 xe:=fun _ _=>False
theorem Gr{env:Env}:∀(names:List (ae×kf)),(∀y∈names,y.2=.free->∃c,env.cells.lookup y.1=J c)->
  ∀acc:List (ae×af),(∀x c,acc.lookup x=J c->env.cells.lookup x=J c)->∃cl,
  (forIn names acc fun(x:ae×kf)r=>do
   if x.2 ==.free then pure (ForInStep.yield ((x.1,<-cellOf env x.1)::r))else pure (ForInStep.yield r):Sem (List (ae×af)))=pure cl/\
  (∀x c,cl.lookup x=J c->env.cells.lookup x=J c)/\(∀y∈names,y.2=.free->∃c,cl.lookup y.1=J c)/\∀x c,acc.lookup x=J c->∃i2,cl.lookup x=J i2
 |[],_,acc,aM=>⟨acc,rfl,aM,(fun _ h=>nomatch h),fun _ c h=>⟨c,h⟩⟩
 | (n,k)::r,aV,acc,aM=>by
  by_cases hk:k=.free
  ·subst hk;obtain⟨c,hc⟩:=aV _ eA rfl
   have r2:∀x i2,((n,c)::acc).lookup x=J i2->env.cells.lookup x=J i2:=fun x i2 e=>by
    rw[List.lookup_cons]at e;by_cases aq:x=n
    ·subst aq;rw[beq_self_eq_true]at e;cases e;exact hc
    ·rw[beq_false_of_ne aq]at e;exact aM x i2 e
   obtain⟨cl,e,ai,ar,bz⟩:=Gr r (fun y aW=>aV y (dw _ aW)) ((n,c)::acc) r2;refine⟨cl,?_,ai,fun y aW aA=>?_,fun x i2 aq=>?_⟩
   ·rw[List.forIn_cons];simp only[cellOf,hc,beq_self_eq_true,if_true];exact e
   ·rcases dd.mp aW with e'|e'
    ·subst e';exact bz n c (by rw[List.lookup_cons,beq_self_eq_true])
    .exact ar y e' aA
   ·by_cases PJ:x=n
    ·subst PJ;exact bz x c (by rw[List.lookup_cons,beq_self_eq_true])
    .exact bz x i2 (by rw[List.lookup_cons,beq_false_of_ne PJ];exact aq)
  ·obtain⟨cl,e,ai,ar,bz⟩:=Gr r (fun y aW=>aV y (dw _ aW)) acc aM;refine⟨cl,?_,ai,fun y aW aA=>?_,bz⟩
   ·rw[List.forIn_cons];have ag:(k == kf.free)=aE:=by simpa using hk
    simp only[ag,Bool.false_eq_true,if_false];exact e
   ·rcases dd.mp aW with e'|e'
    ·subst e';exact absurd aA hk
    .exact ar y e' aA
def k0(bF:kk)(g:gp)(gm:g0)(cJ:TE)(Q:bI)(ew:St)(H1:al)(D:af):Prop :=
 ∃ W:Nat->Nat->St->al->Prop,(∃m,W 0 m ew (upd H1 D (.lst [])))/\∀i m bE ao,W i m bE ao->
  (bF.stop i ao/\Q (.ref D) ao)\/
  (bF.go i ao/\∀x bp,bF.pD i ao x bp->g x bE bp fun bg gJ=>gm bg gJ fun b gZ =>
   if b=ah then cJ bg gZ fun y dm=>∃xs bU,dm D=J (.lst xs)/\xs.length<cg/\bU<m/\W (i+1) bU bg (upd dm D (.lst (xs++[y])))
   else ∃bU,bU<m/\W (i+1) bU bg gZ)
def J4(ja:dZ)(g:gp)(gm:g0)(cJ:TE)(ew:St->St):TE:=fun U H Q=>ja U H fun bF H1=>∀D,H1 D=ax->k0 bF g gm cJ Q (ew U) H1 D
def n4:g0:=fun _ H Q=>Q ah H
def vt(X:bQ)(ifs:List cU)(t:g0):Prop :=
 ∀(au:List (af×bZ))(s:aR)(U:St)(H:al)(Q:Bool->al->Prop),Inv X au U H s->t U H Q->
  b4 (model X.prog X.w) X.A (forIn ifs ah fun c r=>if r=ah then do let ok <-isTrue c X.env (eval c X.env);pure (ForInStep.yield ok)else pure (ForInStep.yield r)) (A0 X au U Q) X.xe s
def gs{X:bQ}:vt X [] n4:=fun _ _ _ H _ aa h=>wpAny_tests_nil ⟨H,aa,h⟩
def G7{X:bQ}{t:g0}(h:k4 X c t):vt X [c] t:=fun au s U H Q aa q=>wpAny_tests_one (h au s U H Q aa q)
section
variable {prog:dI} {w:dc} {A:dU} {E:av->aR->Prop} {R:Result->aR->Prop} {s:aR}
theorem Zi{elt jv:cU}{ifs:List cU}{it:av}(aa:Nat->aR->Prop)
  (turn:∀n s,aa n s->b4 (model prog w) A (pyNext it) (fun r eu=>match r with
   |none=>R (.ok .next) eu
   | some v=>b4 (model prog w) A (letOwnedTupleGo jv it v) (fun _ Si=>b4 (model prog w) A (assign jv env v) (fun _ n2 =>
     b4 (model prog w) A (forIn ifs ah fun c r=>if r=ah then do let ok <-isTrue c env (eval c env);pure (ForInStep.yield ok)else pure (ForInStep.yield r)) (fun ok uE =>
      if ok=ah then b4 (model prog w) A (eval elt env) (fun x Sj =>
       b4 (model prog w) A (call (.builtin "list.append") [acc,x]) (fun _ Sk=>∃m,m<n/\aa m Sk) (notedBy (model prog w) A env fun e br=>R (.error e) br) Sj) (notedBy (model prog w) A env fun e br=>R (.error e) br) uE
      else ∃m,m<n/\aa m uE) (notedBy (model prog w) A env fun e br=>R (.error e) br) n2) (notedBy (model prog w) A env fun e br=>R (.error e) br) Si) (notedBy (model prog w) A env fun e br=>R (.error e) br) eu) (notedBy (model prog w) A env fun e br=>R (.error e) br) s)
  (n:Nat) (h:aa n s) :
  oe (model prog w) A (.compLoop (.ListComp elt [⟨jv,iter,ifs,0⟩] dR bh) 0 it acc env) R s:=by
 refine codeAny_loop I aa (fun n s fY=>?_) n h;show b4 _ A ((compTurn (.ListComp elt [⟨jv,iter,ifs,0⟩] dR bh) 0 it acc env).onRaise (fun x=>do noteFrame x env;theTreesLotGoes x)) _ _ s;refine wpAny_noted ?_;rw[compTurn_list];refine cq (wpAny_standAt (cq (mz (turn n s fY) (fun r eu iQ=>?_) fun _ _ h'=>h')));cases r with
 |none=>exact fq iQ
 | some v =>
  refine cq (mz iQ (fun _ Si aeL=>?_) fun _ _ h'=>h');refine cq (mz aeL (fun _ n2 aeM=>cq (mz aeM (fun ok uE PK=>?_) fun _ _ h'=>h')) fun _ _ h'=>h');cases ok with
  |false=>exact fq ⟨I,PK⟩
  |true =>
   exact cq (cq (mz PK (fun x Sj aeN=>cq (mz aeN (fun _ Sk aeO=>fq (fq ⟨I,aeO⟩)) fun _ _ h'=>h')) fun _ _ h'=>h'))
end
section
variable {X:bQ} {elt jv iter:cU} {ifs:List cU} {dR:Scope} {bh p:Pos} {gv:List (Nat×ae)} {hv:List ae} {ja:dZ} {g:gp} {gm:g0} {cJ:TE}
noncomputable def pZ(hv:List ae)(gv:List (Nat×ae)):St->St:=fun U=>List.replicate hv.length ax++gv.map fun p=>(U[p.1]?).join
theorem L1{env:Env}:∀{names:List (ae×kf)}{x:ae},names.lookup x=J .free->
  ((names.map fun(n,k)=>if(k == kf.free&&env.scope.kind ==.function&&env.kindOf n == J .cell)then(n,kf.cell)else(n,k)).lookup x=J .cell\/
   (names.map fun(n,k)=>if(k == kf.free&&env.scope.kind ==.function&&env.kindOf n == J .cell)then(n,kf.cell)else(n,k)).lookup x=J .free)
 |[],_,h=>by cases h
 | (n,k)::r,x,h=>by
  rw[List.lookup_cons]at h;rw[fB];by_cases aq:x=n
  ·subst aq;rw[beq_self_eq_true]at h;cases h;dsimp only;split
   .exact .inl (by rw[List.lookup_cons,beq_self_eq_true])
   .exact .inr (by rw[List.lookup_cons,beq_self_eq_true])
  ·rw[beq_false_of_ne aq]at h;have bK:=L1 (env:=env) h;dsimp only;split<;>(rw[List.lookup_cons,beq_false_of_ne aq];exact bK)
set_option tactic.hygienic true in
theorem L2{env:Env}:∀{names:List (ae×kf)}{x:ae},((names.map fun(n,k)=>if(k == kf.free&&env.scope.kind ==.function&&env.kindOf n == J .cell)then(n,kf.cell)else(n,k)).lookup x=J .cell\/
   (names.map fun(n,k)=>if(k == kf.free&&env.scope.kind ==.function&&env.kindOf n == J .cell)then(n,kf.cell)else(n,k)).lookup x=J .free)->(∀y∈names,y.2≠.cell)->names.lookup x=J .free
 |[],_,h,_=>by rcases h with h|h<;>cases h
 | (n,k)::r,x,h,aV=>by
  rw[List.lookup_cons];by_cases aq:x=n
  ·subst aq;rw[beq_self_eq_true];have hk:=aV _ eA;rw[fB]at h;dsimp only at h;split at h
   ·rename_i c;simp only[g4,beq_iff_eq]at c;exact congrArg J c.1.1
   ·rw[List.lookup_cons,beq_self_eq_true]at h;rcases h with h|h
    .cases h;exact absurd I hk
    .exact h
  ·rw[beq_false_of_ne aq];refine L2 (env:=env) ?_ fun y aW=>aV y (dw _ aW);rw[fB]at h;dsimp only at h;split at h<;>(rw[List.lookup_cons,beq_false_of_ne aq]at h;exact h)
theorem Fj:∀{names:List (ae×kf)}{x:ae}{k:kf},names.lookup x=J k->(x,k)∈names
 |[],_,_,h=>by cases h
 | (n,gz)::r,x,k,h=>by
  rw[List.lookup_cons]at h;by_cases aq:x=n
  ·subst aq;rw[beq_self_eq_true]at h;cases h;exact eA
  ·rw[beq_false_of_ne aq]at h;exact dw _ (Fj h)
set_option maxHeartbeats 1000000
noncomputable abbrev Ea(α:Type):=List (ae×af)->af->aR->al->List af->α
end
noncomputable def lF(H:al)(a:af):cX->Prop
 |.ins _ ak _=>H ak=J (.own a)
 |.iM _ u=>lF H a u
 |_=>True
def jH(H:al):Prop:=∀a o,H a=J o->lF H a o
variable {a:af}
def lF.of(x:hM P w H h a o):lF H a o:=by
 induction o with
 |ins C ak fs=>exact x.1
 |iM eh u bK=>exact bK x.2
 |_=>trivial
def gd.closed(x:gd P w H h):jH H:=fun a o e=>lF.of (x a o e)
def lF.mono(s:∀b u,H b=J u->H' b=J u)(x:lF H a o):lF H' a o:=by
 induction o with
 |ins C ak fs=>exact s _ _ x
 |iM eh u bK=>exact bK x
 |_=>trivial
def hM.sub(x:hM P w H' h a o)(sA:lF H a o):hM P w H h a o:=by
 induction o with
 |ins C ak fs=>exact⟨sA,x.2⟩
 |iM eh u bK=>exact⟨x.1,bK x.2 sA⟩
 |lst _=>exact x
 |tup _=>exact x
 |lM _=>exact x
 |oP _=>exact x
 |set _ _=>exact x
 |own _=>exact x
 |my _=>exact x
 |met _ _=>exact x
 |zI _ _=>exact x
 |rj _=>exact x
 |ext _=>exact x
structure Sub(H lE H':al):Prop where
 le:dY lE H'
 ge:∀b o,H b=J o->∃u,lE b=J u
 cl:jH H->jH lE
def Sub.refl(h:dY H H'):Sub H H H':=⟨h,fun _ o e=>⟨o,e⟩,id⟩
def Sub.all(h:∀b o,H b=J o->∃u,H' b=J u)(c:jH H->jH H'):Sub H H' H':=⟨dY.refl _,h,c⟩
def cE(h:H p=ax):dY H (upd H p o):=fun b u q=>by rw[bC (fe q h)];exact q
def vv(c:jH H)(h:H p=ax)(aN:lF (upd H p o) p o):jH (upd H p o):=fun a u e=>by
 by_cases z:a=p
 .subst z;rw[aG]at e;cases e;exact aN
 ·rw[bC z]at e;exact(c a u e).mono (cE h)
def Sub.new(h:H p=ax)(hs:dY H H')(e:H' p=J o)(aN:lF (upd H p o) p o):Sub H (upd H p o) H' :=
 ⟨fun b u q=>by
  by_cases z:b=p
  .subst z;rw[aG]at q;cases q;exact e
  .rw[bC z]at q;exact hs b u q,fun b u q=>⟨u,cE h b u q⟩,fun c=>vv c h aN⟩
theorem Sub.ins{ak:af}{fs:List (ae×V)}(h:H p=J (.ins C ak fs))(hs:∀b u,b≠p->H b=J u->H' b=J u)(e:H' p=J (.ins C ak oT)):Sub H (upd H p (.ins C ak oT)) H' :=
 ⟨fun b u q=>by
  by_cases z:b=p
  .subst z;rw[aG]at q;cases q;exact e
  .rw[bC z]at q;exact hs b u z q,fun b u q=>by
  by_cases z:b=p
  .subst z;exact⟨_,aG⟩
  .exact⟨u,by rw[bC z];exact q⟩,fun c a u q=>by
  have hd:H ak=J (.own p):=c p _ h;have bj:ak≠p:=fun z=>by rw[z,h]at hd;cases hd
  by_cases z:a=p
  ·subst z;rw[aG]at q;cases q;show upd H a _ ak=_;rw[bC bj];exact hd
  ·rw[bC z]at q;have x:=c a u q;revert x;generalize u=o;clear q
   induction o with
   |ins akL d' Ox =>
    intro (x:H d'=J (.own a));show upd H p _ d'=_;rw[bC (fun y=>by rw[y,h]at x;cases x)];exact x
   |iM eh u bK=>intro x;exact bK x
   |_=>intro _;trivial⟩
section
variable {X:bQ} {au:List (af×bZ)} {U:St} {H H' lE:al} {s s0:aR}
def g6.sub{fs ex:List af}{ai ar:bG}(z3:g6 fs ex sX H h ai)(u:g6 fs ex sX H' h ar)(d:Sub H lE H'):g6 fs ex sX lE h ar:=by
 refine⟨u.keep,u.slot,fun b o e n aq=>?_,u.there,fun b xs e=>?_,fun b o v e=>?_,fun b aQ e=>?_⟩
 ·cases q:lE b with
  |none=>rfl
  |some v=>have:=d.le b v q;rw[u.free b o e n aq]at this;cases this
 ·obtain⟨v,bR⟩:=d.ge b _ (z3.pA b xs e);have:=d.le b v bR;rw[u.pA b xs e]at this;cases this;exact bR
 ·obtain⟨z,bR⟩:=d.ge b _ (z3.nH b o v e);have:=d.le b z bR;rw[u.nH b o v e]at this;cases this;exact bR
 ·obtain⟨m0,eV⟩:=z3.px b aQ e;obtain⟨z,bR⟩:=d.ge b _ eV;obtain⟨m,aL⟩:=u.px b aQ e;have:=d.le b z bR;rw[aL]at this;cases this;exact⟨m,bR⟩
theorem gd.sub(x:gd P w H' h)(c:jH lE)(d:dY lE H'):gd P w lE h:=fun a o e=>(x a o (d a o e)).sub (c a o e)
end
inductive kH(H H':al)(Q:al->Prop):Prop where
 |mk (lE:al) (s:Sub H lE H') (q:Q lE):kH H H' Q
def dh.keep{f:af}{sp:cv}(F:dh P w K mg zn dA k f fd aQ sp)
  (h:∀vs H Q E,zM vs H Q E->sp vs H (fun v H'=>kH H H' (Q v)) E):dh P w K mg zn dA k f fd aQ zM:=by
 refine⟨fun vs H Q E q=>F.len vs H _ E (h vs H Q E q),fun A outer s H args us vs Q E aw eV ag r q=>uO (F.run A outer s H args us vs _ E aw eV ag r (h vs H Q E q)) fun rs br c=>?_⟩;cases rs with
 |error e=>exact c
 | ok fG =>
  cases fG with
  |ret u =>
   obtain⟨v,H',os,bare,un,aP,d2,lE,d,iA⟩:=c;exact⟨v,lE,os,bare,g6.sub (g6.refl (h:=s.heap)) un d,aP.sub (d.cl eV.aP.closed) d.le,d2,iA⟩
  |next=>exact c
  |brk=>exact c
  |cont=>exact c
def dN.Qd{st:bA}{f:af}{sp:cv}(F:dN K x e7 st f fd)(S:b3 N aQ (bO st))(len:∀vs H Q E,sp vs H Q E->vs.length=aQ.length)
  (oX:∀(bw:av)(A:dU)(outer:List Env)(s:aR)(H:al)(vs:List V)(Q:bI)(E:cB),gT k (A.deeper (envOfC e7 (bO st) s.heap.objs.size f bw))->sp vs H Q E->
   ∃t,jy (oO dA P w K mg zn N e7 (bO st) f bw A outer s H E).q7 (k9 st) t/\t {nx:=fun _ H'=>kH H H' (Q .bf),rt:=fun v H'=>kH H H' (Q v)} (start N vs) H):dh P w K mg zn dA (k+1) f fd aQ sp :=
 (F.ok (sp:=fun vs H Q E=>∃qB,Q=(fun v H'=>kH H H' (qB v))/\sp vs H qB E) S (fun vs H Q E ⟨qB,_,h⟩=>len vs H qB E h) (fun bw A outer s H vs Q E aw ⟨qB,e,h⟩=>by
  subst e
  exact oX bw A outer s H vs qB E aw h)).keep fun vs H Q E h=>⟨Q,rfl,h⟩
end c7
end
variable {a L:List Bool} {m n':Nat}
section
namespace dE
noncomputable def dB(n:Nat):Nat->List Bool
 |0=>[]
 |w+1=>n.testBit w::dB n w
noncomputable def aD(n:Nat):Nat:=if n=0 then 0 else n.log2+1
def ji(n w:Nat):(dB n w).length=w:=by
 induction w with
 |zero=>rfl
 |succ w bK=>simp[dB,bK]
def pT(n:Nat):n<2^aD n:=by
 unfold aD;split
 .omega
 .exact Nat.lt_log2_self
set_option tactic.hygienic true in
def jl{w:Nat}(h:n<2^w):aD n<=w:=by
 unfold aD;split
 .omega
 ·rename_i aX;exact(Nat.log2_lt aX).mpr h
def oH(h:n≠0):0<aD n:=by unfold aD;rw[if_neg h];lia
def Hf(h:n≠0):2^(aD n-1)<=n:=by
 unfold aD;rw[if_neg h];exact Nat.log2_self_le h
def MV(h:m<=n):aD m<=aD n:=jl (Nat.lt_of_le_of_lt h (pT n))
def YP(n:Nat)(b:Bool):(2*n+b.toNat).testBit 0=b:=by
 cases b<;>simp[Nat.testBit_zero]<;>lia
def ZY(n k:Nat)(b:Bool):(2*n+b.toNat).testBit (k+1)=n.testBit k:=by
 rw[Nat.testBit_succ];congr 1;cases b<;>simp<;>lia
def Ms(n w:Nat)(b:Bool):dB (2*n+b.toNat) (w+1)=dB n w++[b]:=by
 induction w with
 |zero=>simp only[dB,List.nil_append,YP]
 |succ w bK =>
  rw[dB,bK,ZY];rfl
noncomputable def kW(a:Nat)(l:List Bool):Nat:=l.foldl (fun x b=>2*x+b.toNat) a
def akU(a:Nat):kW a []=a:=rfl
def Vx(a:Nat)(b:Bool)(l:List Bool):kW a (b::l)=kW (2*a+b.toNat) l:=rfl
def aaH(a:Nat)(l m:List Bool):kW a (l++m)=kW (kW a l) m:=by simp[kW,List.foldl_append]
def Vy(a n w:Nat):kW a (dB n w)=a*2^w+n%2^w:=by
 induction w generalizing a with
 |zero=>simp[dB,kW,Nat.mod_one]
 | succ w bK =>
  rw[dB,Vx,bK]
  have h:n%2^(w+1)=(n.testBit w).toNat*2^w+n%2^w:=by
   rw[Nat.pow_succ,Nat.mod_mul,Nat.testBit_eq_decide_div_mod_eq,Nat.add_comm,Nat.mul_comm];congr 1;have:n/2^w%2<2:=Nat.mod_lt _ (by decide);by_cases q:n/2^w%2=1
   .simp[q]
   ·have:n/2^w%2=0:=by lia
    simp[this]
  rw[h,Nat.pow_succ,Nat.add_mul];have e:2*a*2^w=a*(2^w*2):=by rw[Nat.mul_comm 2 a,Nat.mul_assoc,Nat.mul_comm 2 (2^w)]
  lia
def Lk(h:n≠0):kW 1 (dB n (aD n-1))=n:=by
 rw[Vy,Nat.one_mul];have ai:=Hf h;have ar:=pT n;have bz:=oH h;have e:2^aD n=2^(aD n-1)*2:=by rw[<-Nat.pow_succ];congr 1;lia
 have:n%2^(aD n-1)=n-2^(aD n-1):=by
  rw[Nat.mod_eq_sub_mod ai,Nat.mod_eq_of_lt (by lia)]
 lia
def Sep(a b:List Bool):Prop:=∃c x y,a=c++aE::x/\b=c++ah::y
def Sep.pre(p:List Bool){b:List Bool}(h:Sep a b):Sep (p++a) (p++b):=by
 obtain⟨c,x,y,rfl,rfl⟩:=h;exact⟨p++c,x,y,by simp,by simp⟩
def Sep.post{b:List Bool}(h:Sep a b)(u v:List Bool):Sep (a++u) (b++v):=by
 obtain⟨c,x,y,rfl,rfl⟩:=h;exact⟨c,x++u,y++v,by simp,by simp⟩
def Sep.turn{b:List Bool}(h:Sep a b):Sep (b.map (!·)) (a.map (!·)):=by
 obtain⟨c,x,y,rfl,rfl⟩:=h;exact⟨c.map (!·),y.map (!·),x.map (!·),by simp,by simp⟩
def BM{w:Nat}(h:n<n')(h':n'<2^w):Sep (dB n w) (dB n' w):=by
 induction w generalizing n n' with
 |zero=>lia
 | succ w bK =>
  have e:n=2*(n/2)+(decide (n%2=1)).toNat:=by
   by_cases q:n%2=1
   .simp[q];lia
   .simp[q];lia
  have e':n'=2*(n'/2)+(decide (n'%2=1)).toNat:=by
   by_cases q:n'%2=1
   .simp[q];lia
   .simp[q];lia
  rw[e,e',Ms,Ms];rw[Nat.pow_succ]at h';by_cases q:n/2<n'/2
  .exact(bK q (by lia)).post _ _
  ·have:n/2=n'/2:=by lia
   rw[this];have a:n%2=0:=by lia
   have b:n'%2=1:=by lia
   simp only[a,b];exact⟨_,[],[],I,I⟩
def Vw(h:i<j)(x y:List Bool):Sep (List.replicate i ah++aE::x) (List.replicate j ah++y):=by
 refine⟨List.replicate i ah,x,List.replicate (j-i-1) ah++y,I,?_⟩;have:j=i+(1+(j-i-1)):=by lia
 conv=>lhs;rw[this]
 rw[<-List.replicate_append_replicate,<-List.replicate_append_replicate];simp
noncomputable def fF(e:Nat):List Bool:=if e=8 then []else [aE]
noncomputable def cnt(n:Nat):List Bool :=
 List.replicate (aD (aD (n+1))-1) ah++(fF (aD (aD (n+1)))++(dB (aD (n+1)) (aD (aD (n+1))-1)++dB (n+1) (aD (n+1)-1)))
def NU(h:n≠0):n%2^(aD n-1)=n-2^(aD n-1):=by
 have ai:=Hf h;have ar:=pT n;have bz:=oH h;have e:2^aD n=2^(aD n-1)*2:=by rw[<-Nat.pow_succ];congr 1;lia
 rw[Nat.mod_eq_sub_mod ai,Nat.mod_eq_of_lt (by lia)]
def MW(n w:Nat):dB n w=dB (n%2^w) w:=by
 have:∀j,j<=w->dB n j=dB (n%2^w) j:=by
  intro j b0
  induction j with
  |zero=>rfl
  |succ j bK =>
   rw[dB,dB,bK (by lia),Nat.testBit_mod_two_pow];simp[show j<w by lia]
 exact this w (cp _)
def NK(aX:n≠0)(h:n<n')(e:aD n=aD n'):Sep (dB n (aD n-1)) (dB n' (aD n' - 1)):=by
 have ac7:n'≠0:=by lia
 rw[MW n,MW n',NU aX,NU ac7,<-e];have ai:=Hf aX;have ar:=pT n';rw[<-e]at ar;have bz:=oH aX;have aS:2^aD n=2^(aD n-1)*2:=by rw[<-Nat.pow_succ];congr 1;lia
 exact BM (by lia) (by lia)
def He(h:n<n')(h':n'+1<2^255):Sep (cnt n) (cnt n'):=by
 unfold cnt;have hd:aD (n'+1)<=255:=jl h';have aU:0<aD (n+1):=oH (by lia);have Pw:0<aD (n'+1):=oH (by lia);have he:aD (aD (n'+1))<=8:=jl (by lia);have fy:aD (n+1)<=aD (n'+1):=MV (by lia);have kT:aD (aD (n+1))<=aD (aD (n'+1)):=MV fy;have bo:0<aD (aD (n+1)):=oH (by lia);by_cases q:aD (aD (n+1))<aD (aD (n'+1))
 ·have c:fF (aD (aD (n+1)))=[aE]:=by unfold fF;rw[if_neg (by lia)]
  rw[c];exact Vw (by lia) _ _
 ·have iA:aD (aD (n+1))=aD (aD (n'+1)):=by lia
  by_cases r:aD (n+1)<aD (n'+1)
  ·have s:=NK (by lia) r iA;rw[<-iA]at s ⊢;exact((s.post _ _).pre _).pre _
  ·have eW:aD (n+1)=aD (n'+1):=by lia
   have s:=NK (n:=n+1) (n':=n'+1) (by lia) (by lia) eW;rw[<-eW]at s ⊢;exact((s.pre _).pre _).pre _
def xS(h:n+1<2^255):(cnt n).length<=aD (n+1)+14:=by
 unfold cnt;have hd:aD (n+1)<=255:=jl h;have he:aD (aD (n+1))<=8:=jl (by lia);have bo:0<aD (n+1):=oH (by lia);simp only[dP,List.length_replicate,ji]
 have:(fF (aD (aD (n+1)))).length<=if aD (aD (n+1))=8 then 0 else 1:=by
  unfold fF;split<;>simp
 split at this<;>lia
noncomputable def gY(n:Int):List Bool:=if n<0 then aE::(cnt (-1-n).toNat).map (!·)else ah::cnt n.toNat
def NH{n n':Int}(h:n<n')(ai : -(2^255)<n)(ar:n'<2^255-1):Sep (gY n) (gY n'):=by
 unfold gY;by_cases a:n<0
 ·by_cases b:n'<0
  ·rw[if_pos a,if_pos b];have s:=He (n:=(-1-n').toNat) (n':=(-1-n).toNat) (by lia) (by lia);exact s.turn.pre [aE]
  ·rw[if_pos a,if_neg b];exact⟨[],_,_,I,I⟩
 ·rw[if_neg a,if_neg (by lia)];have s:=He (n:=n.toNat) (n':=n'.toNat) (by lia) (by lia);exact s.pre [ah]
end dE
namespace dE
structure SQ(L:List Bool)(p n:Nat):Prop where
 ones:∀j,j<aD (aD (n+1))-1->L.getD (p+j) aE=ah
 zero:aD (aD (n+1))<8->L.getD (p+(aD (aD (n+1))-1)) aE=aE
 size:(L.drop (p+(aD (aD (n+1))-1)+(fF (aD (aD (n+1)))).length)).take (aD (aD (n+1))-1)=dB (aD (n+1)) (aD (aD (n+1))-1)
 more:(L.drop (p+(aD (aD (n+1))-1)+(fF (aD (aD (n+1)))).length+(aD (aD (n+1))-1))).take (aD (n+1)-1)=dB (n+1) (aD (n+1)-1)
 fits:p+(cnt n).length<=L.length
def N5(n:Nat):(cnt n).length=(aD (aD (n+1))-1)+(fF (aD (aD (n+1)))).length+(aD (aD (n+1))-1)+(aD (n+1)-1):=by
 unfold cnt;simp only[dP,List.length_replicate,ji];lia
def WW{p:Nat}(h:cnt n <+: L.drop p)(aU:p<=L.length):SQ L p n:=by
 obtain⟨r,e⟩:=h;have aB:=congrArg List.length e;rw[dP,ie]at aB
 have key:∀j,j<(cnt n).length->L.getD (p+j) aE=(cnt n).getD j aE:=by
  intro j b0;have:(L.drop p)[j]?=(cnt n)[j]?:=by rw[<-e,List.getElem?_append_left b0]
  rw[List.getElem?_drop]at this;rw[eJ,eJ,this]
 have cl:=N5 n;refine⟨fun j b0=>?_,fun mS=>?_,?_,?_,by lia⟩
 ·rw[key j (by lia)];unfold cnt;rw[eJ,List.getElem?_append_left (by simpa using b0),List.getElem?_replicate,if_pos b0];rfl
 ·have eE:(fF (aD (aD (n+1))))=[aE]:=by unfold fF;rw[if_neg (by lia)]
  rw[key _ (by rw[cl,eE];simp only[eb,List.length_nil];lia)];unfold cnt;rw[eE,eJ,List.getElem?_append_right (by simp)];simp
 ·have:L.drop (p+(aD (aD (n+1))-1)+(fF (aD (aD (n+1)))).length)=dB (aD (n+1)) (aD (aD (n+1))-1)++dB (n+1) (aD (n+1)-1)++r:=by
   rw[Nat.add_assoc,<-List.drop_drop,<-e];unfold cnt;rw[<-gL,<-gL,gL (List.replicate _ _++_),gL (List.replicate _ _++_)];have:(aD (aD (n+1))-1)+(fF (aD (aD (n+1)))).length=(List.replicate (aD (aD (n+1))-1) ah++fF (aD (aD (n+1)))).length:=by simp
   rw[this,List.drop_left]
  rw[this,gL,List.take_left' (ji _ _)]
 ·have:L.drop (p+(aD (aD (n+1))-1)+(fF (aD (aD (n+1)))).length+(aD (aD (n+1))-1))=dB (n+1) (aD (n+1)-1)++r:=by
   rw[Nat.add_assoc,Nat.add_assoc,<-List.drop_drop,<-e];unfold cnt;have aS:(List.replicate (aD (aD (n+1))-1) ah++(fF (aD (aD (n+1)))++(dB (aD (n+1)) (aD (aD (n+1))-1)++dB (n+1) (aD (n+1)-1))))++r=(List.replicate (aD (aD (n+1))-1) ah++fF (aD (aD (n+1)))++dB (aD (n+1)) (aD (aD (n+1))-1))++(dB (n+1) (aD (n+1)-1)++r):=by simp
   rw[aS];have:(aD (aD (n+1))-1)+((fF (aD (aD (n+1)))).length+(aD (aD (n+1))-1))=(List.replicate (aD (aD (n+1))-1) ah++fF (aD (aD (n+1)))++dB (aD (n+1)) (aD (aD (n+1))-1)).length:=by simp[ji,Nat.add_assoc]
   rw[this,List.drop_left]
  rw[this,List.take_left' (ji _ _)]
end dE
end
variable {l:List Bool}
section
namespace dE
open PySem c7
noncomputable def md(b:Bool):Nat:=if b then 49 else 48
noncomputable def aH(l:List Bool):ae:=⟨(l.map md).toArray⟩
def x7{a b:ae}(h:a.cps.toList=b.cps.toList):a=b:=by
 obtain⟨x⟩:=a;obtain⟨y⟩:=b;exact congrArg ae.mk (Array.ext' h)
def jO(l:List Bool):(aH l).cps.toList=l.map md:=by simp[aH]
def dG(l:List Bool):(aH l).length=l.length:=by simp[aH,ae.length]
def W0{a b:Bool}(h:md a=md b):a=b:=by cases a<;>cases b<;>first|rfl|(revert h;decide)
def BN{b:List Bool}(h:aH a=aH b):a=b:=by
 have:=congrArg (fun x:ae=>x.cps.toList) h;simp only[jO]at this;exact List.map_inj_right (fun _ _=>W0) |>.mp this
def j2(a b:List Bool):aH a++aH b=aH (a++b):=by
 apply x7;show((aH a).cps++(aH b).cps).toList=_;rw[Array.toList_append,jO,jO,jO,fP]
def s1:(ae.ofString "1")=aH [ah]:=⋯
def s0:(ae.ofString "0")=aH [aE]:=⋯
def uv:(ae.ofString "")=aH []:=⋯
def Uz(a b:List Bool):decide (V.str (aH a)=V.str (aH b))=decide (a=b):=by
 by_cases h:a=b
 .subst h;simp
 ·have:¬V.str (aH a)=V.str (aH b):=fun q=>h (BN (V.str.inj q));rw[fL h,fL this]
def Zf:∀ay:List ae,(Txt.join (ae.ofString "") ay).cps.toList=(ay.map (·.cps.toList)).flatten:=by
 have e:(ae.ofString "").cps=#[]:=⋯
 have key:∀(ay:List ae)(acc:Array Nat),(ay.foldl (fun acc p=>acc++(ae.ofString "").cps++p.cps) acc).toList=acc.toList++(ay.map (·.cps.toList)).flatten:=by
  intro ay
  induction ay with
  |nil=>intro acc;simp
  |cons y r bK=>intro acc;rw[List.foldl_cons,bK,e];simp
 intro ay;cases ay with
 |nil=>rfl
 |cons y r =>
  show((r.foldl (fun acc p=>acc++(ae.ofString "").cps++p.cps) y.cps)).toList=_;rw[key];simp
def rC(ls:List (List Bool)):Txt.join (ae.ofString "") (ls.map aH)=aH ls.flatten:=by
 apply x7;rw[Zf,jO,gg,List.map_flatten];exact congrArg List.flatten (nu fun l _=>jO l)
def abh(l:List Bool):(l.map fun b=>[b]).flatten=l:=by
 induction l with
 |nil=>rfl
 |cons b r bK=>rw[fB,lH,bK];rfl
def MI(l:List Bool):Txt.join (ae.ofString "") (l.map fun b=>aH [b])=aH l:=by
 have:=rC (l.map fun b=>[b]);rw[gg]at this;rw[show(fun b=>aH [b])=aH ∘ (fun b=>[b])from rfl,this];exact congrArg aH (abh l)
def B2(b:Bool)(n:Int):Txt.mul (aH [b]) n=aH (List.replicate n.toNat b):=by
 unfold Txt.mul;by_cases h:n<1
 .rw[if_pos h,show n.toNat=0 by lia];rfl
 ·rw[if_neg h];by_cases ai:n=1
  .subst ai;rfl
  ·have:(n == 1||(aH [b]).length == 0)=aE:=by simp[dG,ai]
   rw[this,if_neg (by decide)];apply x7
   have key:∀(k:Nat)(acc:Array Nat),((List.replicate k (aH [b]).cps).foldl (· ++ ·) acc).toList=acc.toList++(List.replicate k b).map md:=by
    intro k
    induction k with
    |zero=>intro acc;simp
    |succ k bK=>intro acc;rw[List.replicate_succ,List.foldl_cons,bK,List.replicate_succ];simp[aH]
   rw[jO];simpa using key n.toNat #[]
def aja(lo aF:Option Int)(n:Nat):de.Str.strSliceIndices lo aF 1 n=(List.range (du.fS n n aF-du.fS n 0 lo)).map (du.fS n 0 lo+·):=by
 unfold de.Str.strSliceIndices;rw[<-sliceRange_one];simp only[show((1:Int) > 0)=True from eq_true (by decide),if_true];congr 1
 ·cases lo with
  |none=>rfl
  |some i =>
   simp only[du.fS];by_cases h:i<0
   .simp only[h,if_true];lia
   .simp only[h,if_false];lia
 ·cases aF with
  |none=>rfl
  |some i =>
   simp only[du.fS];by_cases h:i<0
   .simp only[h,if_true];lia
   .simp only[h,if_false];lia
set_option tactic.hygienic true in
def vF(x:ae)(lo aF:Option Int):(Txt.slice x lo aF).cps.toList=(x.cps.toList.drop (du.fS x.length 0 lo)).take (du.fS x.length x.length aF-du.fS x.length 0 lo):=by
 have aB:x.cps.toList.length=x.length:=by simp[ae.length]
 have ai:=du.Qr x.length x.length (cp _) aF;have ar:=du.Qr x.length 0 (UF _) lo;unfold Txt.slice;rw[aja];split
 ·rename_i c;simp only[cA,kK,g4,beq_iff_eq]at c;have a0:du.fS x.length 0 lo=0\/x.length=0:=by lia
  rcases a0 with a0|a0
  .rw[a0,List.drop_zero,UV (by lia)]
  ·have:x.cps.toList=[]:=List.length_eq_zero_iff.mp (by lia);rw[this];simp
 .rw[pick_run]
def Gs(l:List Bool)(lo aF:Option Int):Txt.slice (aH l) lo aF=aH ((l.drop (du.fS l.length 0 lo)).take (du.fS l.length l.length aF-du.fS l.length 0 lo)):=by
 apply x7;rw[vF,jO,jO,dG,List.map_take,List.map_drop]
def yh{b:List Bool}(h:Sep a b):(aH a).cps.toList<(aH b).cps.toList:=by
 obtain⟨c,x,y,rfl,rfl⟩:=h;simp only[jO,fP,fB];refine List.append_left_lt ?_;exact List.Lex.rel (by decide)
def x1{b:Bool}(h:l[i]?=J b):(aH l).cps.toList[i]?=J (md b):=by rw[jO,eD,h];rfl
def M6(b:Bool):(⟨#[md b]⟩:ae)=aH [b]:=rfl
def Uv(b:Bool):PySem.intText? (aH [b])=J (b.toNat:Int):=by cases b<;>decide+kernel
def vP(n:Nat):de.Int.intBits ((n:Nat):Int)=aD n:=by
 unfold de.Int.intBits aD;by_cases h:n=0
 .subst h;rfl
 ·have:(((n:Nat):Int) == 0)=aE:=by simpa using h
  rw[this,if_neg (by decide),if_neg h];simp
def Uy{c:Nat}(h:(aH l).cps[i]?=J c):V.str ⟨#[c]⟩=V.str (aH [l.getD i aE]):=by
 have h':(aH l).cps.toList[i]?=J c:=by simpa using h
 rw[jO,eD]at h';rw[eJ];cases e:l[i]? with
 |none=>rw[e]at h';cases h'
 |some b =>
  rw[e]at h';have:md b=c:=gq h';rw[<-this];rfl
end dE
end
section
namespace c7
open PySem PySem.Spec PyProof.Rows
section
variable {X:bQ}
noncomputable def el:=ea.or (WC (X:=X)) Z7
def gc:ea X (lz .Sub) (m6 fun i j =>.int (i-j)):=Wy
noncomputable def lW:=ea.or (WA (X:=X)) Z6
noncomputable def iV:=ea.or (W4 (X:=X)) aaT
noncomputable def bY:=ov.or (ov.or (V1 (X:=X)) WN) WO
noncomputable def lX:=rI.or (Vt (X:=X)) Wq
def iE.or{it:cU}{ja SD:dZ}(h:iE X ep it ja)(h':iE X ep it SD):iE X ep it (fun U H R=>ja U H R\/SD U H R):=fun au s U H R aa q=>q.elim (h au s U H R aa) (h' au s U H R aa)
def h4{l:cU}{dT:TE}(aB:cH X l dT):iE X ep l (fun U H R=>I7 X.K dT U H R\/I8 dT U H R):=(VB aB).or (Wv aB)
end
def dD(K:bS)(mg:ae->Option av)(x:ae)(st:bA)(aQ:List ae)(f:af)(fd:jc):Prop:=dN K x x st f fd/\Binds K fd aQ []/\mg x=J (.ref f)
def aY(P:dI)(w:dc)(K:bS)(mg:ae->Option av)(zn:bG)(k:Nat)(x:ae)(aQ:List ae)(sp:cv):Prop :=
 ∃f fd,dh P w K mg zn dA k f fd aQ sp/\Binds K fd aQ []/\qk K (.ref f)=ah/\mg x=J (.ref f)
def gn(P:dI)(w:dc)(K:bS)(mg:ae->Option av)(zn:bG)(k:Nat)(C:af)(m:ae)(aQ:List ae)(sp:cv):Prop :=
 ∃f fd,dh P w K mg zn dA k f fd aQ sp/\Binds K fd aQ []/\vo K C m f
def j1(P:dI)(w:dc)(K:bS)(mg:ae->Option av)(zn:bG)(k:Nat)(x:ae)(C:af)(aQ:List ae)(sp:cv):Prop :=
 ∃f fd,EV K C f/\dh P w K mg zn dA k f fd aQ sp/\Binds K fd aQ []/\mg x=J (.ref C)
def hi(mg:ae->Option av)(x:ae)(v:V):Prop:=∃u,mg x=J u/\RelV v u
section
variable {X:bQ} {k gz:Nat} {x m:ae} {C:af} {aQ:List ae} {sp:cv} {e o:cU} {aZ:List cU} {t:hz} {cD:TE} {p bh apos:Pos} {v:V}
def mc(h:hi X.mg x v)(bb:rg (je X x) w8)(hd:rg ((x == ("__debug__":ae))=aE) rru):cH X (.Name x p) (lY v):=by
 obtain⟨u,ai,ar⟩:=h;exact VF bb ai ar hd
def bT(h:aY X.prog X.w X.K X.mg X.zn k x aQ sp)(aw:gT gz X.A)(aM:iD X (e::aZ) t)(hk:rg (k<=gz) rsr)(bb:rg (je X x) w8)(mV:rg ((x == ("__debug__":ae))=aE) rru)
  (he:rg (en (e::aZ) X.env=(aE,eval e X.env)::en aZ X.env) w8) (hq:rg ((backTo bh (en aZ X.env)).any (·.1)=aE) w8):cH X (.Call (.Name x p) (e::aZ) [] bh) (J3 sp [] jx t):=by
 obtain⟨f,fd,F,ag,mw,hm⟩:=h;exact VG F (aw.mono hk) bb hm mw ag .nil zE aM mV he hq
def oF{pl:Sem Bool}(h:gn X.prog X.w X.K X.mg X.zn k C m aQ sp)(c:fT X.K C)(aw:gT gz X.A)(he:cH X o cD)(aM:iD X (e::aZ) t)(hk:rg (k<=gz) rsr)
  (q1:rg (en (e::aZ) X.env=(aE,eval e X.env)::en aZ X.env) w8) (hq:rg ((backTo bh (en aZ X.env)).any (·.1)=aE) w8)
  (bc:rg (eval (.Call (.Attribute o m apos) (e::aZ) [] bh) X.env=(do
   let lp <-eval o X.env
   standAt apos.atName
   let (f,first) <-holding [lp] (getMethod lp m pl)
   callWith bh f first (backTo bh (en (e::aZ) X.env)) (backToKw bh (xn [] X.env)))) w8) :
  cH X (.Call (.Attribute o m apos) (e::aZ) [] bh) (DS C m sp [] jx cD t):=by
 obtain⟨f,fd,F,ag,hm⟩:=h;exact VD he c hm F (aw.mono hk) ag .nil zE aM q1 hq bc
def jj{pl:Sem Bool}(h:gn X.prog X.w X.K X.mg X.zn k C m aQ sp)(c:fT X.K C)(aw:gT gz X.A)(he:cH X o cD)(hk:rg (k<=gz) rsr)
  (bc:rg (eval (.Call (.Attribute o m apos) [] [] bh) X.env=(do
   let lp <-eval o X.env
   standAt apos.atName
   let (f,first) <-holding [lp] (getMethod lp m pl)
   callWith bh f first (backTo bh (en [] X.env)) (backToKw bh (xn [] X.env)))) w8) :
  cH X (.Call (.Attribute o m apos) [] [] bh) (DS C m sp [] jx cD DT):=by
 obtain⟨f,fd,F,ag,hm⟩:=h;exact UE he c hm F (aw.mono hk) ag .nil zE bc
def pM(h:j1 X.prog X.w X.K X.mg X.zn k x C aQ sp)(aw:gT gz X.A)(aM:iD X (e::aZ) t)(hk:rg (k+1<=gz) rsr)(bb:rg (je X x) w8)(mV:rg ((x == ("__debug__":ae))=aE) rru)
  (he:rg (en (e::aZ) X.env=(aE,eval e X.env)::en aZ X.env) w8) (hq:rg ((backTo bh (en aZ X.env)).any (·.1)=aE) w8):cH X (.Call (.Name x p) (e::aZ) [] bh) (So C sp [] jx t):=by
 obtain⟨f,fd,M,F,ag,hm⟩:=h;exact VE M F (aw.mono hk) bb hm ag .nil zE aM mV he hq
end
def dD.ok{st:bA}{f:af}{sp:cv}(F:dD K mg x st aQ f fd)(S:b3 N aQ (bO st))(len:∀vs H Q E,sp vs H Q E->vs.length=aQ.length)
  (oX:∀(bw:av)(A:dU)(outer:List Env)(s:aR)(H:al)(vs:List V)(Q:bI)(E:cB),gT k (A.deeper (envOfC x (bO st) s.heap.objs.size f bw))->sp vs H Q E->
   ∃t,jy (oO dA P w K mg zn N x (bO st) f bw A outer s H E).q7 (k9 st) t/\t {nx:=fun _ H'=>kH H H' (Q .bf),rt:=fun v H'=>kH H H' (Q v)} (start N vs) H):aY P w K mg zn (k+1) x aQ sp :=
 ⟨f,fd,F.1.Qd S len oX,F.2.1,F.1.mw,F.2.2⟩
section
variable {X:bQ} {e:cU} {bh:Pos}
def c6:ea X (hg .Eq) rb:=W8
def sx:ea X (hg .NotEq) Qo:=W3
def uc:ea X (hg .LtE) (m6 fun i j =>.aK (decide (i<=j))):=W5
def kz:ea X (hg .Gt) (m6 fun i j =>.aK (decide (j<i))):=W6
def Dw:ea X (hg .GtE) (m6 fun i j =>.aK (decide (j<=i))):=W7
def jG.or'{f:av}{r eW:List V->al->bI->Prop}(h:jG X f r)(h':jG X f eW):jG X f (fun xs H Q=>r xs H Q\/eW xs H Q):=fun au s U H xs us Q aa d2 q=>q.elim (h au s U H xs us Q aa d2) (h' au s U H xs us Q aa d2)
noncomputable def rD:=jG.or' (Ug (X:=X)) YM
noncomputable def i0:=jG.or' (ZR (X:=X)) Zk
def B1{cD:TE}(aM:cH X e cD):cH X (.UnaryOp .Not e bh) (fun U H Q=>cD U H fun x H'=>∃k,A2 X.K x H' k/\Q (.aK (!k)) H'):=by
 intro au s U H Q aa h;refine UnaryOp_ (dt (aM au s U H _ aa h) fun v s1 cb=>?_);obtain⟨x,H1,bB,cf,k,xf,ck⟩:=cb;exact not_of (dt (Le au s1 U H1 x v (fun b H'=>b=k/\Q (.aK (!k)) H') bB cf ⟨k,xf,I,ck⟩) fun b s2 ⟨ao,cM,e,b1⟩=>by subst e;exact⟨.aK (!b),ao,cM,I,b1⟩)
end
end c7
namespace c7
open PySem
def oN:kg "int"=J (.type "int"):=⋯
def Hq:kg "str"=J (.type "str"):=⋯
def Zip:kg "bool"=J (.type "bool"):=⋯
def oG:kg "tuple"=J (.type "tuple"):=⋯
def vO:kg "list"=J (.type "list"):=⋯
def dv:kg "len"=J (.builtin "len"):=⋯
def iH:kg "isinstance"=J (.builtin "isinstance"):=⋯
def ym:kg "min"=J (.builtin "min"):=⋯
def WY:kg "max"=J (.builtin "max"):=⋯
def WZ:kg "abs"=J (.builtin "abs"):=⋯
def Uh:kg "sorted"=J (.builtin "sorted"):=⋯
def tq:kg "all"=J (.builtin "all"):=⋯
end c7
end
variable {t:Bool} {g:c7.gp} {d:Nat} {bF:c7.kk} {cJ:c7.TE} {ew:c7.St} {dM:c7.fb}
section
namespace c7
open PySem PySem.Spec PyProof.Rows dE
def fW{a:af}{u:cX}:upd (upd H a o) a u=upd H a u:=by
 funext b;unfold upd;split<;>rfl
def G1{Q:bI}{D:af}(n:Nat)(xs g7:Nat->V)(S:St->Prop)(aV:n<=cg)(aX:S ew)
  (yU:∀i H,i<n->bF.go i H) (IX:∀H,bF.stop n H) (aW:∀i H x H',i<n->bF.pD i H x H'->H'=H/\x=xs i)
  (bc:∀i bE H1,i<n->S bE->∀R:St->V->al->Prop,(∀bg,S bg->R bg (g7 i) H1)->g (xs i) bE H1 fun bg ao=>cJ bg ao fun y bp=>R bg y bp)
  (bo:Q (.ref D) (upd H D (.lst ((List.range n).map g7)))) :
  k0 bF g n4 cJ Q ew H D:=by
 refine⟨fun i m bE ao=>i<=n/\m=n-i/\S bE/\ao=upd H D (.lst ((List.range i).map g7)),⟨n,UF _,I,aX,I⟩,?_⟩;rintro i m bE ao ⟨ai,rfl,ar,rfl⟩;rcases g5 i n with z|z
 ·refine .inr ⟨yU i _ z,fun x bp y=>?_⟩;obtain⟨rfl,rfl⟩:=aW i _ x bp z y;refine bc i bE _ z ar (fun bg y dm=>∃xs bU,dm D=J (.lst xs)/\xs.length<cg/\bU<n-i/\(i+1<=n/\bU=n-(i+1)/\S bg/\upd dm D (.lst (xs++[y]))=upd H D (.lst ((List.range (i+1)).map g7)))) fun bg eS=>?_;refine⟨_,n-(i+1),aG,?_,by lia,by lia,rfl,eS,?_⟩
  .rw[cA,kK];lia
  .rw[fW,List.range_succ,fP];rfl
 ·have e:i=n:=by lia
  subst e;exact .inl ⟨IX _,bo⟩
def aaq{c:Int}{D:Ends}(Pv:Nat->St->al->Prop)(aX:Pv 0 U H)
  (hs:∀i U H,i<n->Pv i U H->g (.int (lo+i*c)) U H fun bg ao=>dM {D with nx:=Pv (i+1),ct:=Pv (i+1),bk:=D.nx} bg ao) (hd:∀U H,Pv n U H->D.nx U H) :
  ∃W:Nat->Nat->St->al->Prop,(∃m,W 0 m U H)/\∀i m U H,W i m U H->
   ((s3 lo c n).stop i H/\D.nx U H)\/((s3 lo c n).go i H/\∃N:St->al->Prop,(∀b2 H',N b2 H'->∃bU,bU<m/\W (i+1) bU b2 H')/\∀x H',(s3 lo c n).pD i H x H'->g x U H' fun bg ao=>dM {D with nx:=N,ct:=N,bk:=D.nx} bg ao):=by
 refine⟨fun i m U H=>i<=n/\m=n-i/\Pv i U H,⟨n,UF _,I,aX⟩,?_⟩;rintro i m U H ⟨ai,rfl,ar⟩;rcases g5 i n with z|z
 ·refine .inr ⟨z,Pv (i+1),fun b2 H' q=>⟨n-(i+1),by lia,by lia,rfl,q⟩,?_⟩;rintro x H' ⟨rfl,rfl⟩;exact hs i U _ z ar
 ·have e:i=n:=by lia
  subst e;exact .inl ⟨cp _,hd U H ar⟩
end c7
namespace c7
open PySem
set_option tactic.hygienic true in
def BF{a:af}(h:H a=J o):upd H a o=H:=by
 funext b;unfold upd;split
 .rename_i e;rw[e,h]
 .rfl
end c7
namespace dE
def U4(n k:Nat):n/2^k=2*(n/2^(k+1))+(n.testBit k).toNat:=by
 rw[Nat.testBit_eq_decide_div_mod_eq,Nat.pow_succ,<-Nat.div_div_eq_div_mul];have:n/2^k%2<2:=Nat.mod_lt _ (by decide);by_cases q:n/2^k%2=1
 .simp[q];lia
 ·have:n/2^k%2=0:=by lia
  simp[this];lia
def Ui(h:j<d):(dB n d)[j]?=J (n.testBit (d-1-j)):=by
 induction d generalizing j with
 |zero=>lia
 | succ d bK =>
  cases j with
  |zero=>simp[dB]
  |succ j =>
   rw[dB,List.getElem?_cons_succ,bK (by lia)];congr 2;lia
def aaL(h:((l.drop i).take d).map (xor t)=dB n d)(b0:j<d)(aB:i+d<=l.length):∃b,l[i+j]?=J b/\xor t b=n.testBit (d-1-j):=by
 have e:=Ui (n:=n) b0;rw[<-h,eD,List.getElem?_take_of_lt b0,List.getElem?_drop]at e;cases q:l[i+j]? with
 |none=>rw[q]at e;cases e
 |some b =>
  rw[q]at e;exact⟨b,I,gq e⟩
def vK(l:List Bool):l.map (xor aE)=l:=by
 rw[show(xor aE)=(id:Bool->Bool)from funext fun b=>by cases b<;>rfl,List.map_id]
end dE
namespace c7
open PySem
def UO(K:bS)(t:av):pF K t t=J ah:=by
 unfold pF;rw[beq_self_eq_true,if_pos rfl]
end c7
namespace dE
def LO(h:a.map (!·) <+: L):a <+: L.map (!·):=by
 obtain⟨r,e⟩:=h;refine⟨r.map (!·),?_⟩;rw[<-e,fP,gg];congr 1
 conv=>lhs;rw[<-List.map_id a]
 exact nu fun b _=>(Bool.not_not b).symm
def L6(l:List Bool)(t:Bool):(l.map (xor t)).map (!·)=l.map (xor (!t)):=by
 rw[gg];exact nu fun b _=>by cases t<;>cases b<;>rfl
def Mk{n:Int}(ai : -(2^255)<n)(ar:n<2^255-1):(gY n).length<=270:=by
 have c:∀m:Nat,m+1<2^255->(cnt m).length<=269:=fun m h=>by
  have:=xS h;have:=jl h;lia
 unfold gY;split
 .rw[eb,cA];have:=c (-1-n).toNat (by lia);lia
 .rw[eb];have:=c n.toNat (by lia);lia
end dE
end
section
namespace c7
open PySem PySem.Spec PyProof.Rows
def KB(e:af)(o:Option af)(c:Option av)(d:Option af):Prop:=(o=d/\(d=ax\/c=J .none))\/(d=J e/\o=ax/\c=J .none)
def ou(h:bG)(e:af)(cls:av)(d:Option af)(T:af)(fG:av):Prop :=
 ∃ht vs lk jX,h.get? e=J ht/\ht.cls=cls/\KB e ht.dict vs[2]? d/\ht.data=.fields vs/\vs[1]?=J (.ref T)/\T≠e/\h.get? T=J lk/\lk.data=.fields jX/\jX[3]?=J fG/\True
structure E4(fs:List af)(e:af)(T:Option af)(h h':bG):Prop where
 keep:∀b o,b≠e->J b≠T->b∉fs->h.get? b=J o->h'.get? b=J o
 slot:∀b o,b≠e->J b≠T->h.get? b=J o->∃eC,h'.get? b=J {o with slots:=eC}
section
variable {M:Model} {A:dU} {E:av->aR->Prop} {s:aR} {zn:bG} {env:Env} {outer:List Env} {L e T:af} {ht:bZ} {vs:Array av} {head:av} {adr:Bool} {Q:Unit->aR->Prop} {cls:av} {d:Option af} {fG:av}
def Yk(o:bZ)(f):(o.mapFields f).dict=o.dict:=by
 obtain⟨c,d,abM,eC⟩:=o;cases abM<;>rfl
def Ot(tP:A.frames=J (env::outer))(aB:s.heap.FunFrames zn (env::outer))(aA:env.frame=J L)(he:s.heap.get? e=J ht)(hd:ht.data=.fields vs)(g9:1<vs.size)(r5:KB e ht.dict vs[2]? d)
  (h:∀h' fU,ou h' e ht.cls d fU (rawInt L)->s.heap.get? fU=ax->h'.FunFrames zn (env::outer)->E4 ((env::outer).filterMap (·.frame)) e ax s.heap h'->Q () {s with heap:=h'}) :
  b4 M A (do let a <-frameOf env;let pl <-entryPlaceOf L adr;let b <-EntryCells.newEntry head a .none (rawInt L) .none pl;setField (.ref e) 1 b) Q E s:=by
 have adL:e∉(env::outer).filterMap (·.frame):=fun hm=>by
  obtain⟨_,o,aN,j9⟩:=aB.mem hm;rw[he]at aN;injection aN with aN;subst aN;exact j9 vs hd
 refine cq (wpAny_frameOf_fun tP aB aA fun iQ y8=>?_);refine cq (wpAny_entryPlaceOf fun pl hq=>?_);unfold EntryCells.newEntry newFields;refine cq (wpAny_newObj_type ?_ (hq.sizeOk5 _ _ _ _ _));have O8:iQ.get? e=J ht:=(y8.2.1 e adL).trans he;generalize Pu:({cls :=.type "traceback",dict:=ax,data :=.fields ([head,.ref L,.none,rawInt L,.none]++(if pl.isEmpty then List.replicate 6 av.none else pl)).toArray}:bZ)=lk;have CS:=fV (h:=iQ) lk O8;refine uR CS hd g9 ?_;have mi:iQ.objs.size≠e:=Nat.ne_of_gt (e2 O8);have qU:=bZ.data_mapFields hd (·.setIfInBounds 1 (av.ref iQ.objs.size));have adJ:=bG.get?_update_self (bZ.mapFields (·.setIfInBounds 1 (av.ref iQ.objs.size))) CS (bZ.isFreed_of_fields qU)
 have Ig:((iQ.push lk).update e (bZ.mapFields (·.setIfInBounds 1 (av.ref iQ.objs.size)))).get? iQ.objs.size=J lk :=
  (bG.get?_update_other _ _ (ei mi)).trans (hA iQ (by rw[<-Pu];rfl))
 have keep:∀b o,b≠e->iQ.get? b=J o->((iQ.push lk).update e (bZ.mapFields (·.setIfInBounds 1 (av.ref iQ.objs.size)))).get? b=J o:=fun b o mU ag=>by
  rw[bG.get?_update_other _ _ (ei mU)];exact fV _ ag
 have t8:∀b o,s.heap.get? b=J o->(∀vs,o.data≠.fields vs)->b≠e:=fun b o ag j9 q=>by
  rw[q,he]at ag;injection ag with ag;subst ag;exact j9 vs hd
 refine h _ iQ.objs.size ⟨_,_,lk,_,adJ,bZ.cls_mapFields _ _,(by rw[Yk,Array.getElem?_setIfInBounds_ne (by decide)];exact r5),qU,by simp[g9],mi,Ig,by rw[<-Pu],?_,trivial⟩ ?_ (aB.of_keeps fun b o ag j9=>?_) ⟨fun b o mU _ tL ag=>keep b o mU ((y8.2.1 b tL).trans ag),fun b o mU _ ag=>?_⟩
 .first|(simp;done)|(rcases hq with rfl|⟨_,_,_,_,_,_,_,rfl⟩<;>simp)
 .exact bG.get?_none_of_le (by rw[y8.1];exact cp _)
 ·obtain⟨eC,hs⟩:=y8.2.2 b o ag;exact⟨_,keep b _ (t8 b o ag j9) hs,I⟩
 ·obtain⟨eC,hs⟩:=y8.2.2 b o ag;exact⟨eC,keep b _ mU hs⟩
def afb(aB:s.heap.FunFrames zn outer)(bc:ou s.heap e cls d T fG)
  (h:∀h',ou h' e cls d T .none->h'.FunFrames zn outer->(∀b o,b≠T->s.heap.get? b=J o->h'.get? b=J o)->Q () {s with heap:=h'}):b4 M A (setFlight (.ref e) ax) Q E s:=by
 obtain⟨ht,vs,lk,jX,he,hc,mW,hd,ai,mi,cc,iP,bz,r5⟩:=bc;have y7:3<jX.size:=(Array.getElem?_eq_some_iff.mp bz).1;unfold setFlight;refine cq (kh he hd ai ?_);rw[if_pos (show(av.ref T != av.none)=ah from by simp)];have other:∀b,b≠T->(s.heap.update T (bZ.mapFields (·.setIfInBounds 3 ((ax:Option af).elim av.none fun f=>rawInt f)))).get? b=s.heap.get? b:=fun b ag=>bG.get?_update_other _ _ (ei ag)
 have t8:∀b o,s.heap.get? b=J o->(∀vs,o.data≠.fields vs)->b≠T:=fun b o ag j9 q=>by
  rw[q,cc]at ag;injection ag with ag;subst ag;exact j9 jX iP
 refine uR cc iP y7 (h _ ⟨ht,vs,_,_,(other e (ei mi)).trans he,hc,mW,hd,ai,mi,bG.get?_update_self _ cc (bZ.isFreed_of_fields (bZ.data_mapFields iP _)),bZ.data_mapFields iP _,by simp[y7],r5⟩
  (aB.of_keeps fun b o ag j9=>⟨o,(other b (t8 b o ag j9)).trans ag,rfl⟩) fun b o ag q=>(other b ag).trans q)
def agc(tP:A.frames=J (env::outer))(aB:s.heap.FunFrames zn (env::outer))(aA:env.frame=J L)(bc:ou s.heap e cls d T .none)
  (h:∀h' fU,ou h' e cls d fU (rawInt L)->s.heap.get? fU=ax->h'.FunFrames zn (env::outer)->E4 ((env::outer).filterMap (·.frame)) e (J T) s.heap h'->Q () {s with heap:=h'}):b4 M A (noteFrame (.ref e) env) Q E s:=by
 obtain⟨ht,vs,lk,jX,he,hc,mW,hd,ai,mi,cc,iP,bz,r5⟩:=bc;unfold noteFrame;simp only[aA];refine cq (kh he hd ai ?_);rw[if_pos (show(av.ref T != av.none)=ah from by simp)];refine cq (kh cc iP bz ?_);rw[if_neg (show ¬((av.none == rawInt L)=ah)from by simp[rawInt])];refine cq (uR cc iP (Array.getElem?_eq_some_iff.mp bz).1 ?_);have other:∀b,b≠T->(s.heap.update T (bZ.mapFields (·.setIfInBounds 3 av.none))).get? b=s.heap.get? b:=fun b ag=>bG.get?_update_other _ _ (ei ag)
 have t8:∀b o,s.heap.get? b=J o->(∀vs,o.data≠.fields vs)->b≠T:=fun b o ag j9 q=>by
  rw[q,cc]at ag;injection ag with ag;subst ag;exact j9 jX iP
 have back:∀b,(s.heap.update T (bZ.mapFields (·.setIfInBounds 3 av.none))).get? b=ax->s.heap.get? b=ax:=fun b ag=>by
  by_cases z:b=T
  ·subst z;rw[bG.get?_update_self _ cc (bZ.isFreed_of_fields (bZ.data_mapFields iP _))]at ag;cases ag
  .rw[other b z]at ag;exact ag
 subst hc;refine Ot (s:={s with heap:=s.heap.update T (bZ.mapFields (·.setIfInBounds 3 av.none))}) tP (aB.of_keeps fun b o ag j9=>⟨o,(other b (t8 b o ag j9)).trans ag,I⟩) aA ((other e (ei mi)).trans he) hd (Array.getElem?_eq_some_iff.mp ai).1 mW fun h' fU kE fj z6 rm=>?_;exact h h' fU kE (back _ fj) z6 ⟨fun b o ai ar bz c0=>rm.keep b o ai (by simp) bz ((other b (fun z=>ar (by rw[z]))).trans c0),fun b o ai ar c0=>rm.slot b o ai (by simp) ((other b (fun z=>ar (by rw[z]))).trans c0)⟩
end
def Ee(P:dI)(w:dc):mA:=fun outer H s E e br=>∃a C d H' T,e=.ref a/\br.os=s.os/\AllBare br.gens/\g6 (ks outer) [] H H' s.heap br.heap/\gd P w H' br.heap/\
 ou br.heap a (.ref C) d T .none/\H' a=ax/\H' T=ax/\s.heap.get? a=ax/\s.heap.get? T=ax/\E (.ref C) d H'
def gd.there(ok:gd P w H h){a:af}(e:H a=J o):∃u,h.get? a=J u:=by
 have x:=ok a o e;cases o with
 |lst xs=>obtain⟨_,_,_,_,e⟩:=x;exact⟨_,e⟩
 |tup xs=>obtain⟨_,_,_,p⟩:=x;obtain⟨o,e,_⟩:=p;exact⟨_,e⟩
 |lM fR=>obtain⟨_,_,_,_,o,_,_,e,_⟩:=x;exact⟨_,e⟩
 |oP fR=>exact(show False from x).elim
 |set S n=>obtain⟨o,_,_,_,e,_⟩:=x;exact⟨_,e⟩
 |ins C ak fs=>obtain⟨_,_,_,e,_⟩:=x;exact⟨_,e⟩
 |own y=>exact x
 |my fs=>obtain⟨_,⟨_,_,_,e,_⟩,_⟩:=x;exact⟨_,e⟩
 |zI lo aF=>obtain⟨_,_,_,e⟩:=x;exact⟨_,e⟩
 |iM eh u=>obtain⟨e,_⟩:=x;exact⟨_,e⟩
 |rj aQ=>exact⟨_,x⟩
 |met f y=>exact⟨_,x⟩
 |ext uN=>exact x.2.1
def gd.none(ok:gd P w H h){a:af}(e:h.get? a=ax):H a=ax:=by
 cases q:H a with
 |none=>rfl
 |some o=>obtain⟨u,z⟩:=ok.there q;rw[e]at z;cases z
end c7
end
section
namespace c7
open PySem PySem.W PySem.Spec PyProof.Rows
def akc(X:bQ)(pn:List (af×bZ))(EA:St->cB)(e:av)(br:aR):Prop:=∃a C d T b2 H1 H' s1,e=.ref a/\Inv {X with pn:=pn} [] b2 H1 s1/\Inv {X with pn:=pn} [] b2 H' br/\ou br.heap a (.ref C) d T .none/\
 H' a=ax/\H' T=ax/\s1.heap.get? a=ax/\s1.heap.get? T=ax/\EA b2 (.ref C) d H'
noncomputable def bQ.akb(X:bQ)(pn:List (af×bZ))(EA:St->cB):bQ:={X with pn:=pn,xe:=akc X pn EA}
variable {X:bQ}
def bQ.Ok.agE(ok:X.Ok)(pn:List (af×bZ)):bQ.Ok {X with pn:=pn} :=
 ⟨ok.mod,ok.kind,ok.glob,ok.blt,ok.above,ok.inj,ok.has,ok.vZ,ok.hd,ok.frames,ok.zY,ok.HO,ok.bs,ok.pX,ok.wY,ok.yA,ok.mP,ok.rU⟩
def Inv.ins(aa:Inv X au U H s):Inv {X with pn:=X.pn++au} [] U H s :=
 ⟨aa.ok.agE _,aa.os,aa.bare,aa.zn,aa.loc,aa.cell,aa.free,aa.nG,fun p aU=>aa.pin p (by simpa using aU),aa.aP,aa.len⟩
def Inv.DA{Y:bQ}(ok:X.Ok)(aa:Inv {X with pn:=X.pn++au} [] U H s):Inv X au U H s :=
 ⟨ok,aa.os,aa.bare,aa.zn,aa.loc,aa.cell,aa.free,aa.nG,fun p aU=>aa.pin p (by simpa using aU),aa.aP,aa.len⟩
section
variable {X:bQ}
def Ha:ea X (lz .Mult) (rd (fun i j=>de.Int.intBits i<=2^20/\de.Int.intBits j<=2^20) fun i j =>.int (i*j)):=sz fun _ _ _ _ _ _ _ hc q=>mul_int q (IntMulOk.of_bits hc.1 hc.2)
def DC(aw:gT k A):A.units+64<cLine:=by have:=aw.un;lia
end
end c7
end
section
namespace c7
open PySem PySem.W PySem.Spec PyProof.Rows PySem.Builtin.ObjectAttr
end c7
end
section
namespace c7
open PySem PySem.W PySem.Spec PyProof.Rows
noncomputable abbrev akS:=ae->St->al->bI->Prop
end c7
end
section
namespace dE
open PySem c7
def aaz(l:List Bool)(i k:Nat)(h:i+k<=l.length):Txt.slice (aH l) (J (i:Int)) (J ((i+k:Nat):Int))=aH ((l.drop i).take k):=by
 rw[Gs,du.uw,du.uw,Nat.min_eq_left (by lia),Nat.min_eq_left (by lia),Nat.add_sub_cancel_left]
def GP(l:List Bool)(k:Nat)(h:k<=l.length):Txt.slice (aH l) ax (J (k:Int))=aH (l.take k):=by
 rw[Gs,du.uw,du.zL,Nat.min_eq_left (by lia),List.drop_zero,Nat.sub_zero]
end dE
end
variable {gm:c7.g0}
section
namespace c7
open PySem PySem.W PySem.Spec PyProof.Rows
section
variable {X:bQ}
noncomputable def zA:=ea.or (el (X:=X)) Lp
end
section
variable {X:bQ}
def Ec(i j:Int):Prop:=0<j/\(de.Int.intBits j<=9000\/de.Int.intBits i<=de.Int.intBits j+4000)
def MF{j:Int}(h:j≠0):j.natAbs.log2+1=de.Int.intBits j:=by
 unfold de.Int.intBits;rw[if_neg (by simpa using h)]
def Ec.ok{i j:Int}(h:Ec i j):de.divisionGoesByPylong i j=aE:=by
 unfold de.divisionGoesByPylong;have b0:=MF (Int.ne_of_gt h.1);have ar:=h.2;have gx:(j == 0)=aE:=by have:=h.1;simp;lia
 simp only[Bool.and_eq_false_iff,decide_eq_false_iff_not,gx,if_neg (show ¬(aE=ah)from by decide)];rcases ar with ar|ar
 .left;lia
 ·right;by_cases aF:i=0
  .subst aF;rw[if_pos (by decide)];lia
  ·have mn:=MF aF;rw[if_neg (by simpa using aF)];lia
def vI:ea X (lz .FloorDiv) (rd Ec fun i j =>.int (i/j)):=sz fun i j _ _ _ _ _ hc q=>by
 have e:i.fdiv j=i/j:=Int.fdiv_eq_ediv_of_nonneg _ (Int.le_of_lt hc.1);exact floordiv_int (by have:=hc.1;lia) (by rw[e];exact q) (.inl hc.ok)
end
noncomputable def s5(K:bS)(a:af)(xs:List V):kk:=⟨fun i H=>cZ K H a xs/\i<xs.length,fun i H x H'=>H'=H/\xs[xs.length-1-i]?=J x,fun i H=>cZ K H a xs/\xs.length<=i⟩
def Up(a it:af)(xs:List V):Turn P w K ep (s5 K a xs) [it] it (fun i h=>i<=xs.length/\h.IsRevIter it a ((xs.length:Int)-1-i)) where
 mem:=by simp
 obj:=fun i h st b ag=>by
  have e:b=it:=by simpa using ag
  subst e;obtain⟨_,o,e,c,d⟩:=st;exact⟨o,e,fun v z=>by rw[d]at z;cases z⟩
 keep:=fun i h h' st k=>⟨st.1,st.2.at fun o e=>k it (by simp) o e⟩
 item:=by
  intro X cV hw f7 hc i au s U H E aa aA st bb;subst cV hw f7;obtain⟨bo,aF⟩:=bb;obtain⟨bq,d2,p,bV⟩:=aa.list bo;have aq:xs[xs.length-1-i]?=J (xs[xs.length-1-i]'(by lia)):=cI _;obtain⟨u,cz,e1⟩:=d2.get aq;obtain⟨f0,f1,f2,gi,f4,hp⟩:=aA it (by simp);have fk:((xs.length:Int)-1-i)=((xs.length-1-i:Nat):Int):=by lia
  have iX:=st.2;rw[fk]at iX;refine wpAny_pyNext_rev_item iX p.isList (x:=u) (by simpa using cz) fun h' hK mx=>?_;have bB:Inv X au U H {s with heap:=h'}:=aa.turned (t':=s.toks) (fun b o ag e=>(mx.2 b ag).trans e) f0 f1 gi f4 hp;have gx:(((xs.length-1-i:Nat):Int)-1)=((xs.length:Int)-1-((i+1:Nat):Int)):=by lia
  rw[gx]at hK;obtain⟨o,e,c,d⟩:=id hK;exact⟨u,I,vV (s:={s with heap:=h'}) e c d (by decide) ⟨_,H,bB,e1,⟨I,aq⟩,⟨by lia,hK⟩,fun b ag=>(aA b ag).1⟩⟩
 done:=by
  intro X cV hw f7 hc i au s U H E aa aA st bb;subst cV hw f7;obtain⟨bo,aq⟩:=bb;obtain⟨f0,f1,f2,gi,f4,hp⟩:=aA it (by simp);have fk:((xs.length:Int)-1-i) = -1:=by have:=st.1;lia
  have iX:=st.2;rw[fk]at iX;exact wpAny_pyNext_rev_end (aa.ok.hd hc) iX fun h' eG=>⟨I,aa.turned (t':=s.toks) (fun b o ag e=>eG b o ag e) f0 f1 gi f4 hp⟩
 self:=fun _ _ _ _ _ st h=>wpAny_pyIter_revIter st.2 h
variable {a:af}
section
variable {X:bQ} {ep:cU}
def aeV(K:bS)(dT:TE):dZ:=fun U H R=>dT U H fun x H1=>∃a xs,x=.ref a/\cZ K H1 a xs/\R (s5 K a xs) H1
def Ww{l:cU}{dT:TE}{p:Pos}(bb:je X "reversed")(hm:X.mg "reversed"=ax)(aB:cH X l dT)(hs:rg (en [l] X.env=[(aE,eval l X.env)]) w8):iE X ep (.Call (.Name "reversed" p) [l] [] bh) (aeV X.K dT):=by
 intro au s U H R aa h;have aM:iD X [l] _:=aj aB az (hs:=hs.trans rfl);refine Call_ (mD aa bb hm boot_reversed (callWith_type1 (dt (aM bh au s U H (fun vs H1=>∃x,vs=[x]/\∃a xs,x=.ref a/\cZ X.K H1 a xs/\R (s5 X.K a xs) H1) aa ?_) fun us s1 ⟨vs,H1,bB,cf,ck⟩=>?_) (by rw[hs];rfl) I))
 ·have h':dT U H fun x H1=>∃a xs,x=.ref a/\cZ X.K H1 a xs/\R (s5 X.K a xs) H1:=h;show dT U H fun x H1=>∃y,[x]=[y]/\_;exact cast (congrArg (dT U H) (funext fun x=>funext fun H1=>propext ⟨fun q=>⟨x,I,q⟩,fun⟨y,e,q⟩=>by cases e;exact q⟩)) h'
 ·obtain⟨x,rfl,a,xs,rfl,bo,q⟩:=ck;obtain⟨u,rfl,e1⟩:=vals1 cf;obtain rfl:u=av.ref a:=e1;obtain⟨bq,d2,pl,bV⟩:=bB.list bo;have c1:=d2.length;refine call_reversed_list pl.isList ?_;have cM:Inv X au U H1 {s1 with heap:=s1.heap.push (revObj a ((bq.toArray.size:Int)-1))}:=bB.kept (t':=s1.toks) fun b o e=>fV _ e
  have DQ:(s1.heap.push (revObj a ((bq.toArray.size:Int)-1))).IsRevIter s1.heap.objs.size a ((xs.length:Int)-1-((0:Nat):Int)):=by
   have eV:((bq.toArray.size:Int)-1)=((xs.length:Int)-1-((0:Nat):Int)):=by rw[eU,<-c1];lia
   rw[eV];exact⟨_,hA _ I,I,I⟩
  refine wpAny_pyIter_revIter DQ ?_;refine⟨_,[_],_,_,H1,I,cM,Up a _ xs,⟨UF _,DQ⟩,fun b ag=>?_,q⟩;have e:=ft.mp ag;subst e;exact bB.nF (cp _) (bB.aP.fresh (cp _))
def V8{D:Ends}(Pv:Nat->St->al->Prop)(aX:Pv 0 U H)(aB:∀i U H,i<=xs.length->Pv i U H->cZ K H a xs)
  (hs:∀i x U H,i<xs.length->xs[xs.length-1-i]?=J x->Pv i U H->g x U H fun bg ao=>dM {D with nx:=Pv (i+1),ct:=Pv (i+1),bk:=D.nx} bg ao) (hd:∀U H,Pv xs.length U H->D.nx U H) :
  ∃W:Nat->Nat->St->al->Prop,(∃m,W 0 m U H)/\∀i m U H,W i m U H->
   ((s5 K a xs).stop i H/\D.nx U H)\/((s5 K a xs).go i H/\∃N:St->al->Prop,(∀b2 H',N b2 H'->∃bU,bU<m/\W (i+1) bU b2 H')/\∀x H',(s5 K a xs).pD i H x H'->g x U H' fun bg ao=>dM {D with nx:=N,ct:=N,bk:=D.nx} bg ao):=by
 refine⟨fun i m U H=>i<=xs.length/\m=xs.length-i/\Pv i U H,⟨xs.length,UF _,I,aX⟩,?_⟩;rintro i m U H ⟨ai,rfl,ar⟩;rcases g5 i xs.length with z|z
 ·refine .inr ⟨⟨aB i U H ai ar,z⟩,Pv (i+1),fun b2 H' q=>⟨xs.length-(i+1),by lia,by lia,rfl,q⟩,?_⟩;rintro x H' ⟨rfl,aq⟩;exact hs i x U _ z aq ar
 ·have e:i=xs.length:=by lia
  subst e;exact .inl ⟨⟨aB _ U H (cp _) ar,cp _⟩,hd U H ar⟩
def tj(hc:X.calm=ah):jG X (.builtin "all") (fun xs H Q=>∃a,∃bs:List Bool,xs=[.ref a]/\cZ X.K H a (bs.map .aK)/\Q (.aK (bs.all id)) H):=by
 intro au s U H xs us Q aa r h;obtain⟨a,bs,rfl,bo,q⟩:=h;obtain⟨u,rfl,e1⟩:=vals1 r;obtain rfl:u=av.ref a:=e1;obtain⟨bq,d2,pl,bV⟩:=aa.list bo;have c1:=d2.length;have hH:a<s.heap.objs.size:=by obtain⟨o,aN,_⟩:=pl.isList;exact e2 aN
 refine call_all_walkS (wpAny_pyIter_list pl.isList ?_);refine⟨s.heap.objs.size,[s.heap.objs.size,a],[s.heap.objs.size],_,bq.toArray.size,_,_,fun i=>bs.getD i aE,I,(Walks.list (A:=X.A.in1) (aa.ok.hd hc) s.heap.objs.size a (hl hH) bq.toArray).toS,⟨⟨_,hA _ I,I,I⟩,?_⟩,?_,fun br iU=>?_⟩
 .obtain⟨o,aN,r⟩:=pl.isList;exact⟨o,fV _ aN,r⟩
 ·intro i v s2 rG rz bR b1;have tW:bq[i]?=J v:=by simpa using bR
  have aF:i<bs.length:=by
   have:=(gr.mp tW).1;rw[cA]at c1;lia
  have ag:(bs.map V.aK)[i]?=J (.aK (bs.getD i aE)):=by rw[eD,cI aF,eJ,cI aF];rfl
  obtain⟨u,cz,e1⟩:=d2.get ag;rw[tW]at cz;cases cz;obtain rfl:v=av.bool (bs.getD i aE):=e1;exact Ac b1
 ·have f9:(List.range bq.toArray.size).all (fun i=>bs.getD i aE)=bs.all id:=by
   rw[eU,<-c1,cA];apply Bool.eq_iff_iff.mpr;rw[ig,ig];constructor
   ·intro h x aq;obtain⟨i,aF,rfl⟩:=List.mem_iff_getElem.mp aq;have:=h i (List.mem_range.mpr aF);rw[eJ,cI aF]at this;exact this
   ·intro h i aF;have tQ:=List.mem_range.mp aF;rw[eJ,cI tQ];exact h _ (List.getElem_mem tQ)
  rw[f9];refine⟨.aK _,H,?_,I,q⟩;have cM:Inv X au U H {s with heap:=s.heap.push {cls :=.type "list_iterator",data :=.fields #[.ref a,.int 0 0]}}:=aa.kept (t':=s.toks) fun b o e=>fV _ e;obtain⟨f0,f1,f2,gi,f4,hp⟩:=aa.nF (b:=s.heap.objs.size) (cp _) (aa.aP.fresh (cp _))
  have e:br={s with heap:=br.heap,toks:=br.toks}:=by
   obtain⟨ai,g1,hC,t1,Jp⟩:=br;have:=iU.gens;have:=iU.drawn;have:=iU.os;dsimp only at *;subst_vars;rfl
  have j0:=cM.turned (t':=br.toks) (it:=s.heap.objs.size) (h':=br.heap) (fun b o ag e=>iU.heap b o (by simpa using ag) e) f0 f1 gi f4 hp;rw[e];exact j0
end
def GK(l:List V):p0 l (J 1) ax=l.drop 1:=by
 unfold p0 du.fS;cases l with
 |nil=>rfl
 |cons a r=>simp
def abp(l:List V):p0 l ax (J (-1))=l.take (l.length-1):=by
 unfold p0 du.fS;cases l with
 |nil=>rfl
 |cons a r =>
  simp only[show((-1:Int)<0)from by decide,if_true,List.drop_zero,Nat.sub_zero];congr 1;simp only[eb];lia
def BK{Q:bI}{D:af}(f:V->V)(S:St->Prop)(bV:xs.length<=cg)(aX:S ew)(c2:H D=ax)(aB:cZ K H a xs)
  (bc:∀x,x∈xs->∀bE H1,S bE->dY H H1->∀R:St->V->al->Prop,(∀bg,S bg->R bg (f x) H1)->g x bE H1 fun bg ao=>cJ bg ao fun y bp=>R bg y bp)
  (bo:Q (.ref D) (upd H D (.lst (xs.map f)))) :
  k0 (pL K a) g n4 cJ Q ew H D:=by
 refine⟨fun i m bE ao=>i<=xs.length/\m=xs.length-i/\S bE/\ao=upd H D (.lst ((xs.take i).map f)),⟨xs.length,UF _,I,aX,I⟩,?_⟩;rintro i m bE ao ⟨ai,rfl,ar,rfl⟩;have gb:=(cE (o :=.lst ((xs.take i).map f)) c2).seq aB;rcases g5 i xs.length with z|z
 ·refine .inr ⟨⟨xs,xs[i],gb,cI z⟩,?_⟩;rintro x bp ⟨rfl,aq⟩;have aq:=aq xs gb;refine bc x (eY aq) bE _ ar (cE c2) (fun bg y dm=>∃ay bU,dm D=J (.lst ay)/\ay.length<cg/\bU<xs.length-i/\(i+1<=xs.length/\bU=xs.length-(i+1)/\S bg/\upd dm D (.lst (ay++[y]))=upd H D (.lst ((xs.take (i+1)).map f)))) fun bg eS=>?_;refine⟨_,xs.length-(i+1),aG,?_,by lia,by lia,rfl,eS,?_⟩
  .rw[cA,hN];lia
  .rw[fW,iG,aq,fP];rfl
 ·have e:i=xs.length:=by lia
  subst e;rw[List.take_length];rw[List.take_length]at gb;exact .inl ⟨⟨xs,gb,cp _⟩,bo⟩
def ZQ{Q:bI}{D:af}(keep:V->Bool)(f:V->V)(S:St->Prop)(bV:xs.length<=cg)(aX:S ew)(c2:H D=ax)(aB:cZ K H a xs)
  (bc:∀x,x∈xs->∀bE H1,S bE->dY H H1->∀(R:St->V->al->Prop)(jz:St->al->Prop),(∀bg,S bg->if keep x=ah then R bg (f x) H1 else jz bg H1)->g x bE H1 fun bg ao=>gm bg ao fun b bp=>if b=ah then cJ bg bp fun y gJ=>R bg y gJ else jz bg bp)
  (bo:Q (.ref D) (upd H D (.lst ((xs.filter keep).map f)))) :
  k0 (pL K a) g gm cJ Q ew H D:=by
 refine⟨fun i m bE ao=>i<=xs.length/\m=xs.length-i/\S bE/\ao=upd H D (.lst (((xs.take i).filter keep).map f)),⟨xs.length,UF _,I,aX,I⟩,?_⟩;rintro i m bE ao ⟨ai,rfl,ar,rfl⟩;have gb:=(cE (o :=.lst (((xs.take i).filter keep).map f)) c2).seq aB;rcases g5 i xs.length with z|z
 ·refine .inr ⟨⟨xs,xs[i],gb,cI z⟩,?_⟩;rintro x bp ⟨rfl,aq⟩;have aq:=aq xs gb
  refine bc x (eY aq) bE _ ar (cE c2) (fun bg y dm=>∃ay bU,dm D=J (.lst ay)/\ay.length<cg/\bU<xs.length-i/\(i+1<=xs.length/\bU=xs.length-(i+1)/\S bg/\upd dm D (.lst (ay++[y]))=upd H D (.lst (((xs.take (i+1)).filter keep).map f))))
   (fun bg gZ=>∃bU,bU<xs.length-i/\(i+1<=xs.length/\bU=xs.length-(i+1)/\S bg/\gZ=upd H D (.lst (((xs.take (i+1)).filter keep).map f)))) fun bg eS=>?_
  have jo:xs.take (i+1)=xs.take i++[x]:=by rw[iG,aq];rfl
  by_cases hk:keep x=ah
  ·rw[if_pos hk];refine⟨_,xs.length-(i+1),aG,?_,by lia,by lia,rfl,eS,?_⟩
   ·rw[cA];have:=List.length_filter_le keep (xs.take i);rw[hN]at this;lia
   .rw[fW,jo,List.filter_append,fP,List.filter_cons_of_pos hk];rfl
  ·rw[if_neg hk];refine⟨xs.length-(i+1),by lia,by lia,rfl,eS,?_⟩;rw[jo,List.filter_append,fP,List.filter_cons_of_neg hk];simp
 ·have e:i=xs.length:=by lia
  subst e;rw[List.take_length];rw[List.take_length]at gb;exact .inl ⟨⟨xs,gb,cp _⟩,bo⟩
end c7
end
section
namespace dE
open PySem c7
noncomputable def c8:List Int->Int×Int
 |[]=>(1,0)
 |a::r=>(a*(c8 r).1+(c8 r).2,(c8 r).1)
def Tail(r:List Int):Prop:=(∀x∈r,1<=x)/\∀h:r≠[],2<=r.getLast h
noncomputable def Good:List Int->Prop
 |[]=>False
 |_::r=>Tail r
def Tail.dT{a:Int}{r:List Int}(h:Tail (a::r)):Tail r:=by
 refine⟨fun x aq=>h.1 x (dw _ aq),fun aw=>?_⟩;have:=h.2 (lG _ _);rwa [List.getLast_cons aw]at this
theorem Tail.c8:∀{r:List Int},Tail r->0<=(c8 r).2/\(c8 r).2<(c8 r).1/\(r≠[]->0<(c8 r).2)
 |[],_=>⟨by decide,by decide,fun h=>absurd rfl h⟩
 | a::r,h=>by
  obtain⟨ai,ar,bz⟩:=h.dT.c8;have aM:=h.1 a (eA ..);show 0<=(dE.c8 r).1/\(dE.c8 r).1<a*(dE.c8 r).1+(dE.c8 r).2/\(_->0<(dE.c8 r).1);refine⟨by lia,?_,fun _=>by lia⟩;by_cases aw:r=[]
  ·subst aw;have aB:=h.2 (lG _ _);have r9:(2:Int)<=a:=aB;show(1:Int)<a*1+0;lia
  ·have:=bz aw;have hm:1*(dE.c8 r).1<=a*(dE.c8 r).1:=Int.mul_le_mul_of_nonneg_right aM (by lia);lia
noncomputable def fx(p q:Int):List Int:=if h:0<q then(p/q)::fx q (p%q)else []
termination_by q.toNat
decreasing_by
 have:=ib p h;have:=hY p (Int.ne_of_gt h);lia
def ni{p q:Int}(h:0<q):fx p q=(p/q)::fx q (p%q):=by rw[fx,dif_pos h]
def rO(p:Int):fx p 0=[]:=by rw[fx,dif_neg (by decide)]
def BY(i:Int):de.Int.intBits i=aD i.natAbs:=by
 unfold de.Int.intBits aD;by_cases h:i=0
 .subst h;rfl
 .rw[if_neg (by simpa using h),if_neg (by lia)]
theorem MM{B:Nat}:∀{s:List Int},(∀x∈s,x.natAbs<2^B)->(c8 s).1.natAbs<=2^((B+1)*s.length)/\(c8 s).2.natAbs<=2^((B+1)*s.length)
 |[],_=>⟨by rw[List.length_nil,Nat.mul_zero];decide,by rw[List.length_nil,Nat.mul_zero];decide⟩
 | a::r,h=>by
  obtain⟨ai,ar⟩:=MM (s:=r) fun x aq=>h x (dw _ aq);have aM:=h a (eA ..);have e:(B+1)*(a::r).length=(B+1)*r.length+(B+1):=by rw[eb,Nat.mul_succ]
  rw[e,Nat.pow_add];obtain⟨T,cc⟩:∃T,T=2^((B+1)*r.length):=⟨_,rfl⟩;rw[<-cc]at ai ar ⊢;have ag:1<=2^B:=Nat.one_le_two_pow;have aS:2^(B+1)=2^B*2:=Nat.pow_succ ..;rw[aS];obtain⟨b,Ij⟩:∃b,b=2^B:=⟨_,rfl⟩;rw[<-Ij]at aM ag ⊢;have gw:T*(b*2)=b*T+T*b:=by rw[<-Nat.mul_assoc,Nat.mul_two,Nat.mul_comm b T]
  have iT:T*1<=T*b:=Nat.mul_le_mul_left _ ag;constructor
  ·show(a*(c8 r).1+(c8 r).2).natAbs<=_;have z:=Int.natAbs_add_le (a*(c8 r).1) (c8 r).2;rw[Int.natAbs_mul]at z;have m:a.natAbs*(c8 r).1.natAbs<=b*T:=Nat.mul_le_mul (Nat.le_of_lt aM) ai;lia
  ·show(c8 r).1.natAbs<=_;have:0<=b*T:=UF _;lia
def N8{i:Int}(h:i.natAbs<=2^k):de.Int.intBits i<=k+1:=by
 rw[BY];refine jl ?_;rw[Nat.pow_succ];have:=Nat.two_pow_pos k;lia
def N7{i:Int}(h:i.natAbs<2^k):de.Int.intBits i<=k:=by rw[BY];exact jl h
def U5{p q:Int}{B:Nat}(h:0<q)(hs:(p/q).natAbs<2^B):de.Int.intBits p<=de.Int.intBits q+(B+1):=by
 rw[BY,BY];refine jl ?_;have e:=Int.mul_ediv_add_emod p q;have h5:=hY p (Int.ne_of_gt h);have cf:=ib p h;have z:=Int.natAbs_add_le (q*(p/q)) (p%q);rw[e,Int.natAbs_mul]at z;have bo:=pT q.natAbs;have m:q.natAbs*(p/q).natAbs<=q.natAbs*2^B:=Nat.mul_le_mul_left _ (Nat.le_of_lt hs);rw[Nat.pow_add,Nat.pow_succ];have kT:q.natAbs*2^B<=2^aD q.natAbs*2^B:=Nat.mul_le_mul_right _ (Nat.le_of_lt bo);have ag:1<=2^B:=Nat.one_le_two_pow;have PV:2^aD q.natAbs*1<=2^aD q.natAbs*2^B:=Nat.mul_le_mul_left _ ag;have gw:2^aD q.natAbs*(2^B*2)=2^aD q.natAbs*2^B+2^aD q.natAbs*2^B:=by rw[<-Nat.mul_assoc,Nat.mul_two]
 lia
noncomputable def qN(s:List Int):Bool:=if s.length<2 then decide (s.length=1)else s.tail.all (fun x=>decide (0<x))&&decide (1<s.getLastD 0)
def ML(s:List Int):qN s=ah↔Good s:=by
 unfold qN
 match s with
 |[]=>simp[Good]
 |[a]=>simp[Good,Tail]
 | a::b::r =>
  rw[if_neg (by simp)];rw[g4,ig,kn]
  have e:(a::b::r).getLastD 0=(b::r).getLast (lG _ _):=by
   rw[List.getLastD_cons,List.getLastD_eq_getLast?,List.getLast?_eq_some_getLast (lG _ _)];rfl
  rw[e];constructor
  ·rintro⟨ai,ar⟩;exact⟨fun x aq=>by have:=hX (ai x aq);lia,fun _=>by lia⟩
  ·rintro⟨ai,ar⟩;exact⟨fun x aq=>eT (by have:=ai x aq;lia),by have:=ar (lG _ _);lia⟩
def Good.ne{s:List Int}(h:Good s):s≠[]:=by intro e;subst e;exact h
end dE
end
variable {elts:List cU} {sI:Pos}
section
namespace c7
open PySem PySem.W PySem.Spec PyProof.Rows
section
variable {X:bQ} {au:List (af×bZ)} {U:St} {H:al} {s:aR} {h':bG}
def Inv.DV{a:af}(aa:Inv X au U H s)(k:∀b u,b∉ch->s.heap.get? b=J u->h'.get? b=J u)(aA:∀b∈ch,qr X au H b)(aM:s.heap.objs.size<=a)(new:hM X.prog X.w (upd H a o) h' a o):
  Inv X au U (upd H a o) {s with heap:=h',toks:=t'}:=by
 have aV:=aa.aP.fresh aM;have jT:∀b u,H b=J u->b∉ch:=fun b u e z=>by have:=(aA b z).1;rw[this]at e;cases e
 have ne:∀b u,s.heap.get? b=J u->b≠a:=fun b u e z=>by subst z;exact absurd (fK (e2 e) aM) (Nat.lt_irrefl _)
 refine aa.step (g':=s.gens) (d':=s.drawn) (ch:=ch) (fun b ag=>?_) (fun b o _ _ hc e _=>k b o hc e) (fun b o _ _ hc e _=>⟨o.slots,k b o hc e⟩) (fun b u _ e n=>by rw[bC (ne b u e)];exact n)
  (fun b o hc e=>⟨o,k b o hc e⟩) (fun b xs e=>by rw[bC (fe e aV)];exact e) (fun b u v e=>by rw[bC (fe e aV)];exact e) (fun b aQ e=>⟨#[],by rw[bC (fe e aV),e];simp⟩) (fun m hm=>?_) (fun b u e=>?_) aa.bare
 ·obtain⟨f0,f1,f2,gi,f4,hp⟩:=aA b ag;exact⟨gi,f1,f4,hp⟩
 ·obtain⟨eh,aZ,gh,aN,r⟩:=hm;exact⟨eh,aZ,gh,k _ eh (fun z=>(aA _ z).2.1 I) aN,r⟩
 ·by_cases ag:b=a
  .subst ag;rw[aG]at e;cases e;exact new
  ·rw[bC ag]at e;refine(aa.aP b u e).sH (fun c v hc q=>k c v ?_ q) (fun c q=>by rw[bC (fe q aV)];exact q) fun c xs q=>by rw[bC (fe q aV)];exact q
   rcases hc with z|z
   .rw[z];exact jT b u e
   .exact jT c _ z
def Inv.Kb(aa:Inv X au U H s)(k:∀b u,b∉ch->s.heap.get? b=J u->h'.get? b=J u)(aA:∀b∈ch,qr X au H b):Inv X au U H {s with heap:=h',toks:=t'}:=by
 have jT:∀b u,H b=J u->b∉ch:=fun b u e z=>by have:=(aA b z).1;rw[this]at e;cases e
 refine aa.step (g':=s.gens) (d':=s.drawn) (ch:=ch) (fun b ag=>?_) (fun b o _ _ hc e _=>k b o hc e) (fun b o _ _ hc e _=>⟨o.slots,k b o hc e⟩) (fun _ _ _ _ n=>n)
  (fun b o hc e=>⟨o,k b o hc e⟩) (fun _ _ e=>e) (fun _ _ _ e=>e) (fun b aQ e=>⟨#[],by rw[e];simp⟩) (fun m hm=>?_) (fun b u e=>?_) aa.bare
 ·obtain⟨f0,f1,f2,gi,f4,hp⟩:=aA b ag;exact⟨gi,f1,f4,hp⟩
 ·obtain⟨eh,aZ,gh,aN,r⟩:=hm;exact⟨eh,aZ,gh,k _ eh (fun z=>(aA _ z).2.1 I) aN,r⟩
 ·refine(aa.aP b u e).sH (fun c v hc q=>k c v ?_ q) (fun _ q=>q) fun _ _ q=>q;rcases hc with z|z
  .rw[z];exact jT b u e
  .exact jT c _ z
end
noncomputable def s4(K:bS)(a:af)(xs:List V):kk :=
 ⟨fun i H=>cZ K H a xs/\i<xs.length,fun i H x H'=>∃(T:af)(y:V),H T=ax/\xs[i]?=J y/\x=.ref T/\H'=upd H T (.tup [.int (i:Nat),y]),fun i H=>cZ K H a xs/\xs.length<=i⟩
def aaw(a e it:af)(xs:List V)(ai:e≠it)(ar:a≠e)(bz:a≠it):
  Turn P w K (.Tuple elts k bh) (s4 K a xs) [e,it] e (fun i h=>i<=xs.length/\(∃old,IsEnum h e it (i:Nat) old)/\h.IsListIter it a i) where
 mem:=by simp
 obj:=fun i h st b ag=>by
  obtain⟨_,⟨old,iX⟩,ju⟩:=st;rcases dd.mp ag with z|z
  ·subst z;exact⟨_,iX,fun v z=>by cases z⟩
  ·obtain rfl:=ft.mp z;obtain⟨o,e,c,d⟩:=ju;exact⟨o,e,fun v z=>by rw[d]at z;cases z⟩
 keep:=fun i h h' st k=>by
  obtain⟨aF,⟨old,iX⟩,ju⟩:=st;exact⟨aF,⟨old,k e (by simp) _ iX⟩,ju.at fun o e=>k it (by simp) o e⟩
 item:=by
  intro X cV hw f7 hc i au s U H E aa aA st bb;subst cV hw f7;obtain⟨bo,aF⟩:=bb;obtain⟨bq,d2,p,bV⟩:=aa.list bo;have c1:=d2.length;have W:=WalksT.enumerate (prog:=X.prog) (w:=X.w) (aa.ok.hd hc) e it a ai ar bz bq.toArray;refine W.item i s _ _ (by rw[eU];lia) ⟨st.2.1,st.2.2,p.isList⟩ fun T vals h' dQ bR cc I0 mid eI=>?_;refine⟨_,I,W.go elts k bh i T _ _ _ mid fun H0 hK zk=>?_⟩;obtain⟨t,u,cz,rfl⟩:=bR;have aeB:bq[i]?=J u:=by simpa using cz
  have aW:xs[i]?=J (xs[i]'aF):=cI aF;obtain⟨dW,q4,e1⟩:=d2.get aW;rw[aeB]at q4;cases q4;have yL:=aa.aP.fresh cc;have lj:T∉[e,it]:=W.apart i T h' mid;refine⟨.ref T,upd H T (.tup [.int (i:Nat),xs[i]'aF]),?_,I,⟨T,_,yL,aW,I,I⟩,⟨by lia,hK.1,hK.2.1⟩,fun b ag=>?_⟩
  ·refine aa.DV (ch:=[e,it]) (t':=dQ) (fun b o ag eG=>zk b o ag (eI b o ag eG)) aA cc ?_;refine⟨by show 2<=cg;decide,[av.int (i:Nat) t,u],.cons ⟨t,rfl⟩ (.cons e1 .nil),?_⟩;obtain⟨o,aN,r⟩:=I0;exact⟨o,zk T o lj aN,r⟩
  ·have:=(aA b ag).1;rw[bC]
   .exact this
   .intro z;subst z;exact lj ag
 done:=by
  intro X cV hw f7 hc i au s U H E aa aA st bb;subst cV hw f7;obtain⟨bo,aF⟩:=bb;obtain⟨bq,d2,p,bV⟩:=aa.list bo;have c1:=d2.length;have W:=WalksT.enumerate (prog:=X.prog) (w:=X.w) (aa.ok.hd hc) e it a ai ar bz bq.toArray;have fk:i=bq.toArray.size:=by rw[eU];have:=st.1;lia
  subst fk;exact W.done s _ _ ⟨st.2.1,st.2.2,p.isList⟩ fun h' dQ eI=>⟨I,aa.Kb (t':=dQ) eI aA⟩
 self:=fun A i s Q E st h=>by
  obtain⟨_,⟨old,iX⟩,_⟩:=st;exact wpAny_pyIter_enum iX h
section
variable {X:bQ}
def aeU(K:bS)(dT:TE):dZ:=fun U H R=>dT U H fun x H1=>∃a xs,x=.ref a/\cZ K H1 a xs/\R (s4 K a xs) H1
def VC{l:cU}{dT:TE}{p:Pos}(bb:je X "enumerate")(hm:X.mg "enumerate"=ax)(aB:cH X l dT)(hs:rg (en [l] X.env=[(aE,eval l X.env)]) w8):iE X (.Tuple elts k sI) (.Call (.Name "enumerate" p) [l] [] bh) (aeU X.K dT):=by
 intro au s U H R aa h;have aM:iD X [l] _:=aj aB az (hs:=hs.trans rfl);refine Call_ (mD aa bb hm boot_enumerate (callWith_type1 (dt (aM bh au s U H (fun vs H1=>∃x,vs=[x]/\∃a xs,x=.ref a/\cZ X.K H1 a xs/\R (s4 X.K a xs) H1) aa ?_) fun us s1 ⟨vs,H1,bB,cf,ck⟩=>?_) (by rw[hs];rfl) I))
 ·have h':dT U H fun x H1=>∃a xs,x=.ref a/\cZ X.K H1 a xs/\R (s4 X.K a xs) H1:=h;show dT U H fun x H1=>∃y,[x]=[y]/\_;exact cast (congrArg (dT U H) (funext fun x=>funext fun H1=>propext ⟨fun q=>⟨x,I,q⟩,fun⟨y,e,q⟩=>by cases e;exact q⟩)) h'
 ·obtain⟨x,rfl,a,xs,rfl,bo,q⟩:=ck;obtain⟨u,rfl,e1⟩:=vals1 cf;obtain rfl:u=av.ref a:=e1;obtain⟨bq,d2,pl,bV⟩:=bB.list bo;have hH:a<s1.heap.objs.size:=by obtain⟨o,aN,_⟩:=pl.isList;exact e2 aN
  refine call_enumerate_list pl.isList fun h' he aF g9 eI=>?_;have cM:Inv X au U H1 {s1 with heap:=h'}:=bB.kept (t':=s1.toks) eI;refine wpAny_pyIter_enum he ?_;refine⟨_,[s1.heap.objs.size+1,s1.heap.objs.size],_,_,H1,I,cM,aaw a _ _ xs (Nat.succ_ne_self _) (hl (Nat.lt_succ_of_lt hH)) (hl hH),⟨UF _,⟨_,he⟩,aF⟩,fun b ag=>?_,q⟩;rcases dd.mp ag with z|z
  .subst z;exact bB.nF (by lia) (bB.aP.fresh (by lia))
  ·obtain rfl:=ft.mp z;exact bB.nF (cp _) (bB.aP.fresh (cp _))
def UX{a:af}{D:Ends}(Pv:Nat->St->al->Prop)(aX:Pv 0 U H)(aB:∀i U H,i<=xs.length->Pv i U H->cZ K H a xs)
  (hs:∀i x U H T,xs[i]?=J x->H T=ax->Pv i U H->g (.ref T) U (upd H T (.tup [.int (i:Nat),x])) fun bg ao=>dM {D with nx:=Pv (i+1),ct:=Pv (i+1),bk:=D.nx} bg ao) (hd:∀U H,Pv xs.length U H->D.nx U H) :
  ∃W:Nat->Nat->St->al->Prop,(∃m,W 0 m U H)/\∀i m U H,W i m U H->
   ((s4 K a xs).stop i H/\D.nx U H)\/((s4 K a xs).go i H/\∃N:St->al->Prop,(∀b2 H',N b2 H'->∃bU,bU<m/\W (i+1) bU b2 H')/\∀x H',(s4 K a xs).pD i H x H'->g x U H' fun bg ao=>dM {D with nx:=N,ct:=N,bk:=D.nx} bg ao):=by
 refine⟨fun i m U H=>i<=xs.length/\m=xs.length-i/\Pv i U H,⟨xs.length,UF _,I,aX⟩,?_⟩;rintro i m U H ⟨ai,rfl,ar⟩;rcases g5 i xs.length with z|z
 ·refine .inr ⟨⟨aB i U H ai ar,z⟩,Pv (i+1),fun b2 H' q=>⟨xs.length-(i+1),by lia,by lia,rfl,q⟩,?_⟩;rintro x H' ⟨T,y,cc,aW,rfl,rfl⟩;exact hs i y U H T aW cc ar
 ·have e:i=xs.length:=by lia
  subst e;exact .inl ⟨⟨aB _ U H (cp _) ar,cp _⟩,hd U H ar⟩
end
end c7
end
section
namespace dE
open PySem c7
noncomputable def more:List Int->List Bool
 |[]=>[aE]
 |b::r=>ah::(cnt (b-1).toNat++more r).map (!·)
noncomputable def jP:List Int->List Bool
 |[]=>[]
 |a::r=>gY a++more r
noncomputable def odd(k:Nat):Bool:=decide (k%2=1)
def BO(k:Nat):odd (k+1)=!odd k:=by
 unfold odd;have h:k%2=0\/k%2=1:=by lia
 rcases h with h|h
 ·have:(k+1)%2=1:=by lia
  simp[h,this]
 ·have:(k+1)%2=0:=by lia
  simp[h,this]
noncomputable def iz(k:Nat)(x:Int)(last:Bool):List Bool:=((if k=0 then gY x else cnt (x-1).toNat)++[!last]).map (xor (odd k))
noncomputable def hu:Nat->List Int->List (List Bool)
 |_,[]=>[]
 |k,x::r=>iz k x r.isEmpty::hu (k+1) r
def Gn(k:Nat)(s:List Int):(hu k s).length=s.length:=by
 induction s generalizing k with
 |nil=>rfl
 |cons x r bK=>simp only[hu,eb,bK]
def NO{s:List Int}{x:Int}(h:s[i]?=J x):(hu k s)[i]?=J (iz (k+i) x (decide (i+1=s.length))):=by
 induction s generalizing k i with
 |nil=>cases h
 | cons y r bK =>
  cases i with
  |zero =>
   cases h;show J (iz k x r.isEmpty)=_;congr 2;cases r<;>simp
  |succ i =>
   have h':r[i]?=J x:=h;have:=bK (k:=k+1) h';show(hu (k+1) r)[i]?=_;rw[this];congr 2
   .omega
   .simp
def Un(l:List Bool)(t:Bool):(l.map (!·)).map (xor t)=l.map (xor (!t)):=by
 rw[gg];exact nu fun b _=>by cases t<;>cases b<;>rfl
def UG(hk:k≠0)(b:Int)(r:List Int):(hu k (b::r)).flatten=(cnt (b-1).toNat++more r).map (xor (odd k)):=by
 induction r generalizing k b with
 |nil =>
  show(iz k b ah++[])=_;rw[List.append_nil];unfold iz;rw[if_neg hk];rfl
 |cons c r bK =>
  show iz k b aE++(hu (k+1) (c::r)).flatten=_;rw[bK (by lia) c];unfold iz;rw[if_neg hk,BO,more,<-Un,<-fP,gL];rfl
def VH(a:Int)(r:List Int):(hu 0 (a::r)).flatten=jP (a::r):=by
 have eV:∀l:List Bool,l.map (xor (odd 0))=l:=fun l=>vK l;cases r with
 |nil =>
  show(iz 0 a ah++[])=_;rw[List.append_nil];unfold iz;rw[if_pos rfl,eV];rfl
 |cons b r =>
  show iz 0 a aE++(hu 1 (b::r)).flatten=_;rw[UG (by decide)];unfold iz;rw[if_pos rfl,eV];show _=gY a++(ah::(cnt (b-1).toNat++more r).map (!·));rw[gL];congr 1;show ah::List.map (xor (odd 1)) _=ah::_;congr 1;exact nu fun b _=>by cases b<;>rfl
noncomputable def e3(p q:Int):Int:=if h:0<q then e3 q (p%q)else p
termination_by q.toNat
decreasing_by
 have:=ib p h;have:=hY p (Int.ne_of_gt h);lia
def Ca{p q:Int}(h:0<q):e3 p q=e3 q (p%q):=by rw[e3,dif_pos h]
def yf(p:Int):e3 p 0=p:=by rw[e3,dif_neg (by decide)]
end dE
namespace c7
open PySem PySem.Spec PyProof.Rows
def Sub.trans'{X:al}(a:Sub H H1 X)(b:Sub H1 ao H'):Sub H ao H' :=
 ⟨b.le,fun c o e=>let ⟨u,cz⟩:=a.ge c o e;b.ge c u cz,fun z=>b.cl (a.cl z)⟩
def Sub.I9{ak r:af}{fs:List (ae×V)}(h:H p=J (.ins C ak fs))(aw:H r=ax)(hs:∀b u,b≠p->H b=J u->H' b=J u)(e:H' p=J (.ins C ak oT))(hQ:H' r=J o)(aN:lF (upd (upd H p (.ins C ak oT)) r o) r o):
  Sub H (upd (upd H p (.ins C ak oT)) r o) H':=by
 have aem:r≠p:=fun z=>by rw[z,h]at aw;cases aw
 refine Sub.trans' (Sub.ins h hs e) (.new (by rw[bC aem];exact aw) (fun b u q=>?_) hQ aN);by_cases z:b=p
 .subst z;rw[aG]at q;cases q;exact e
 .rw[bC z]at q;exact hs b u z q
end c7
end
section
namespace dE
open PySem c7
def pJ(s t:List Int):Prop:=(c8 s).1*(c8 t).2<(c8 t).1*(c8 s).2
variable {a:Int} {r u:List Int}
def Nz{b:Int}(aw:Tail r)(cz:Tail u)(h:a<b):pJ (a::r) (b::u):=by
 obtain⟨akn,SG,_⟩:=aw.c8;obtain⟨ako,al6,_⟩:=cz.c8;show(a*(c8 r).1+(c8 r).2)*(c8 u).1<(b*(c8 u).1+(c8 u).2)*(c8 r).1;generalize (c8 r).1=x at *;generalize (c8 r).2=y at *;generalize (c8 u).1=fJ at *;generalize (c8 u).2=jb at *;have aq:0<x:=by lia
 have PH:0<fJ:=by lia
 have iT:(a+1)*(x*fJ)<=b*(x*fJ):=Int.mul_le_mul_of_nonneg_right (by lia) (Int.le_of_lt (Int.mul_pos aq PH));have jS:y*fJ<x*fJ:=Int.mul_lt_mul_of_pos_right SG PH;have sj:0<=jb*x:=Int.mul_nonneg ako (Int.le_of_lt aq);have aL:(a*x+y)*fJ=a*(x*fJ)+y*fJ:=by rw[Int.add_mul,Int.mul_assoc]
 have aS:(b*fJ+jb)*x=b*(x*fJ)+jb*x:=by rw[Int.add_mul,Int.mul_assoc,Int.mul_comm fJ x]
 have gw:(a+1)*(x*fJ)=a*(x*fJ)+x*fJ:=by rw[Int.add_mul,Int.one_mul]
 rw[aL,aS];rw[gw]at iT;lia
def Oj:pJ (a::r) (a::u)↔pJ u r:=by
 show(a*(c8 r).1+(c8 r).2)*(c8 u).1<(a*(c8 u).1+(c8 u).2)*(c8 r).1↔(c8 u).1*(c8 r).2<(c8 r).1*(c8 u).2;generalize (c8 r).1=x;generalize (c8 r).2=y;generalize (c8 u).1=fJ;generalize (c8 u).2=jb;have aL:(a*x+y)*fJ=a*(x*fJ)+fJ*y:=by rw[Int.add_mul,Int.mul_assoc,Int.mul_comm y]
 have aS:(a*fJ+jb)*x=a*(x*fJ)+x*jb:=by rw[Int.add_mul,Int.mul_assoc,Int.mul_comm fJ x,Int.mul_comm jb]
 rw[aL,aS];lia
def MS(cz:Tail u):¬pJ [] u:=by
 obtain⟨akn,SG,_⟩:=cz.c8;show ¬(1*(c8 u).2<(c8 u).1*0);lia
def sZ(r:List Int):Prop:=∀x∈r,1<=x/\x<2^255
noncomputable def z1:List Int->List Bool
 |[]=>[]
 |c::r=>cnt (c-1).toNat++more r
def BJ(c:Int)(r:List Int):more (c::r)=ah::(z1 (c::r)).map (!·):=rfl
def aax:∀(n:Nat){s t:List Int},s.length+t.length<=n->Tail s->Tail t->sZ s->sZ t->s≠[]->t≠[]->pJ s t->Sep (z1 s) (z1 t):=by
 intro n
 induction n with
 |zero =>
  intro s t aV _ _ _ _ ai _ _;exact absurd (List.eq_nil_of_length_eq_zero (by lia)) ai
 | succ n bK =>
  intro s t aV hs bc is it ai ar h;obtain⟨a,r,rfl⟩:=List.exists_cons_of_ne_nil ai;obtain⟨b,u,rfl⟩:=List.exists_cons_of_ne_nil ar;have aM:=is a (eA ..);have ag:=it b (eA ..);rcases Int.lt_trichotomy a b with c|c|c
  .exact(He (n:=(a-1).toNat) (n':=(b-1).toNat) (by lia) (by lia)).post _ _
  ·subst c;have h':=Oj.mp h;refine Sep.pre _ ?_;have aw:=hs.dT;have cz:=bc.dT;cases u with
   |nil=>exact absurd h' (MS aw)
   | cons d u =>
    cases r with
    |nil=>exact⟨[],[],_,I,I⟩
    |cons c r =>
     rw[BJ,BJ];exact Sep.pre [ah] (Sep.turn (bK (by simp only[eb]at aV ⊢;lia) cz aw (fun x aq=>it x (dw _ aq)) (fun x aq=>is x (dw _ aq)) (lG _ _) (lG _ _) h'))
  ·have:=Nz bc.dT hs.dT c;unfold pJ at h this;lia
def Uq{s t:List Int}(hs:Tail s)(bc:Tail t)(is:sZ s)(it:sZ t)(ai:s≠[])(ar:t≠[])(h:pJ s t):Sep (z1 s) (z1 t):=aax _ (cp _) hs bc is it ai ar h
def UU{b:Int}(aw:Tail r)(cz:Tail u)(aM : -(2^255)<a/\a<2^255-1)(ag : -(2^255)<b/\b<2^255-1)(zd:sZ r)(zf:sZ u)(h:pJ (a::r) (b::u)):Sep (jP (a::r)) (jP (b::u)):=by
 rcases Int.lt_trichotomy a b with c|c|c
 .exact(NH c aM.1 ag.2).post _ _
 ·subst c;have h':=Oj.mp h;refine Sep.pre _ ?_
  match r,u,h',aw,cz,zd,zf with
  |r,[],h',aw,cz,zd,zf=>exact absurd h' (MS aw)
  |[],d::u,h',aw,cz,zd,zf=>exact⟨[],[],_,I,I⟩
  |c::r,d::u,h',aw,cz,zd,zf =>
   rw[BJ,BJ];exact Sep.pre [ah] (Sep.turn (Uq cz aw zf zd (lG _ _) (lG _ _) h'))
 ·have:=Nz cz aw c;unfold pJ at h this;lia
end dE
end
section
namespace c7
open PySem PySem.W PySem.Spec PyProof.Rows
def xR{a:af}{Q:bI}{D:af}(g7:Nat->V)(S:St->Prop)(bV:xs.length<=cg)(aX:S ew)(c2:H D=ax)(aB:cZ K H a xs)
  (bc:∀i x,xs[i]?=J x->∀bE H1,S bE->dY H H1->∀R:St->V->al->Prop,(∀bg,S bg->R bg (g7 i) H1)->g x bE H1 fun bg ao=>cJ bg ao fun y bp=>R bg y bp)
  (bo:Q (.ref D) (upd H D (.lst ((List.range xs.length).map g7)))) :
  k0 (pL K a) g n4 cJ Q ew H D:=by
 refine⟨fun i m bE ao=>i<=xs.length/\m=xs.length-i/\S bE/\ao=upd H D (.lst ((List.range i).map g7)),⟨xs.length,UF _,I,aX,I⟩,?_⟩;rintro i m bE ao ⟨ai,rfl,ar,rfl⟩;have gb:=(cE (o :=.lst ((List.range i).map g7)) c2).seq aB;rcases g5 i xs.length with z|z
 ·refine .inr ⟨⟨xs,xs[i],gb,cI z⟩,?_⟩;rintro x bp ⟨rfl,aq⟩;have aq:=aq xs gb;refine bc i x aq bE _ ar (cE c2) (fun bg y dm=>∃ay bU,dm D=J (.lst ay)/\ay.length<cg/\bU<xs.length-i/\(i+1<=xs.length/\bU=xs.length-(i+1)/\S bg/\upd dm D (.lst (ay++[y]))=upd H D (.lst ((List.range (i+1)).map g7)))) fun bg eS=>?_;refine⟨_,xs.length-(i+1),aG,by rw[cA,kK];lia,by lia,by lia,rfl,eS,?_⟩;rw[fW,List.range_succ,fP];rfl
 ·have e:i=xs.length:=by lia
  subst e;exact .inl ⟨⟨xs,gb,cp _⟩,bo⟩
end c7
end
section
namespace dE
open PySem c7
noncomputable def mp:List Int->List Bool
 |[]=>[]
 |b::r=>ah::(cnt (b-1).toNat++mp r).map (!·)
def Lt(a b:List Bool):Prop:=(aH a).cps.toList<(aH b).cps.toList
noncomputable instance (a b:List Bool):Decidable (Lt a b):=inferInstanceAs (Decidable (_<_))
def WI(a:List Bool):¬Lt a []:=by
 unfold Lt;rw[jO,jO];exact List.not_lt_nil _
def Lr(y:Bool)(b:List Bool):Lt [] (y::b):=by
 unfold Lt;rw[jO,jO];exact List.nil_lt_cons _ _
def Hx{x y:Bool}{b:List Bool}:Lt (x::a) (y::b)↔(x=aE/\y=ah)\/(x=y/\Lt a b):=by
 unfold Lt;rw[jO,jO,jO,jO,fB,fB,List.cons_lt_cons_iff];cases x<;>cases y<;>simp[md]
def Ly{b c:List Bool}(h:Lt a b)(ar:Lt b c):Lt a c:=List.lt_trans h ar
def Hm(a b:List Bool):Lt a b\/a=b\/Lt b a:=by
 induction a generalizing b with
 |nil=>cases b with
  |nil=>exact .inr (.inl I)
  |cons y b=>exact .inl (Lr y b)
 | cons x a bK=>cases b with
  |nil=>exact .inr (.inr (Lr x a))
  |cons y b =>
   rw[Hx,Hx];rcases bK b with h|h|h
   .cases x<;>cases y<;>simp[h]
   .subst h;cases x<;>cases y<;>simp
   .cases x<;>cases y<;>simp[h]
noncomputable def eO:List Bool->List Bool->Nat
 |x::a,y::b=>if x=y then eO a b+1 else 0
 |_,_=>0
set_option tactic.hygienic true in
def WV{b:List Bool}:∀{m:Nat},m<eO a b->∃x,a[m]?=J x/\b[m]?=J x:=by
 induction a generalizing b with
 |nil=>intro m h;exact absurd h (by cases b<;>exact Nat.not_lt_zero _)
 | cons x a bK =>
  cases b with
  |nil=>intro m h;exact absurd h (Nat.not_lt_zero _)
  | cons y b =>
   intro m h;unfold eO at h;split at h
   ·rename_i e;subst e;cases m with
    |zero=>exact⟨x,I,I⟩
    |succ m=>exact bK (b:=b) (by lia)
   .exact absurd h (Nat.not_lt_zero _)
def yl{b:List Bool}:eO a b<=a.length/\eO a b<=b.length:=by
 induction a generalizing b with
 |nil=>cases b<;>exact⟨UF _,UF _⟩
 | cons x a bK =>
  cases b with
  |nil=>exact⟨UF _,UF _⟩
  |cons y b =>
   unfold eO;split
   .exact⟨Nat.succ_le_succ bK.1,Nat.succ_le_succ bK.2⟩
   .exact⟨UF _,UF _⟩
set_option tactic.hygienic true in
def We(a b:List Bool):eO a b=a.length\/eO a b=b.length\/∃x y,a[eO a b]?=J x/\b[eO a b]?=J y/\x≠y:=by
 induction a generalizing b with
 |nil=>left;cases b<;>rfl
 | cons x a bK =>
  cases b with
  |nil=>right;left;rfl
  | cons y b =>
   unfold eO;split
   ·rcases bK b with h|h|⟨u,v,ai,ar,bz⟩
    .left;rw[h];rfl
    .right;left;rw[h];rfl
    .right;right;exact⟨u,v,ai,ar,bz⟩
   ·rename_i e;exact .inr (.inr ⟨x,y,I,I,e⟩)
set_option tactic.hygienic true in
def U6(a b:List Bool):a.take (eO a b)=b.take (eO a b):=by
 induction a generalizing b with
 |nil=>cases b<;>rfl
 | cons x a bK =>
  cases b with
  |nil=>rfl
  |cons y b =>
   unfold eO;split
   .rename_i e;rw[List.take_succ_cons,List.take_succ_cons,bK b,e]
   .rfl
end dE
end
variable {ay:List c7.V}
section
namespace c7
open PySem PySem.W PySem.Spec PyProof.Rows
section
variable {X:bQ}
def aaU:ea X (hg .LtE) (fun x y H Q=>AX x y fun i j=>Q (.aK (!decide (j.cps.toList<i.cps.toList))) H):=by
 intro au s U H x y u v Q aa e1 d2 h;obtain⟨i,j,rfl,rfl,q⟩:=h;obtain⟨t,rfl⟩:=e1;obtain⟨t',rfl⟩:=d2;exact PySem.P.le_str (fD aa q I)
noncomputable def aiP:V->List V->al->bI->Prop:=fun x vs H Q=>∃(l:af)(xs:List V)(i:Int)(k:Nat)(y:V),x=.ref l/\vs=[.int i,y]/\H l=J (.lst xs)/\i=((k:Nat):Int)/\k<=xs.length/\xs.length<100000/\Q .bf (upd H l (.lst (xs.take k++y::xs.drop k)))
def aa1:AF X "list.insert" aiP:=by
 intro au s U H x vs v us Q aa bu d2 h;obtain⟨l,xs,i,k,y,rfl,rfl,j8,Pa,hk,bV,q⟩:=h;cases bu;obtain⟨hx,dW,rfl,⟨t,rfl⟩,e1⟩:=vals2 d2;obtain⟨z,bq,n,r,aB,e⟩:=aa.t2 j8;have es:(100000:Nat)<=cg:=by decide
 have hT:de.List.listFitsIndex i=ah:=fitsIndex_both (by lia) (by lia);have Ik:¬(!de.List.listFitsIndex i)=ah:=by rw[hT];exact ia
 have g9:bq.toArray.size<=cg:=by rw[eU];lia
 refine call_meets F.slot_list_insert ⟨_,e,I⟩ F.entry_list_insert (F.args_list_insert_3 _ _ _) (@AutoListH.list_insert_list_int_val_1 l bq.toArray n i t dW Ik g9) ⟨e,?_⟩;refine⟨.bf,_,aa.Di (its':=bq.take k++dW::bq.drop k) j8 e ?_ ((r.take k).append (.cons e1 (r.drop k))) ?_,I,q⟩
 ·show(have gz:=if i<0 then(i+((bq.toArray.size:Nat):Int)).toNat else min i.toNat bq.toArray.size;(bq.toArray.extract 0 gz).push dW++bq.toArray.extract gz)=_
  have aL:(if i<0 then(i+((bq.toArray.size:Nat):Int)).toNat else min i.toNat bq.toArray.size)=k:=by
   rw[if_neg (by lia),eU];lia
  simp only[aL];apply Array.ext';simp[List.extract];exact UV (by rw[ie];exact cp _)
 ·rw[dP,eb,hN,ie];lia
end
noncomputable def Ao(K:bS)(a b:af)(xs ay:List V):kk :=
 ⟨fun i H=>cZ K H a xs/\cZ K H b ay/\i<min xs.length ay.length,fun i H x H'=>∃(T:af)(u v:V),H T=ax/\xs[i]?=J u/\ay[i]?=J v/\x=.ref T/\H'=upd H T (.tup [u,v]),fun i H=>cZ K H a xs/\cZ K H b ay/\min xs.length ay.length<=i⟩
def Uo(a b z dZ dJ dC cW:af)(xs ay:List V)(D:ZipApart z dZ dJ dC cW a b):
  Turn P w K (.Tuple elts k bh) (Ao K a b xs ay) [z,dZ,dJ,dC,cW] z (fun i h=>i<=min xs.length ay.length/\IsZip h z dZ dJ .none/\IsPair h dZ (.ref dC) (.ref cW)/\(∃a b,IsPair h dJ a b)/\h.IsListIter dC a i/\h.IsListIter cW b i) where
 mem:=by simp
 obj:=fun i h st c hc=>by
  obtain⟨_,iX,ju,⟨p,q,kC⟩,n1,jW⟩:=st;rcases dd.mp hc with e|hc
  .subst e;exact⟨_,iX,fun v z=>by cases z⟩
  rcases dd.mp hc with e|hc
  .subst e;exact⟨_,ju,fun v z=>by cases z⟩
  rcases dd.mp hc with e|hc
  .subst e;exact⟨_,kC,fun v z=>by cases z⟩
  rcases dd.mp hc with e|hc
  ·subst e;obtain⟨o,e,c,d⟩:=n1;exact⟨o,e,fun v z=>by rw[d]at z;cases z⟩
  ·obtain rfl:=ft.mp hc;obtain⟨o,e,c,d⟩:=jW;exact⟨o,e,fun v z=>by rw[d]at z;cases z⟩
 keep:=fun i h h' st k=>by
  obtain⟨aF,iX,ju,⟨p,q,kC⟩,n1,jW⟩:=st;exact⟨aF,k z (by simp) _ iX,k dZ (by simp) _ ju,⟨p,q,k dJ (by simp) _ kC⟩,n1.at fun o e=>k dC (by simp) o e,jW.at fun o e=>k cW (by simp) o e⟩
 item:=by
  intro X cV hw f7 hc i au s U H E aa aA st bb;subst cV hw f7;obtain⟨o7,m1,aF⟩:=bb;obtain⟨iS,ph,c4,zb⟩:=aa.list o7;obtain⟨fm,pj,cn,zc⟩:=aa.list m1;have IB:=ph.length;have IC:=pj.length;have W:=WalksT.zip2 (prog:=X.prog) (w:=X.w) (aa.ok.hd hc) z dZ dJ dC cW a b D iS.toArray fm.toArray;refine W.item i s _ _ (by rw[eU,eU];lia) ⟨st.2.1,st.2.2.1,st.2.2.2.1,st.2.2.2.2.1,st.2.2.2.2.2,c4.isList,cn.isList⟩ fun T vals h' dQ bR cc I0 mid eI=>?_;refine⟨_,I,W.go elts k bh i T _ _ _ mid fun H0 hK zk=>?_⟩;obtain⟨hx,dW,q3,q4,rfl⟩:=bR;have I2:iS[i]?=J hx:=by simpa using q3
  have I3:fm[i]?=J dW:=by simpa using q4
  have kS:xs[i]?=J (xs[i]'(by lia)):=cI _;have za:ay[i]?=J (ay[i]'(by lia)):=cI _;obtain⟨v1,i7,rf⟩:=ph.get kS;obtain⟨v2,kx,e6⟩:=pj.get za;rw[I2]at i7;cases i7;rw[I3]at kx;cases kx;have yL:=aa.aP.fresh cc;have lj:T∉[z,dJ,dC,cW]:=W.apart i T h' mid
  have Dn:∀c∈[z,dZ,dJ,dC,cW],c≠T:=fun c eZ e=>by
   subst e;rcases dd.mp eZ with e|eZ
   .exact lj (by rw[e];simp)
   rcases dd.mp eZ with e|eZ
   ·have aX:=e2 st.2.2.1;rw[<-e]at aX;exact absurd (fK aX cc) (Nat.lt_irrefl _)
   .exact lj (dw _ eZ)
  refine⟨.ref T,upd H T (.tup [xs[i]'(by lia),ay[i]'(by lia)]),?_,I,⟨T,_,_,yL,kS,za,I,I⟩,⟨by lia,hK.1,hK.2.1,hK.2.2.1,hK.2.2.2.1,hK.2.2.2.2.1⟩,fun c eZ=>?_⟩
  ·refine aa.DV (ch:=[z,dJ,dC,cW]) (t':=dQ) (fun c o r4 qL=>zk c o r4 (eI c o r4 qL)) (fun c eZ=>aA c ?_) cc ?_
   ·rcases dd.mp eZ with e|eZ
    .rw[e];simp
    .exact dw _ (dw _ eZ)
   refine⟨by show 2<=cg;decide,[hx,dW],.cons rf (.cons e6 .nil),?_⟩;obtain⟨o,aN,r⟩:=I0;exact⟨o,zk T o lj aN,r⟩
  ·rw[bC (Dn c eZ)];exact(aA c eZ).1
 done:=by
  intro X cV hw f7 hc i au s U H E aa aA st bb;subst cV hw f7;obtain⟨o7,m1,aF⟩:=bb;obtain⟨iS,ph,c4,zb⟩:=aa.list o7;obtain⟨fm,pj,cn,zc⟩:=aa.list m1;have IB:=ph.length;have IC:=pj.length;have W:=WalksT.zip2 (prog:=X.prog) (w:=X.w) (aa.ok.hd hc) z dZ dJ dC cW a b D iS.toArray fm.toArray;have fk:i=min iS.toArray.size fm.toArray.size:=by rw[eU,eU];have:=st.1;lia
  subst fk;refine W.done s _ _ ⟨st.2.1,st.2.2.1,st.2.2.2.1,st.2.2.2.2.1,st.2.2.2.2.2,c4.isList,cn.isList⟩ fun h' dQ eI=>⟨I,aa.Kb (t':=dQ) eI fun c eZ=>aA c ?_⟩;rcases dd.mp eZ with e|eZ
  .rw[e];simp
  .exact dw _ (dw _ eZ)
 self:=fun A i s Q E st h=>wpAny_pyIter_zip st.2.1 h
section
variable {X:bQ}
def ae0(K:bS)(cD:hz):dZ:=fun U H R=>cD U H fun vs H1=>∃a b xs ay,vs=[.ref a,.ref b]/\cZ K H1 a xs/\cZ K H1 b ay/\R (Ao K a b xs ay) H1
def Lm{l m:cU}{p:Pos}(bb:je X "zip")(hm:X.mg "zip"=ax)(aM:iD X [l,m] cD)(hs:rg (en [l,m] X.env=[(aE,eval l X.env),(aE,eval m X.env)]) w8)(ff:rg (en [m] X.env=[(aE,eval m X.env)]) w8):
  iE X (.Tuple elts k sI) (.Call (.Name "zip" p) [l,m] [] bh) (ae0 X.K cD):=by
 intro au s U H R aa h;refine Call_ (mD aa bb hm boot_zip (PyProof.Rows.callWith_type1 (dt (aM bh au s U H (fun vs H1=>∃a b xs ay,vs=[.ref a,.ref b]/\cZ X.K H1 a xs/\cZ X.K H1 b ay/\R (Ao X.K a b xs ay) H1) aa h) fun us s1 ⟨vs,H1,bB,cf,ck⟩=>?_) (by rw[hs,ff]) (by rw[ff];rfl)));obtain⟨a,b,xs,ay,rfl,o7,m1,q⟩:=ck;obtain⟨hx,dW,rfl,rf,e6⟩:=vals2 cf;obtain rfl:hx=av.ref a:=rf;obtain rfl:dW=av.ref b:=e6;obtain⟨iS,ph,c4,zb⟩:=bB.list o7;obtain⟨fm,pj,cn,zc⟩:=bB.list m1;have c9:a<s1.heap.objs.size:=by obtain⟨o,aN,_⟩:=c4.isList;exact e2 aN
 have dz:b<s1.heap.objs.size:=by obtain⟨o,aN,_⟩:=cn.isList;exact e2 aN
 refine call_zip_2 c4.isList cn.isList fun h' di dg gS ro uK g9 eI=>?_;have cM:Inv X au U H1 {s1 with heap:=h'}:=bB.kept (t':=s1.toks) eI;refine wpAny_pyIter_zip di ?_;refine⟨_,_,_,_,H1,I,cM,Uo a b _ _ _ _ _ xs ay (zipApart_new c9 dz),⟨UF _,di,dg,⟨_,_,gS⟩,ro,uK⟩,fun c hc=>?_,q⟩
 have kP:s1.heap.objs.size<=c:=by
  rcases dd.mp hc with e|hc
  .rw[e];exact Nat.le_add_right ..
  rcases dd.mp hc with e|hc
  .rw[e];exact Nat.le_add_right ..
  rcases dd.mp hc with e|hc
  .rw[e];exact Nat.le_add_right ..
  rcases dd.mp hc with e|hc
  .rw[e];exact cp _
  .rw[ft.mp hc];exact Nat.le_add_right ..
 exact bB.nF kP (bB.aP.fresh kP)
end
def NB{a b:af}{Q:bI}{D:af}(g7:Nat->V)(S:St->Prop)(bV:min xs.length ay.length<=100000)(aX:S ew)(c2:H D=ax)(lR:cZ K H a xs)(gb:cZ K H b ay)
  (bc:∀i x y,xs[i]?=J x->ay[i]?=J y->∀bE H1 T,S bE->dY H H1->H1 T=ax->∀R:St->V->al->Prop,(∀bg bp,S bg->dY (upd H1 T (.tup [x,y])) bp->R bg (g7 i) bp)->g (.ref T) bE (upd H1 T (.tup [x,y])) fun bg ao=>cJ bg ao fun z bp=>R bg z bp)
  (bo:∀H':al,dY H H'->H' D=J (.lst ((List.range (min xs.length ay.length)).map g7))->Q (.ref D) H') :
  k0 (Ao K a b xs ay) g n4 cJ Q ew H D:=by
 refine⟨fun i m bE ao=>i<=min xs.length ay.length/\m=min xs.length ay.length-i/\S bE/\dY H ao/\ao D=J (.lst ((List.range i).map g7)),⟨min xs.length ay.length,UF _,I,aX,cE c2,aG⟩,?_⟩;rintro i m bE ao ⟨ai,rfl,ar,hs,iO⟩;have ck:=hs.seq lR;have b1:=hs.seq gb;rcases g5 i (min xs.length ay.length)with z|z
 ·refine .inr ⟨⟨ck,b1,z⟩,?_⟩;rintro x bp ⟨T,u,v,cc,cz,bR,rfl,rfl⟩;refine bc i u v cz bR bE ao T ar hs cc (fun bg y dm=>∃zs bU,dm D=J (.lst zs)/\zs.length<cg/\bU<min xs.length ay.length-i/\(i+1<=min xs.length ay.length/\bU=min xs.length ay.length-(i+1)/\S bg/\dY H (upd dm D (.lst (zs++[y])))/\upd dm D (.lst (zs++[y])) D=J (.lst ((List.range (i+1)).map g7)))) fun bg dm eS sa=>?_;have Jg:D≠T:=fun e=>by rw[e,cc]at iO;cases iO
  refine⟨(List.range i).map g7,min xs.length ay.length-(i+1),sa _ _ (by rw[bC Jg];exact iO),?_,by lia,by lia,rfl,eS,?_,?_⟩
  ·rw[cA,kK];exact fK (show i<100000 by lia) (by decide)
  ·intro c o e;rw[bC (fe e c2)];refine sa c o ?_;rw[bC (fun e'=>by rw[e',hs.free cc]at e;cases e)];exact hs c o e
  .rw[aG,List.range_succ,fP];rfl
 ·have e:i=min xs.length ay.length:=by lia
  subst e;exact .inl ⟨⟨ck,b1,cp _⟩,bo ao hs iO⟩
end c7
end
variable {r:List Bool} {rs:List (List Bool)}
section
namespace dE
open PySem c7
noncomputable def ent(a r:List Bool):List Bool:=cnt (eO a r)++cnt (r.length-eO a r)++r.drop (eO a r)
noncomputable def ents:List Bool->List (List Bool)->List Bool
 |_,[]=>[]
 |a,r::rs=>ent a r++ents r rs
noncomputable def jE(rs:List (List Bool)):List Bool:=cnt rs.length++ents [] rs
noncomputable def l1:List (List Bool)->Prop
 |[]=>True
 |[_]=>True
 |a::b::r=>Lt a b/\l1 (b::r)
def Hd(r:List Bool):eO [] r=0:=by cases r<;>rfl
def VV{b:List Bool}(h:Lt a b):Lt (a.drop (eO a b)) (b.drop (eO a b))/\eO (a.drop (eO a b)) (b.drop (eO a b))=0:=by
 induction a generalizing b with
 |nil=>rw[Hd,List.drop_zero,List.drop_zero];exact⟨h,Hd b⟩
 | cons x a bK =>
  cases b with
  |nil=>exact absurd h (WI _)
  | cons y b =>
   by_cases e:x=y
   ·subst e;have aL:eO (x::a) (x::b)=eO a b+1:=by rw[eO,if_pos rfl]
    rw[aL,List.drop_succ_cons,List.drop_succ_cons];rcases Hx.mp h with⟨ai,ar⟩|⟨_,h⟩
    .rw[ai]at ar;cases ar
    .exact bK h
   ·have aL:eO (x::a) (y::b)=0:=by rw[eO,if_neg e]
    rw[aL,List.drop_zero,List.drop_zero];exact⟨h,aL⟩
def U7(a b:List Bool):a.take (eO a b)++b.drop (eO a b)=b:=by rw[U6,List.take_append_drop]
def F9(a:List Bool)(xs ay:List (List Bool)):ents a (xs++ay)=ents a xs++ents (xs.getLastD a) ay:=by
 induction xs generalizing a with
 |nil=>rfl
 |cons x xs bK =>
  rw[List.cons_append,ents,ents,bK,gL];cases xs<;>rfl
variable {r:List (List Bool)}
def NG(h:l1 (a::r)):l1 r:=by
 cases r with
 |nil=>trivial
 |cons b r=>exact h.2
def Wj(h:l1 rs):∀{j:Nat}{a b:List Bool},rs[j]?=J a->rs[j+1]?=J b->Lt a b:=by
 induction rs with
 |nil=>intro j a b ai;cases ai
 | cons x rs bK =>
  intro j a b ai ar;cases j with
  | zero =>
   cases rs with
   |nil=>cases ar
   |cons y rs =>
    cases ai;cases ar;exact h.1
  |succ j=>exact bK (NG h) ai ar
def Wk(h:l1 (a::r)):∀b∈r,Lt a b:=by
 induction r generalizing a with
 |nil=>intro b ag;cases ag
 |cons x r bK =>
  intro b ag;rcases dd.mp ag with e|ag
  .rw[e];exact h.1
  .exact Ly h.1 (bK h.2 b ag)
noncomputable def vX:List (List Bool)->Bool
 |[]=>ah
 |[_]=>ah
 |a::b::r=>decide (Lt a b)&&vX (b::r)
def Ve(rs:List (List Bool)):vX rs=ah↔l1 rs:=by
 induction rs with
 |nil=>exact⟨fun _=>trivial,fun _=>I⟩
 | cons a r bK =>
  cases r with
  |nil=>exact⟨fun _=>trivial,fun _=>I⟩
  |cons b r =>
   rw[vX,l1,g4,bK,decide_eq_true_iff]
def Vd(h:l1 r)(ar:∀b,r[0]?=J b->Lt a b):l1 (a::r):=by
 cases r with
 |nil=>trivial
 |cons b r=>exact⟨ar b I,h⟩
def Mm(r:List Bool)(k:Nat)(h:k<=r.length):Txt.slice (aH r) (J (k:Int)) ax=aH (r.drop k):=by
 rw[Gs];congr 1
 have aL:du.fS r.length 0 (J (k:Int))=k:=by
  unfold du.fS;show(if(k:Int)<0 then _ else _)=_;rw[if_neg (by lia)];lia
 have aS:du.fS r.length r.length ax=r.length:=rfl;rw[aL,aS,UV (by rw[ie];lia)]
noncomputable abbrev cK(rs:List (List Bool)):List V:=rs.map fun r=>V.str (aH r)
def ip(rs:List (List Bool)):(cK rs).length=rs.length:=cA ..
def Xc{r:List Bool}(h:rs[i]?=J r):(cK rs)[i]?=J (.str (aH r)):=by rw[eD,h];rfl
def vS(xs ay:List (List Bool)):cK (xs++ay)=cK xs++cK ay:=fP ..
def aaQ{r:List Bool}(h:rs[i]?=J r):cnt rs.length++ents [] (rs.take (i+1))=cnt rs.length++ents [] (rs.take i)++ent ((rs.take i).getLastD []) r:=by
 have e:rs.take (i+1)=rs.take i++[r]:=by rw[iG,h];rfl
 rw[e,F9,gL];show _++(_++(ent _ r++[]))=_;rw[List.append_nil]
def aa4{r:List Bool}(h:rs[i]?=J r):(rs.take (i+1)).getLastD []=r:=by
 have e:rs.take (i+1)=rs.take i++[r]:=by rw[iG,h];rfl
 rw[e];simp
def Nw(rs:List (List Bool)):∀a,ents a rs=((List.range rs.length).map fun i=>ent ((a::rs).getD i []) (rs.getD i [])).flatten:=by
 induction rs with
 |nil=>intro a;rfl
 |cons r rs bK =>
  intro a;rw[ents,bK r,eb,List.range_succ_eq_map,fB,lH,gg];rfl
end dE
end
section
namespace c7
open PySem PySem.W PySem.Spec PyProof.Rows
def VA{X:bQ}{aX:ExceptHandler}{hs:List ExceptHandler}(ag:∀pn,jy (X.akb pn fun _ _ _ _=>False) body dM):k3 X (.Try body (aX::hs) [] [] sI) dM:=by
 intro au s U H KC aa ai;have ok:=aa.ok;refine wpAny_Try_except (mz (ag (X.pn++au) [] s U H KC (aa.ins.m8 _) ai) (fun f s1 z=>?_) (fun e s1 z=>?_))
 ·cases f with
  |next =>
   obtain⟨b2,H',h8,q⟩:=z;exact cx (X:=X) au s1 b2 H' KC (Inv.DA (Y:=X) ok (Inv.n5 (X:={X with pn:=X.pn++au}) h8)) q
  |brk=>obtain⟨b2,H',h8,q⟩:=z;exact⟨b2,H',Inv.DA (Y:=X) ok (Inv.n5 (X:={X with pn:=X.pn++au}) h8),q⟩
  |cont=>obtain⟨b2,H',h8,q⟩:=z;exact⟨b2,H',Inv.DA (Y:=X) ok (Inv.n5 (X:={X with pn:=X.pn++au}) h8),q⟩
  |ret u=>obtain⟨v,b2,H',h8,r,q⟩:=z;exact⟨v,b2,H',Inv.DA (Y:=X) ok (Inv.n5 (X:={X with pn:=X.pn++au}) h8),r,q⟩
 obtain⟨a,C,d,T,b2,H1,H',s0,rfl,bB,cM,v8,fa,Cz,zv,lj,q⟩:=z;exact q.elim
section
variable {X:bQ}
end
end c7
end
section
namespace dE
open PySem c7
def yo:l1 rs↔rs.Pairwise Lt:=by
 induction rs with
 |nil=>exact⟨fun _ =>.nil,fun _=>trivial⟩
 | cons a r bK =>
  constructor
  .intro h;exact .cons (Wk h) (bK.mp (NG h))
  ·intro h;have h':=List.pairwise_cons.mp h;exact Vd (bK.mpr h'.2) fun b ag=>h'.1 b (eY ag)
def aaO:∀{l et:List ae},l.Perm et->∀{rs:List (List Bool)},l=rs.map aH->∃ss,et=ss.map aH/\rs.Perm ss:=by
 intro l et h
 induction h with
 |nil=>intro rs e;exact⟨[],I,by cases rs with|nil=>exact .refl _|cons a r=>cases e⟩
 | cons x _ bK =>
  intro rs e;cases rs with
  |nil=>cases e
  |cons a r =>
   obtain⟨aL,aS⟩:=List.cons.inj e;obtain⟨ss,ai,ar⟩:=bK aS;exact⟨a::ss,by rw[ai,aL];rfl,.cons a ar⟩
 | swap x y l =>
  intro rs e
  match rs,e with
  |a::b::r,e =>
   obtain⟨aL,aS⟩:=List.cons.inj e;obtain⟨gw,ho⟩:=List.cons.inj aS;exact⟨b::a::r,by rw[aL,gw,ho];rfl,.swap b a r⟩
 |trans _ _ ae2 ae3 =>
  intro rs e;obtain⟨ss,ai,ar⟩:=ae2 e;obtain⟨jX,bz,c0⟩:=ae3 ai;exact⟨jX,bz,ar.trans c0⟩
end dE
namespace c7
open PySem PySem.W PySem.Spec PyProof.Rows
section
variable {X:bQ}
theorem M4:∀{vs:List av}{rs:List (List Bool)},Vals (dE.cK rs) vs->StrsAre vs (rs.map dE.aH)
 |[],[],_ =>.nil
 | v::vs,b::ns,h=>by
  cases h with
  |cons a r =>
   obtain⟨t,rfl⟩:=(show ∃t,v=av.str (dE.aH b) t from a);exact .cons _ _ (M4 r)
 |[],_::_,h=>by cases h
 |_::_,[],h=>by cases h
theorem Mv:∀{vs:List av}{rs:List (List Bool)},StrsAre vs (rs.map dE.aH)->Vals (dE.cK rs) vs
 |[],[],_ =>.nil
 |v::vs,b::ns,h=>by
  cases h with
  |cons x t r=>exact .cons ⟨t,I⟩ (Mv r)
 |[],_::_,h=>by cases h
 |_::_,[],h=>by cases h
end
end c7
end
section
namespace c7
open PySem PySem.W PySem.Spec PyProof.Rows
section
variable {X:bQ}
noncomputable def Qb:=ea.or (uc (X:=X)) (aaU (X:=X))
end
end c7
end
section
namespace dE
open PySem c7
end dE
end
section
namespace c7
open PySem PySem.W PySem.Spec PyProof.Rows
end c7
end
section
namespace dE
open PySem
end dE
end
section
namespace c7
open PySem PySem.Spec
section
variable {w:dc} {aZ Cy:Array (Int×av)} {t t':SetTable} {wJ:List ae}
end
section
variable {prog:dI} {w:dc} {A:dU} {E:av->aR->Prop} {s:aR} {a:af} {aZ:Array (Int×av)} {gh:Nat} {t:SetTable} {wJ:List ae}
end
section
variable {prog:dI} {w:dc} {A:dU} {E:av->aR->Prop} {s:aR} {a:af} {aZ:Array (Int×av)} {gh:Nat} {t:SetTable} {wJ:List ae}
end
section
variable {prog:dI} {w:dc} {A:dU} {E:av->aR->Prop} {s:aR} {a aa p:af} {aZ:Array (Int×av)} {gh:Nat} {t:SetTable} {wJ:List ae}
end
end c7
end
section
namespace c7
open PySem PySem.Spec PyProof.Rows
section
variable {prog:dI} {w:dc} {A:dU} {E:av->aR->Prop} {s:aR} {a:af} {aZ:Array (Int×av)} {gh:Nat} {t:SetTable} {wJ:List ae}
end
end c7
end
section
namespace c7
open PySem PySem.W PySem.Spec PyProof.Rows
variable {Q:bI}
def Ga{D:af}(keep:Nat->Bool)(f:Nat->V)(S:St->Prop)(aV:n<=100000)(aX:S ew)(c2:H D=ax)
  (bc:∀i:Nat,i<n->∀bE H1,S bE->dY H H1->∀(R:St->V->al->Prop)(jz:St->al->Prop),(∀bg,S bg->if keep i=ah then R bg (f i) H1 else jz bg H1)->g (.int (lo+(i:Int))) bE H1 fun bg ao=>gm bg ao fun b bp=>if b=ah then cJ bg bp fun y gJ=>R bg y gJ else jz bg bp)
  (bo:Q (.ref D) (upd H D (.lst (((List.range n).filter keep).map f)))) :
  k0 (qs lo n) g gm cJ Q ew H D:=by
 refine⟨fun i m bE ao=>i<=n/\m=n-i/\S bE/\ao=upd H D (.lst (((List.range i).filter keep).map f)),⟨n,UF _,I,aX,I⟩,?_⟩;rintro i m bE ao ⟨ai,rfl,ar,rfl⟩;rcases g5 i n with z|z
 ·refine .inr ⟨z,?_⟩;rintro x bp ⟨rfl,rfl⟩
  refine bc i z bE _ ar (cE c2) (fun bg y dm=>∃ay bU,dm D=J (.lst ay)/\ay.length<cg/\bU<n-i/\(i+1<=n/\bU=n-(i+1)/\S bg/\upd dm D (.lst (ay++[y]))=upd H D (.lst (((List.range (i+1)).filter keep).map f))))
   (fun bg gZ=>∃bU,bU<n-i/\(i+1<=n/\bU=n-(i+1)/\S bg/\gZ=upd H D (.lst (((List.range (i+1)).filter keep).map f)))) fun bg eS=>?_
  by_cases hk:keep i=ah
  ·rw[if_pos hk];refine⟨_,n-(i+1),aG,?_,by lia,by lia,rfl,eS,?_⟩
   ·rw[cA];have:=List.length_filter_le keep (List.range i);rw[kK]at this;exact Nat.lt_of_le_of_lt this (fK (show i<100000 by lia) (by decide))
   .rw[fW,List.range_succ,List.filter_append,fP,List.filter_cons_of_pos hk];rfl
  ·rw[if_neg hk];refine⟨n-(i+1),by lia,by lia,rfl,eS,?_⟩;rw[List.range_succ,List.filter_append,fP,List.filter_cons_of_neg hk];simp
 ·have e:i=n:=by lia
  subst e;exact .inl ⟨cp _,bo⟩
section
variable {X:bQ} {e h1 ak1 aZ:cU} {cJ dT z0 jX:TE} {cn bh:Pos}
end
structure l8(K:bS)(C:af):Prop where
 makes:Ab K C=ah
 init:gB K (.ref C) "__init__"=J (J (.builtin "object.__init__"))
 mw:qk K (.ref C)=ah
variable {c:Int}
section
variable {X:bQ} {C:af} {x:ae} {p bh:Pos}
def aaG(M:l8 X.K C)(aa:Inv X au U H s)(h:∀x ak,H x=ax->H ak=ax->ak≠x->Q (.ref x) (upd (upd H ak (.own x)) x (.ins C ak []))):
  b4 (model X.prog X.w) X.A (call (.ref C) []) (jd X au U Q) X.xe s:=by
 have bo:=h (s.heap.objs.size+1) s.heap.objs.size (aa.aP.fresh (Nat.le_succ _)) (aa.aP.fresh (cp _)) (hl (Nat.lt_succ_self _));have cM:=Inv.made (C:=C) aa;have Y:=makes_of (M:=model X.prog X.w) aa.f3 M.makes;refine D8 (aa2 aa.f3 M.makes M.init (fun self=>Looks.of_pure (oi_bind self)) ?_)
 have aS:((s.heap.push nc).push (nd C s.heap.objs.size)).get? (s.heap.objs.size+1)=J (nd C s.heap.objs.size):=by
  have:=hA (s.heap.push nc) (o:=nd C s.heap.objs.size) rfl;rwa [bG.size_push]at this
 have t1:Looks (model X.prog X.w) ((s.heap.push nc).push (nd C s.heap.objs.size)) (typeOf (.ref (s.heap.objs.size+1))) (.ref C):=(Looks.ld aS).andThen .now;have hb:Looks (model X.prog X.w) ((s.heap.push nc).push (nd C s.heap.objs.size)) (isInstance (.ref (s.heap.objs.size+1)) (.type "object")) ah:=t1.andThen (Y.top.keeps fun b o e=>fV _ (fV _ e));obtain⟨gG,g,d,t,os⟩:=s;refine SK oi_plain entry_oi (@check_slot (model X.prog X.w) _ _ _ "object.__init__" "object" "__init__" (.ref (gG.objs.size+1)) [] [] _ oi_kind oi_split hb (oi_args (.ref (gG.objs.size+1))) ?_);rw[oi_run];exact fq (And.intro I ⟨V.ref (gG.objs.size+1),_,cM,I,bo⟩)
def ajx(C:af):TE:=fun _ H Q=>∀x ak,H x=ax->H ak=ax->ak≠x->Q (.ref x) (upd (upd H ak (.own x)) x (.ins C ak []))
def BI(M:l8 X.K C)(bb:je X x)(hm:X.mg x=J (.ref C))(mV:rg ((x == ("__debug__":ae))=aE) w7):cH X (.Call (.Name x p) [] [] bh) (ajx C):=by
 intro au s U H Q aa h;refine uP (B4 aa bb hm ?_ mV);exact PySem.W.callWith_K0 aa.f3 M.mw (aaG M aa h)
noncomputable def aiT:V->List V->al->bI->Prop:=fun x vs H Q=>∃(l:af)(rs:List (List Bool))(r:List Bool)(k:Nat),x=.ref l/\vs=[.str (dE.aH r)]/\H l=J (.lst (dE.cK rs))/\rs[k]?=J r/\(∀j,j<k->rs[j]?≠J r)/\rs.length<100000/\Q .bf (upd H l (.lst (dE.cK (rs.eraseIdx k))))
theorem Lz:∀(rs:List (List Bool))(k:Nat),(dE.cK rs).eraseIdx k=dE.cK (rs.eraseIdx k)
 |[],_=>rfl
 |_::_,0=>rfl
 |a::r,k+1=>congrArg (V.str (dE.aH a)::·) (Lz r k)
def N0(a b:ae)(t u:Tok):MeetsSeq.EqGives (.str a t) (.str b u) (decide (a=b)):=by
 intro prog w A Q E s h;exact wpAny_eqBool_str h
theorem Ml:∀{xs:List V}{bq:List av},Vals xs bq->∀k:Nat,Vals (xs.eraseIdx k) (bq.eraseIdx k)
 |_,_,.nil,_ =>.nil
 |_,_,.cons a r,0=>r
 |_,_,.cons a r,k+1 =>.cons a (Ml r k)
def aa0:AF X "list.remove" aiT:=by
 intro au s U H x vs v us Q aa bu d2 h;obtain⟨l,rs,r,k,rfl,rfl,j8,hk,y1,bV,q⟩:=h;cases bu;obtain⟨hx,rfl,⟨t,rfl⟩⟩:=vals1 d2;obtain⟨z,bq,n,ir,aB,e⟩:=aa.t2 j8;have c1:=ir.length;rw[dE.ip]at c1;have Pj:k<rs.length:=(gr.mp hk).1
 have i4:∀(j:Nat)(b0:j<bq.length),∃t',bq[j] =.str (dE.aH (rs[j]'(by lia))) t':=fun j b0=>by
  obtain⟨u,cz,e1⟩:=ir.get (i:=j) (x :=.str (dE.aH (rs[j]'(by lia)))) (by unfold dE.cK;rw[eD,cI (by lia)];rfl);rw[cI b0]at cz;obtain⟨t',IY⟩:=(show ∃t,u=av.str _ t from e1);exact⟨t',by rw[<-IY];exact gq cz⟩
 let mN:av->Bool:=fun y=>match y with|.str a _=>decide (a=dE.aH r)|_=>aE
 have he:∀y,y∈bq.toArray->MeetsSeq.EqGives y (.str (dE.aH r) t) (mN y):=fun y aW=>by
  obtain⟨j,b0,rfl⟩:=List.mem_iff_getElem.mp (List.mem_toArray.mp aW);obtain⟨t',e'⟩:=i4 j b0;rw[e'];exact N0 _ _ _ _
 have es:(100000:Nat)<=cg:=by decide
 have g9:bq.toArray.size<=cg:=by rw[eU];lia
 have p8:mN (bq.toArray[k]'(by rw[eU];lia))=ah:=by
  obtain⟨t',e'⟩:=i4 k (by lia);rw[List.getElem_toArray,e'];have:=(gr.mp hk).2;show decide (_=_)=ah;rw[this];exact eT I
 have IH:∀m(hm:m<bq.toArray.size),m<k->mN bq.toArray[m]=aE:=fun m hm IG=>by
  rw[eU]at hm;obtain⟨t',e'⟩:=i4 m hm;rw[List.getElem_toArray,e'];show decide (_=_)=aE;refine fL fun z=>y1 m IG ?_;rw[cI (by lia),dE.BN z]
 refine call_meets F.slot_list_remove ⟨_,e,I⟩ F.entry_list_remove (F.args_list_remove_2 _ _) (MeetsSeq.list_remove l bq.toArray n (.str (dE.aH r) t) mN he k (by rw[eU];lia) p8 IH g9) ⟨e,?_⟩;refine⟨.bf,_,aa.Di (its':=bq.eraseIdx k) j8 e ?_ (by rw[<-Lz];exact Ml ir k) ?_,I,q⟩
 ·apply Array.ext';simp[Array.eraseIdxIfInBounds,show k<bq.length by lia]
 ·rw[dE.ip,List.length_eraseIdx];split<;>lia
def Mn{i j:Int}(aF:0<=i)(b0:0<=j)(nO:j<=1000)(hc:0<c):0<=de.Range.rangeSize i j c/\de.Range.rangeSize i j c<=1000:=by
 unfold de.Range.rangeSize;rw[if_pos hc];split
 ·have ai:=Int.ediv_nonneg (a:=j-i-1) (b:=c) (by lia) (by lia);have ar:=Int.ediv_le_self (a:=j-i-1) c (by lia);lia
 .omega
def Uu{i j:Int}(aF:0<=i)(mn:i<=1000)(b0:0<=j)(nO:j<=1000)(hc:0<c)(p6:c<=1000):de.Range.small i j c=ah:=by
 obtain⟨ai,ar⟩:=Mn aF b0 nO hc;unfold de.Range.small;generalize de.Range.rangeSize i j c=m at ai ar ⊢;simp only[de.Range.rangeFitsLong,g4,Bool.or_eq_true,kn,beq_iff_eq,if_pos hc];lia
def aeZ(cD:hz):dZ:=fun U H R=>cD U H fun vs H1=>∃i j c:Int,vs=[.int i,.int j,.int c]/\(0<=i/\i<=1000/\0<=j/\j<=1000/\0<c/\c<=1000)/\R (s3 i c (de.Range.rangeSize i j c).toNat) H1
def aaM{a b c:cU}{p bh:Pos}(bb:je X "range")(hm:X.mg "range"=ax)(aM:iD X [a,b,c] cD)
  (hs:rg (en [a,b,c] X.env=[(aE,eval a X.env),(aE,eval b X.env),(aE,eval c X.env)]) w8) (ff:rg (en [b,c] X.env=[(aE,eval b X.env),(aE,eval c X.env)]) w8) :
  iE X ep (.Call (.Name "range" p) [a,b,c] [] bh) (aeZ cD):=by
 intro au s U H R aa h;refine Call_ (mD aa bb hm boot_range (PyProof.Rows.callWith_type1 (dt (aM bh au s U H _ aa h) fun us s1 ⟨vs,H1,bB,cf,ck⟩=>?_) (by rw[hs,ff]) (by rw[ff];rfl)));obtain⟨i,j,c,e,⟨ck,b1,eS,sE,Ql,zH⟩,q⟩:=ck;subst e;cases cf with
 | cons r ir =>
  cases ir with
  | cons eW ir =>
   cases ir with
   | cons Jw ir =>
    cases ir;obtain⟨t,rfl⟩:=r;obtain⟨t',rfl⟩:=eW;obtain⟨J2,rfl⟩:=Jw;refine call_range_3 (by lia) ?_ (.inl (PyProof.noPylong_small (by lia)));refine wpAny_pyIter_range (IsRange.new ..) (Uu ck b1 eS sE Ql zH) ?_;have cM:Inv X au U H1 {s1 with heap:=s1.heap.push {cls :=.type "range",data :=.fields #[.int i t,.int j t',.int c J2]}}:=bB.kept (t':=s1.toks) fun b o e=>fV _ e;refine⟨_,[_],_,_,H1,I,cM.kept (t':=s1.toks) fun b o e=>fV _ e,L7 _ i c (de.Range.rangeSize i j c).toNat,?_,fun b ag=>?_,q⟩
    ·have aL:i+((0:Nat):Int)*c=i:=by simp
     have aS:(((de.Range.rangeSize i j c).toNat:Nat):Int)-((0:Nat):Int)=de.Range.rangeSize i j c:=by have:=(Mn ck eS sE Ql).1;lia
     show IsRangeIter _ _ (i+((0:Nat):Int)*c) ((((de.Range.rangeSize i j c).toNat:Nat):Int)-((0:Nat):Int)) c;rw[aL,aS];exact hA _ I
    ·have e:=ft.mp ag;subst e;exact cM.nF (cp _) (cM.aP.fresh (cp _))
end
def Ud{D:af}(g7:Nat->V)(S:St->Prop)(aV:n<=100000)(aX:S ew)(c2:H D=ax)
  (bc:∀i:Nat,i<n->∀bE H1,S bE->dY H H1->∀R:St->V->al->Prop,(∀bg bp,S bg->dY H1 bp->R bg (g7 i) bp)->g (.int (lo+(i:Int)*c)) bE H1 fun bg ao=>cJ bg ao fun z bp=>R bg z bp)
  (bo:∀H':al,dY H H'->H' D=J (.lst ((List.range n).map g7))->Q (.ref D) H') :
  k0 (s3 lo c n) g n4 cJ Q ew H D:=by
 refine⟨fun i m bE ao=>i<=n/\m=n-i/\S bE/\dY H ao/\ao D=J (.lst ((List.range i).map g7)),⟨n,UF _,I,aX,cE c2,aG⟩,?_⟩;rintro i m bE ao ⟨ai,rfl,ar,hs,iO⟩;rcases g5 i n with z|z
 ·refine .inr ⟨z,?_⟩;rintro x bp ⟨rfl,rfl⟩;refine bc i z bE _ ar hs (fun bg y dm=>∃zs bU,dm D=J (.lst zs)/\zs.length<cg/\bU<n-i/\(i+1<=n/\bU=n-(i+1)/\S bg/\dY H (upd dm D (.lst (zs++[y])))/\upd dm D (.lst (zs++[y])) D=J (.lst ((List.range (i+1)).map g7)))) fun bg dm eS sa=>?_;refine⟨(List.range i).map g7,n-(i+1),sa _ _ iO,?_,by lia,by lia,rfl,eS,?_,?_⟩
  .rw[cA,kK];exact fK (show i<100000 by lia) (by decide)
  ·intro c o e;rw[bC (fe e c2)];exact sa c o (hs c o e)
  .rw[aG,List.range_succ,fP];rfl
 ·have e:i=n:=by lia
  subst e;exact .inl ⟨cp _,bo ao hs iO⟩
end c7
end
section
namespace c7
open PySem PySem.Spec PyProof.Rows
end c7
end
variable {h':bG} {val:Nat->ae}
section
namespace c7
open PySem PySem.Spec
noncomputable def gR(val:Nat->ae):Nat->List ae
 |0=>[]
 |i+1=>if val i∈gR val i then gR val i else gR val i++[val i]
theorem ya(val:Nat->ae):∀i,(gR val i).length<=i
 |0=>cp _
 |i+1=>by
  have bK:=ya val i;unfold gR;split
  .omega
  .rw[dP,k5];lia
def Dl(val:Nat->ae)(i:Nat)(k:ae):(decide (k∈gR val i)||decide (k=val i))=decide (k∈gR val (i+1)):=by
 conv=>rhs;unfold gR
 by_cases h:val i∈gR val i
 ·rw[if_pos h];by_cases e:k=val i
  .subst e;simp[h]
  .simp[e]
 ·rw[if_neg h];by_cases e:k=val i<;>simp[e]
def UL(val:Nat->ae)(i:Nat):(if decide (val i∈gR val i)=ah then(gR val i).length else(gR val i).length+1)=(gR val (i+1)).length:=by
 conv=>rhs;unfold gR
 by_cases h:val i∈gR val i
 .rw[if_pos h,if_pos (eT h)]
 .rw[if_neg h,if_neg (by simpa using h),dP];rfl
section
variable {prog:dI} {w:dc} {A:dU} {R:Result->aR->Prop} {aa:af} {cm wr:List af} {G:Array GenState->Array GenState->Prop} {n:Nat} {Pv:Nat->av->Prop} {St:Nat->aR->Prop}
abbrev oC(prog:dI)(w:dc)(h:bG)(S:af)(val:Nat->ae)(i:Nat):Prop:=h.SetOf (PySem.strKind prog w) S (fun k=>decide (k∈gR val i)) (gR val i).length
def oC.keep{S:af}(t:oC prog w h S val i)(k:∀o,h.get? S=J o->h'.get? S=J o):oC prog w h' S val i:=by
 obtain⟨o,aZ,gh,dM,aN,rest⟩:=t;exact⟨o,aZ,gh,dM,k o aN,rest⟩
def Mx(W:WalksS prog w A.in1 aa cm wr G n Pv St)(S:af)(wg:S∉cm)(val:Nat->ae)(aeC:∀i v,Pv i v->∃t,v=.str (val i) t)(ag:n+1<scanBound):
  ∀(m i:Nat)(s:aR),n-i=m->i<=n->St i s->oC prog w s.heap S val i->(∀br,Moved (S::wr) G s br->oC prog w br.heap S val n->R (.ok (.ret .none)) br)->
   oe (model prog w) A (.builtin "set.update.loop" ⟨[.ref S,.ref aa],[]⟩) R s:=by
 have OZ:S∉wr:=fun h=>wg (W.sub _ h);have up:∀b∈wr,b∈S::wr:=fun b h=>dw _ h;intro m
 induction m with
 |zero =>
  intro i s hm aF st cc bN;obtain rfl:i=n:=by lia
  refine codeAny_builtin PyProof.Rows.F.entry_set_update_loop ?_;rw[dU.under_plainId PyProof.Rows.F.plain_set_update_loop _];refine cq (m:=pyNext (.ref aa)) (W.done s _ _ st fun br iU=>?_);exact fq (bN br (iU.mono up) (cc.keep fun o e=>iU.heap S _ OZ e))
 | succ m bK =>
  intro i s hm aF st cc bN;have hH:i<n:=by lia
  refine codeAny_builtin PyProof.Rows.F.entry_set_update_loop ?_;rw[dU.under_plainId PyProof.Rows.F.plain_set_update_loop _];refine cq (m:=pyNext (.ref aa)) (W.item i s _ _ hH st fun v br cV hK iU=>?_);obtain⟨t,rfl⟩:=aeC i v cV;have wi:oC prog w br.heap S val i:=cc.keep fun o e=>iU.heap S _ OZ e;have Pc:(PySem.strKind prog w).is (val i) (.str (val i) t)=ah:=by simp[PySem.strKind,av.isStrOf]
  refine cq (m:=holding [av.str (val i) t] (setAdd S (.str (val i) t))) (wpAny_holding ?_);unfold setAdd;refine wpAny_holding (cq ((PySem.strKind prog w).pyHash (k:=val i) Pc ?_));have room:(gR val i).length+1<scanBound:=by have:=ya val i;lia
  refine wpAny_setAddHashed_of (knd:=PySem.strKind prog w) (s:={br with toks:=br.toks+1}) Pc I wi room fun h' mx g8=>?_;have r0:oC prog w h' S val (i+1):=PyProof.Rows.SetOf_congr g8 (fun k=>Dl val i k) (UL val i);refine fq ⟨plainId_quiet PyProof.Rows.F.plain_set_update_loop _,bK (i+1) _ (by lia) hH (W.frame _ br _ _ hK (Nat.le_succ _) fun b tL o e=>?_) r0 fun pk afF Ig=>?_⟩
  .rw[mx.2 b fun z:b=S=>wg (z ▸ tL)];exact e
  ·refine bN pk (Moved.trans W.gtrans ((iU.mono up).then_heap (Nat.le_succ _) fun b o adw e=>?_) afF) Ig;rw[mx.2 b fun z:b=S=>adw (by rw[z];exact eA)];exact e
end
section
variable {prog:dI} {w:dc} {A:dU} {E:av->aR->Prop} {s:aR}
noncomputable abbrev kU(led:Bool):bZ:={cls :=.type "set",dict:=ax,data :=.set #[] 0 (.fresh 0 0 led)}
abbrev DE(prog:dI)(w:dc)(s:aR)(val:Nat->ae)(n:Nat)(r:av)(n2:aR):Prop:=r=.none/\∃h' dQ,n2={s with heap:=h',toks:=dQ}/\oC prog w h' s.heap.objs.size val n/\∀b o,b<s.heap.objs.size->s.heap.get? b=J o->h'.get? b=J o
def xy(prog:dI)(w:dc)(A:dU)(E:av->aR->Prop)(s:aR)(x:av)(val:Nat->ae)(n:Nat)(led:Bool):Prop :=
 b4 (model prog w) A.in1.in1 (de.«set.__init__» ⟨[.ref s.heap.objs.size,x],[]⟩) (fun dp br=>match dp with
   |Fin.done f=>wants (DE prog w s val n) E (Except.ok f) br
   |Fin.again i2=>i2.quiet=ah/\oe (model prog w) A.in1 i2 (wants (DE prog w s val n) E) br)
  (fun e br=>wants (DE prog w s val n) E (Except.error e) br) {s with heap:=s.heap.push (kU led)}
def Mj{x:av}
  (gy:∀led:Bool,xy prog w A E s x val n led)
  (h:∀h' dQ,oC prog w h' s.heap.objs.size val n->(∀b o,b<s.heap.objs.size->s.heap.get? b=J o->h'.get? b=J o)->Q (.ref s.heap.objs.size) {s with heap:=h',toks:=dQ}) :
  b4 (model prog w) A (call (.type "set") [x]) Q E s:=by
 obtain⟨c,dT,aly⟩:=F.called_set.mro;have alv:=F.called_set.made;have aey:=F.called_set.sub;refine D8 (codeAny_of_tree ?_);show b4 _ _ (callAny (.type "set") _) _ _ _;refine fq ⟨Code.quiet_builtin _ ⋯,codeAny_builtin F.entry_type_call ?_⟩;rw[dU.under_plain (weight_type_call_type "set" [x] []) rfl];have ai:=F.called_set.notType;have ar:=F.called_set.canCreate;have alg:=F.typeCall_set_1 x
 repeat (any_goals (first|assumption|wp_step))
 refine uO (PySem.code_set_new_1 x (E:=E) (Q₁:=fun obj eu=>∃led:Bool,obj=.ref s.heap.objs.size/\eu={s with heap:=s.heap.push (kU led)}) fun led=>⟨led,I,I⟩) fun r eu aw=>?_;cases r with
 |error e=>exact aw
 | ok fG =>
  cases fG with
  | ret obj =>
   obtain⟨led,rfl,rfl⟩:=aw;have df:(s.heap.push (kU led)).get? s.heap.objs.size=J (kU led):=hA _ rfl;have cc:aR.TypeIs {s with heap:=s.heap.push (kU led)} (.ref s.heap.objs.size) "set":=⟨_,df,rfl⟩;have alr:=F.called_set.init.lookup;have alb:=F.called_set.init.bind (.ref s.heap.objs.size)
   repeat (any_goals (first|assumption|wp_step))
   refine uO (SK (R:=wants (DE prog w s val n) E) F.called_set.init.plain F.entry_set_init (PySem.check_set_init_1 cc ?_)) fun aiY n2 IT=>?_
   .exact gy led
   ·cases aiY with
    |error e=>exact IT
    | ok acD =>
     cases acD with
     |ret r =>
      obtain⟨rfl,h',dQ,rfl,nJ,r8⟩:=IT
      repeat (any_goals (first|assumption|wp_step))
      exact h _ _ nJ r8
     |_=>exact IT.elim
  |_=>exact aw.elim
def aa8{l:af}{items:Array av}(gG:A.handled=ax)(aB:s.heap.IsList l items)(bR:∀(i:Nat)(v:av),items[i]?=J v->∃t,v=.str (val i) t)(ag:items.size+1<scanBound)(led:Bool):xy prog w A E s (.ref l) val items.size led:=by
 unfold xy;obtain⟨ol,q0,kP,nl,la⟩:=aB;obtain⟨alZ,agr,al0,agt⟩:=ol;simp only at kP la;subst kP;subst la;have df:(s.heap.push (kU led)).get? s.heap.objs.size=J (kU led):=hA _ rfl;have aeh:(s.heap.push (kU led)).get? l=J {cls :=.type "list",dict:=agr,data :=.seq items nl,slots:=agt}:=fV _ q0;have aex:=F.sub_list_set;have aew:=F.sub_list_frozenset;have mY:(av.type "list" == av.type "dict")=aE:=by decide
 have lR:(s.heap.push (kU led)).IsList l items:=⟨_,aeh,rfl,nl,rfl⟩;unfold de.«set.__init__» noKeywords de.Frozenset.updateFrom;generalize Ib:pyIter=iE
 wp_walk
 subst Ib;refine wpAny_pyIter_list lR ?_;refine cq (wpAny_runValue ?_);have Pm:l<s.heap.objs.size:=e2 q0;have It:A.in1.in1.in1.handled=ax:=by simp[gG]
 have g9:(s.heap.push (kU led)).objs.size=s.heap.objs.size+1:=bG.size_push ..;have aea:l≠(s.heap.push (kU led)).objs.size:=by rw[g9];exact hl (Nat.lt_succ_of_lt Pm)
 have wg:s.heap.objs.size∉[(s.heap.push (kU led)).objs.size,l]:=fun z=>by
  rw[g9]at z;rcases dd.mp z with y|y
  .exact absurd y (hl (Nat.lt_succ_self _))
  .exact absurd (ft.mp y) (Nat.ne_of_gt Pm)
 refine Mx ((Walks.list It _ l aea items).toS) s.heap.objs.size wg val bR ag items.size 0 _ (by lia) (UF _) ⟨⟨_,hA _ I,I,I⟩,lR.push _⟩ ?_ ?_
 .exact PyProof.Rows.SetOf_congr ((PyProof.Rows.setObjOf_fresh (knd:=PySem.strKind prog w) led).setOf (fV _ df) (by unfold scanBound;lia)) (fun _=>I) I
 ·intro br hm nJ;obtain⟨h',g',d',J9,zB⟩:=br;have oS:g'=s.gens:=hm.gens;have kq:d'=s.drawn:=hm.drawn;have HK:zB=s.os:=hm.os;subst oS;subst kq;subst HK;refine fq ?_;refine fq (a:=Fin.done (Flow.ret av.none)) ⟨I,h',J9,I,nJ,fun b o r3 e=>?_⟩;refine hm.heap b o (fun z=>?_) (fV _ (fV _ e));rcases dd.mp z with y|y
  .exact absurd y (hl r3)
  ·rcases dd.mp y with y|y
   .rw[g9]at y;exact absurd y (hl (Nat.lt_succ_of_lt r3))
   .cases y
end
section
variable {prog:dI} {w:dc} {A:dU} {E:av->aR->Prop} {s:aR}
noncomputable def signsOf(x:ae)(i:Nat):ae:=⟨#[x.cps.getD i 0]⟩
def aa7{t:Tok}(gG:A.handled=ax)(ag:x.cps.size+1<scanBound)(led:Bool):xy prog w A E s (.str x t) (signsOf x) x.cps.size led:=by
 unfold xy;have df:(s.heap.push (kU led)).get? s.heap.objs.size=J (kU led):=hA _ rfl;have aex:=F.sub_str_set;have aew:=F.sub_str_frozenset;have mY:(av.type "str" == av.type "dict")=aE:=by decide
 unfold de.«set.__init__» noKeywords de.Frozenset.updateFrom;generalize Ib:pyIter=iE
 wp_walk
 subst Ib;have g9:(s.heap.push (kU led)).objs.size=s.heap.objs.size+1:=bG.size_push ..;refine wpAny_pyIter_str (s:={s with heap:=s.heap.push (kU led)}) fun o St W DQ=>?_;refine cq (wpAny_runValue ?_);have It:A.in1.in1.in1.handled=ax:=by simp[gG]
 have wg:s.heap.objs.size∉[(s.heap.push (kU led)).objs.size]:=fun z=>by
  rw[g9]at z;exact absurd (ft.mp z) (hl (Nat.lt_succ_self _))
 refine Mx ((W _ It).toS) s.heap.objs.size wg (signsOf x) (fun i v bR=>?_) ag x.cps.size 0 _ (by lia) (UF _) DQ ?_ ?_
 ·obtain⟨c,u,hc,rfl⟩:=bR;refine⟨u,?_⟩;unfold signsOf;rw[Array.getD_eq_getD_getElem?,hc];rfl
 .exact PyProof.Rows.SetOf_congr ((PyProof.Rows.setObjOf_fresh (knd:=PySem.strKind prog w) led).setOf (fV _ df) (by unfold scanBound;lia)) (fun _=>I) I
 ·intro br hm nJ;obtain⟨h',g',d',J9,zB⟩:=br;have oS:g'=s.gens:=hm.gens;have kq:d'=s.drawn:=hm.drawn;have HK:zB=s.os:=hm.os;subst oS;subst kq;subst HK;refine fq ?_;refine fq (a:=Fin.done (Flow.ret av.none)) ⟨I,h',J9,I,nJ,fun b o' r3 e=>?_⟩;refine hm.heap b o' (fun z=>?_) (fV _ (fV _ e));rcases dd.mp z with y|y
  .exact absurd y (hl r3)
  ·have y:=ft.mp y;rw[g9]at y;exact absurd y (hl (Nat.lt_succ_of_lt r3))
def aaf{S:af}(cc:oC prog w s.heap S val i)(h:Q (.int ((gR val i).length:Nat) (s.toks+1)) {s with toks:=s.toks+1+1}):b4 (model prog w) A (call (.builtin "len") [.ref S]) Q E s:=by
 obtain⟨o,aZ,gh,t,aN,hex,hd,_,_,ag,aA,aV⟩:=cc;refine call_len_set aN hex hd aA (by unfold scanBound at ag;lia) ?_;rw[aV];exact h
end
section
variable {X:bQ} {bh p cn DB:Pos} {e:cU} {cJ:TE}
def E7(K:bS)(H:al)(x:V)(val:Nat->ae)(n:Nat):Prop:=(∃a,x=.ref a/\cZ K H a ((List.range n).map fun i=>V.str (val i)))\/(∃z,x=.str z/\n=z.cps.size/\val=signsOf z)
def ajv(K:bS)(cJ:TE):TE:=fun U H Q=>cJ U H fun x H1=>∃val n,E7 K H1 x val n/\n+1<scanBound/\Q (.int ((gR val n).length:Nat)) H1
def MC(eZ:X.calm=ah)(adU:je X "len")(ad5:X.mg "len"=ax)(adW:je X "set")(ad6:X.mg "set"=ax)(he:cH X e cJ)
  (eo:rg (en [.Call (.Name "set" cn) [e] [] DB] X.env=[(aE,eval (.Call (.Name "set" cn) [e] [] DB) X.env)]) w8) (ff:rg (en [e] X.env=[(aE,eval e X.env)]) w8) :
  cH X (.Call (.Name "len" p) [.Call (.Name "set" cn) [e] [] DB] [] bh) (ajv X.K cJ):=by
 intro au s U H Q aa h;refine uP (mD aa adU ad5 dv ?_ (by decide) (by decide));refine PyProof.Rows.callWith_builtin1 ?_ (eo.trans I) I;rw[eo];show b4 _ _ (spliced ((aE,eval (.Call (.Name "set" cn) [e] [] DB) X.env)::[])) _ _ s;refine Calls.spliced_cons (uP (mD aa adW ad6 (by decide+kernel:kg "set"=J (.type "set")) ?_ (by decide) (by decide)));refine PyProof.Rows.callWith_type1 ?_ (ff.trans I) I;rw[ff];show b4 _ _ (spliced ((aE,eval e X.env)::[])) _ _ s;refine Calls.spliced_cons (dt (he au s U H _ aa h) fun u s1 cb=>?_);obtain⟨x,H1,bB,cf,val,n,aq,ag,q⟩:=cb;refine Calls.spliced_nil ?_
 have dp:∀(h':bG)(dQ:Nat),oC X.prog X.w h' s1.heap.objs.size val n->(∀b o,b<s1.heap.objs.size->s1.heap.get? b=J o->h'.get? b=J o)->b4 (model X.prog X.w) X.A (spliced []) (fun vs eu=>b4 (model X.prog X.w) X.A (call (.builtin "len") (.ref s1.heap.objs.size::vs)) (jd X au U Q) X.xe eu) X.xe {s1 with heap:=h',toks:=dQ}:=fun h' dQ cc hk=>by
  refine Calls.spliced_nil (aaf (s:={s1 with heap:=h',toks:=dQ}) cc ?_);exact⟨.int _,H1,bB.kept (h':=h') (t':=dQ+1+1) fun b o eG=>hk b o (e2 eG) eG,⟨_,I⟩,q⟩
 rcases aq with⟨a,rfl,bo⟩|⟨z,rfl,rfl,rfl⟩
 ·obtain rfl:u=av.ref a:=cf;obtain⟨bq,d2,pl,bV⟩:=bB.list bo;have c1:=d2.length;rw[cA,kK]at c1;have g9:bq.toArray.size=n:=by rw[eU];lia
  refine Mj (fun led=>?_) dp;have aF:=aa8 (prog:=X.prog) (w:=X.w) (E:=X.xe) (val:=val) (bB.ok.hd eZ) pl.isList (fun i v bR=>?_) (by rw[g9];exact ag) led
  .rw[g9]at aF;exact aF
  ·have tW:bq[i]?=J v:=by simpa using bR
   have Pb:i<n:=by rw[c1];exact(gr.mp tW).1
   obtain⟨u,cz,e1⟩:=d2.get (i:=i) (x :=.str (val i)) (by rw[eD,List.getElem?_range Pb];rfl);rw[tW]at cz;cases cz;exact e1
 ·obtain⟨t,rfl⟩:=cf;exact Mj (fun led=>aa7 (bB.ok.hd eZ) ag led) dp
end
end c7
end
variable {y:ae} {v:c7.V} {T j5:af} {X:List af} {B:c7.al} {et:List c7.V} {use:Option (av->Sem Unit)} {Qf:av->aR->Prop}
section
namespace c7
open PySem PySem.W PySem.Spec PyProof.Rows
def Uc{Q:bI}{D:af}(keep:Nat->Bool)(f:Nat->V)(S:St->Prop)(bV:x.cps.size<=cg)(aX:S ew)(c2:H D=ax)
  (bc:∀c,c∈x.cps.toList->∀bE H1,S bE->dY H H1->∀(R:St->V->al->Prop)(jz:St->al->Prop),(∀bg,S bg->if keep c=ah then R bg (f c) H1 else jz bg H1)->g (.str ⟨#[c]⟩) bE H1 fun bg ao=>gm bg ao fun b bp=>if b=ah then cJ bg bp fun y gJ=>R bg y gJ else jz bg bp)
  (bo:Q (.ref D) (upd H D (.lst ((x.cps.toList.filter keep).map f)))) :
  k0 (u7 x) g gm cJ Q ew H D:=by
 have aV:x.cps.toList.length=x.cps.size:=jh;refine⟨fun i m bE ao=>i<=x.cps.size/\m=x.cps.size-i/\S bE/\ao=upd H D (.lst (((x.cps.toList.take i).filter keep).map f)),⟨x.cps.size,UF _,I,aX,I⟩,?_⟩;rintro i m bE ao ⟨ai,rfl,ar,rfl⟩;rcases g5 i x.cps.size with z|z
 ·refine .inr ⟨z,?_⟩;rintro y bp ⟨rfl,c,hc,rfl⟩;have ml:x.cps.toList[i]?=J c:=by rw[Array.getElem?_toList];exact hc
  refine bc c (eY ml) bE _ ar (cE c2) (fun bg y dm=>∃ay bU,dm D=J (.lst ay)/\ay.length<cg/\bU<x.cps.size-i/\(i+1<=x.cps.size/\bU=x.cps.size-(i+1)/\S bg/\upd dm D (.lst (ay++[y]))=upd H D (.lst (((x.cps.toList.take (i+1)).filter keep).map f))))
   (fun bg gZ=>∃bU,bU<x.cps.size-i/\(i+1<=x.cps.size/\bU=x.cps.size-(i+1)/\S bg/\gZ=upd H D (.lst (((x.cps.toList.take (i+1)).filter keep).map f)))) fun bg eS=>?_
  have jo:x.cps.toList.take (i+1)=x.cps.toList.take i++[c]:=by rw[iG,ml];rfl
  by_cases hk:keep c=ah
  ·rw[if_pos hk];refine⟨_,x.cps.size-(i+1),aG,?_,by lia,by lia,rfl,eS,?_⟩
   ·rw[cA];have:=List.length_filter_le keep (x.cps.toList.take i);rw[hN]at this;lia
   .rw[fW,jo,List.filter_append,fP,List.filter_cons_of_pos hk];rfl
  ·rw[if_neg hk];refine⟨x.cps.size-(i+1),by lia,by lia,rfl,eS,?_⟩;rw[jo,List.filter_append,fP,List.filter_cons_of_neg hk];simp
 ·have e:i=x.cps.size:=by lia
  subst e;rw[UV (by lia)];exact .inl ⟨cp _,bo⟩
def BW{Q:bI}{D:af}(f:Nat->V)(S:St->Prop)(bV:x.cps.size<=cg)(aX:S ew)(c2:H D=ax)
  (bc:∀c,c∈x.cps.toList->∀bE H1,S bE->dY H H1->∀R:St->V->al->Prop,(∀bg,S bg->R bg (f c) H1)->g (.str ⟨#[c]⟩) bE H1 fun bg ao=>cJ bg ao fun y gJ=>R bg y gJ)
  (bo:Q (.ref D) (upd H D (.lst (x.cps.toList.map f)))) :
  k0 (u7 x) g n4 cJ Q ew H D:=by
 refine Uc (fun _=>ah) f S bV aX c2 (fun c hc bE H1 df hs R jz bN=>?_) (by rw[List.filter_eq_self.mpr fun _ _=>rfl];exact bo);exact bc c hc bE H1 df hs R fun bg ar=>by have:=bN bg ar;rwa [if_pos rfl]at this
structure Ext(H H':al):Prop where
 s:dY H H'
 c:jH H->jH H'
theorem Ext.refl(H:al):Ext H H:=⟨dY.refl _,id⟩
variable {A:al}
theorem Ext.trans{C:al}(a:Ext A B)(b:Ext B C):Ext A C:=⟨a.s.trans b.s,fun z=>b.c (a.c z)⟩
def Ext.new(h:H p=ax)(aN:lF (upd H p o) p o):Ext H (upd H p o):=⟨cE h,fun c=>vv c h aN⟩
theorem Ext.lst(h:H p=ax):Ext H (upd H p (.lst xs)) :=.new h trivial
theorem Ext.tup(h:H p=ax):Ext H (upd H p (.tup xs)) :=.new h trivial
def Ext.made{x ak:af}{fs:List (ae×V)}(ai:H x=ax)(ar:H ak=ax)(bz:ak≠x):Ext H (upd (upd H ak (.own x)) x (.ins C ak fs)):=by
 have aq:upd H ak (.own x) x=ax:=by rw[bC (ei bz)];exact ai
 refine⟨(cE ar).trans (cE aq),fun c=>vv (vv c ar trivial) aq ?_⟩;show upd (upd H ak (.own x)) x (.ins C ak fs) ak=J (.own x);rw[bC bz];exact aG
def Ext.sub(e:Ext H H'):Sub H H' H' :=.all (fun b o h=>⟨o,e.s b o h⟩) e.c
def vQ(x y:ae):(x++y).cps.toList=x.cps.toList++y.cps.toList:=Array.toList_append
def pU(x y:ae):(x++y).length=x.length+y.length:=Array.size_append
structure mI(n:Nat)(S:List Nat)(x:ae):Prop where
 n:x.length<=n
 s:∀c,c∈x.cps.toList->c∈S
variable {S:List Nat}
def mI.app(h:mI n S x)(h':mI m S y):mI (n+m) S (x++y):=⟨by rw[pU];have:=h.n;have:=h'.n;lia,fun c hc=>by
 rw[vQ]at hc
 exact(List.mem_append.mp hc).elim (h.s c) (h'.s c)⟩
variable {c:Nat}
def mI.one(h:c∈S):mI 1 S ⟨#[c]⟩:=⟨cp _,fun d hd=>by rw[ft.mp hd];exact h⟩
theorem mI.slice(h:mI n S x)(lo aF:Option Int):mI n S (Txt.slice x lo aF):=by
 have e:=dE.vF x lo aF;refine⟨?_,fun c hc=>h.s c ?_⟩
 ·have aS:=congrArg List.length e;rw[hN,ie]at aS;have gw:(Txt.slice x lo aF).cps.toList.length=(Txt.slice x lo aF).length:=jh;have ho:x.cps.toList.length=x.length:=jh;have:=h.n;lia
 ·rw[e]at hc;exact List.mem_of_mem_drop (List.mem_of_mem_take hc)
def LW(x:ae)(k:Nat)(h:k<=x.length):(Txt.slice x ax (J (k:Int))).length=k:=by
 have aS:=congrArg List.length (dE.vF x ax (J (k:Int)));rw[du.uw,du.zL,List.drop_zero,hN]at aS;have gw:(Txt.slice x ax (J (k:Int))).cps.toList.length=(Txt.slice x ax (J (k:Int))).length:=jh;have ho:x.cps.toList.length=x.length:=jh;lia
def LL(x:ae)(k:Nat)(h:k<=x.length):(Txt.slice x (J (k:Int)) ax).length=x.length-k:=by
 have aS:=congrArg List.length (dE.vF x (J (k:Int)) ax);rw[du.uw,du.zL,hN,ie]at aS;have gw:(Txt.slice x (J (k:Int)) ax).cps.toList.length=(Txt.slice x (J (k:Int)) ax).length:=jh;have ho:x.cps.toList.length=x.length:=jh;lia
def Wi(h:k<x.length):∃c,c∈x.cps.toList/\ed x.cps.toList ((k:Nat):Int)=J c:=by
 have h':k<x.cps.toList.length:=by rw[jh];exact h
 exact⟨x.cps.toList[k],List.getElem_mem h',cT (cI h')⟩
noncomputable def Cj(ns:List ae):Nat:=(gR (fun i=>ns.getD i ae.empty) ns.length).length
noncomputable def Ck(s:ae):Nat:=(gR (signsOf s) s.cps.size).length
def WT(ns:List ae):Cj ns<=ns.length:=ya ..
def WS(s:ae):Ck s<=s.length:=ya ..
def Me(ns:List ae):((List.range ns.length).map fun i=>V.str (ns.getD i ae.empty))=ns.map V.str:=by
 apply List.ext_getElem
 .rw[cA,kK,cA]
 ·intro i ai ar;rw[cA]at ar;rw[ko,ko,List.getElem_range,eJ,cI ar];rfl
variable {a:af}
def Zo(h:cZ K H a (ns.map V.str)):E7 K H (.ref a) (fun i=>ns.getD i ae.empty) ns.length :=.inl ⟨a,rfl,by rw[Me];exact h⟩
def ZX(s:ae):E7 K H (.str s) (signsOf s) s.cps.size :=.inr ⟨s,rfl,rfl,rfl⟩
noncomputable def kG:ae:="abcdefghijklmnopqrstuvwxyz"
noncomputable def qx:ae:="abcdefghijklmnopqrstuvwxyzABCDEFGHIJKLMNOPQRSTUVWXYZ0123456789"
noncomputable def js(t s:ae):Bool:=t.cps.toList.all fun c=>decide (c∈s.cps.toList)
def Wm:qx.length=62:=⋯
def Hg:kG.length=26:=⋯
noncomputable def oU(s:ae):Bool:=decide (s.length≠0/\s.length<=60/\Ck s=s.length)&&js s qx
noncomputable def isName(n:ae):Bool:=decide (0<n.length/\n.length<=12)&&js n kG
noncomputable def lP(ns:List ae):Bool:=decide (ns.length≠0/\ns.length<=20/\Cj ns=ns.length)&&ns.all isName
def Vq(s:ae):s=ae.ofString ""↔s.length=0:=by
 have e:ae.ofString ""=⟨#[]⟩:=⋯;rw[e];constructor
 .rintro rfl;rfl
 ·intro h;obtain⟨c⟩:=s;have:c=#[]:=Array.eq_empty_of_size_eq_zero h;rw[this]
def BL{b:af}{x y:cX}(h:a≠b):upd (upd H a x) b y=upd (upd H b y) a x:=by
 funext c;by_cases ai:c=b
 ·subst ai;rw[aG,bC (ei h),aG]
 ·rw[bC ai];by_cases ar:c=a
  ·subst ar;rw[aG,aG]
  .rw[bC ar,bC ar,bC ai]
variable {l:List V}
def vw{D:af}(h:H D=J (.lst l))(c:jH H):jH (upd H D (.lst et)):=fun b u e=>by
 by_cases z:b=D
 .subst z;rw[aG]at e;cases e;trivial
 ·rw[bC z]at e;have sA:=c b u e;clear e
  induction u with
  |ins C ak fs =>
   have fJ:H ak=J (.own b):=sA;show upd H D (.lst et) ak=J (.own b);rw[bC fun z=>by rw[z,h]at fJ;cases fJ];exact fJ
  |iM eh u bK=>exact bK sA
  |_=>trivial
def Ext.set{D:af}(aX:H D=ax)(e:Ext H H')(h:H' D=J (.lst l)):Ext H (upd H' D (.lst et)) :=
 ⟨fun b u q=>by rw[bC (fe q aX)];exact e.s b u q,fun c=>vw h (e.c c)⟩
theorem GW(val:Nat->ae):∀n k,k∈gR val n->∃i,i<n/\k=val i
 |0,k,h=>by cases h
 | n+1,k,h=>by
  unfold gR at h;by_cases z:val n∈gR val n
  ·rw[if_pos z]at h;obtain⟨i,aF,e⟩:=GW val n k h;exact⟨i,by lia,e⟩
  ·rw[if_neg z]at h;rcases List.mem_append.mp h with y|y
   ·obtain⟨i,aF,e⟩:=GW val n k y;exact⟨i,by lia,e⟩
   .exact⟨n,Nat.lt_succ_self _,ft.mp y⟩
theorem GX(val:Nat->ae):∀n,(∀i j,i<n->j<n->val i=val j->i=j)->(gR val n).length=n
 |0,_=>rfl
 | n+1,h=>by
  unfold gR
  have z:val n∉gR val n:=fun z=>by
   obtain⟨i,aF,e⟩:=GW val n _ z;have:=h n i (Nat.lt_succ_self _) (by lia) e;lia
  rw[if_neg z,dP,GX val n fun i j aF b0 e=>h i j (by lia) (by lia) e];rfl
def abi{s:ae}(h:s.cps.toList.Nodup):Ck s=s.length:=by
 refine GX _ _ fun i j aF b0 e=>?_;unfold signsOf at e;injection e with e;have e:=congrArg (fun a=>a[0]?) e;simp only[List.getElem?_toArray,List.getElem?_cons_zero,Option.some.injEq]at e;have tQ:i<s.cps.toList.length:=by rw[jh];exact aF
 have Pf:j<s.cps.toList.length:=by rw[jh];exact b0
 have g:∀k(hk:k<s.cps.toList.length),s.cps.getD k 0=s.cps.toList[k]:=fun k hk=>by
  rw[Array.getD_eq_getD_getElem?,<-Array.getElem?_toList,cI hk];rfl
 rw[g i tQ,g j Pf]at e;exact(List.getElem_inj h).mp e
def abj(h:ns.Nodup):Cj ns=ns.length:=by
 refine GX _ _ fun i j aF b0 e=>?_
 have g:∀k(hk:k<ns.length),ns.getD k ae.empty=ns[k]:=fun k hk=>by
  rw[eJ,cI hk];rfl
 rw[g i aF,g j b0]at e;exact(List.getElem_inj h).mp e
def Ul:qx.cps.toList.Nodup:=⋯
def Um:kG.cps.toList.Nodup:=⋯
def aal{f r:ae}(h:(f.cps.toList++r.cps.toList).Perm qx.cps.toList)(aX:f.length≠0)(ai:f.length<=60):oU f=ah:=by
 have bj:(f.cps.toList++r.cps.toList).Nodup:=h.nodup_iff.mpr Ul;have su:f.cps.toList.Nodup:=(List.nodup_append.mp bj).1;unfold oU;rw[eT ⟨aX,ai,abi su⟩,Bool.true_and];unfold js;rw[ig];exact fun c hc=>eT (h.mem_iff.mp (List.mem_append_left _ hc))
def aaP{f r a b:List Nat}{x:Nat}(e:r=a++x::b):((f++[x])++(a++b)).Perm (f++r):=by
 subst e;rw[gL];exact List.Perm.append_left f (List.perm_middle (a:=x) (l₁:=a) (l₂:=b)).symm
def aaA(h:k<x.length):∃c,ed x.cps.toList ((k:Nat):Int)=J c/\x.cps.toList=(Txt.slice x ax (J (k:Int))).cps.toList++c::(Txt.slice x (J ((k+1:Nat):Int)) ax).cps.toList:=by
 have ho:x.cps.toList.length=x.length:=jh;have h':k<x.cps.toList.length:=by lia
 refine⟨x.cps.toList[k],cT (cI h'),?_⟩;rw[dE.vF,dE.vF,du.uw,du.zL,du.zL,du.uw,List.drop_zero,Nat.sub_zero,Nat.min_eq_left (by lia),Nat.min_eq_left (by lia),UV (l:=List.drop (k+1) _) (by rw[ie];lia)];rw[<-nq h',List.take_append_drop]
def VT{s:ae}{a:Int}(e:(Txt.slice s ax (J a)++⟨#[c]⟩)++Txt.slice s (J a) ax=(Txt.slice s ax (J a)++⟨#[d]⟩)++Txt.slice s (J a) ax):c=d:=by
 have e:=congrArg (fun x=>x.cps.toList) e;simp only[vQ]at e;have e:=List.append_cancel_right e;have e:=List.append_cancel_left e;have:[c]=[d]:=e;exact List.head_eq_of_cons_eq this
def Ut{f x:Int}(aq:x∈([1,3,5,7,9,11]:List Int))(aF:i<26)(b0:j<26)(e:(f+(0+((i:Nat):Int))*x)%26=(f+(0+((j:Nat):Int))*x)%26):i=j:=by
 have h:=Int.emod_add_cancel_left.mp e;rw[Int.zero_add,Int.zero_add]at h;exact congrArg Fin.val ((by decide+kernel:∀x∈([1,3,5,7,9,11]:List Int),∀i j:Fin 26,((i.val:Nat):Int)*x%26=((j.val:Nat):Int)*x%26->i=j) x aq ⟨i,aF⟩ ⟨j,b0⟩ h)
def aa5{n:ae}(h:mI 12 kG.cps.toList n)(aX:0<n.length):isName n=ah:=by
 unfold isName;rw[eT ⟨aX,h.n⟩,Bool.true_and];unfold js;rw[ig];exact fun c hc=>eT (h.s c hc)
def Zg(aX:ns.length≠0)(ai:ns.length<=20)(aV:ns.Nodup)(hs:∀n,n∈ns->isName n=ah):lP ns=ah:=by
 unfold lP;rw[eT ⟨aX,ai,abj aV⟩,Bool.true_and,ig];exact hs
def aaj{n:ae}(h:isName n=ah):n.length<=12:=by
 unfold isName at h;simp only[g4,kn]at h;exact h.1.2
def qH(h:lP ns=ah):ns.length<=20/\∀n,n∈ns->n.length<=12:=by
 unfold lP at h;simp only[g4,kn,ig]at h;exact⟨h.1.2.1,fun n aV=>aaj (h.2 n aV)⟩
structure ez(p:af)(H H':al):Prop where
 k:∀b u,b≠p->H b=J u->H' b=J u
 l:∃ns:List Int,H' p=J (.lst (ns.map V.int))/\ns.length<=90
 c:jH H->jH H'
def ox(p:af)(H:al):Prop:=∃ns:List Int,H p=J (.lst (ns.map V.int))/\ns.length<=90
def ez.refl(h:ox p H):ez p H H:=⟨fun _ _ _ e=>e,h,id⟩
def ez.trans{C:al}(a:ez p A B)(b:ez p B C):ez p A C:=⟨fun x u n e=>b.k x u n (a.k x u n e),b.l,fun c=>b.c (a.c c)⟩
def ez.ext{C:al}(a:ez p A B)(b:Ext B C):ez p A C:=by
 obtain⟨ns,h,aV⟩:=a.l;exact⟨fun x u n e=>b.s x u (a.k x u n e),⟨ns,b.s _ _ h,aV⟩,fun c=>b.c (a.c c)⟩
def ez.pop{ns:List Int}(h:ox p H)(aV:ns.length<=90):ez p H (upd H p (.lst (ns.map V.int))):=by
 obtain⟨ms,e,_⟩:=h;exact⟨fun b u nb q=>by rw[bC nb];exact q,⟨ns,aG,aV⟩,fun c=>vw e c⟩
def ez.sub(h:ez p H H'):Sub H H' H' :=.all (fun b o e=>by
 by_cases z:b=p
 ·subst z;obtain⟨ns,e,_⟩:=h.l;exact⟨_,e⟩
 .exact⟨o,h.k b o z e⟩) h.c
def ez.free{b:af}(h:ez p H H')(e:H' b=ax):H b=ax:=by
 cases z:H b with
 |none=>rfl
 | some u =>
  by_cases y:b=p
  ·subst y;obtain⟨ns,q,_⟩:=h.l;rw[e]at q;cases q
  .rw[h.k b u y z]at e;cases e
def aY.none{st:bA}{f:af}{sp:cv}(F:dD K mg x st aQ f fd)(h:∀vs H Q E,¬sp vs H Q E):aY P w K mg zn k x aQ sp :=
 ⟨f,fd,⟨fun vs H Q E q=>absurd q (h _ _ _ _),fun A outer s H args us vs Q E _ _ _ _ q=>absurd q (h _ _ _ _)⟩,F.2.1,F.1.mw,F.2.2⟩
def ez.set{l:af}(g:ez p H H')(aX:H l=ax)(h:H' l=J (.lst xs))(aB:l≠p):ez p H (upd H' l (.lst ay)):=by
 obtain⟨ns,e,aV⟩:=g.l;exact⟨fun b u nb q=>by rw[bC (fe q aX)];exact g.k b u nb q,⟨ns,by rw[bC (ei aB)];exact e,aV⟩,fun c=>vw h (g.c c)⟩
def ez.ne{l:af}(g:ez p H H')(h:H' l=ax):l≠p:=fun z=>by
 obtain⟨ns,e,_⟩:=g.l;rw[z,e]at h;cases h
section
variable {X:bQ}
noncomputable def aiQ:V->List V->al->bI->Prop:=fun x vs H Q=>∃(l:af)(ws:List ae)(w:ae)(k:Nat),x=.ref l/\vs=[.str w]/\H l=J (.lst (ws.map V.str))/\ws[k]?=J w/\(∀j,j<k->ws[j]?≠J w)/\ws.length<100000/\Q (.int ((k:Nat):Int)) H
def xU:vp X "list.index" aiQ:=by
 intro au s U H x vs v us Q aa bu d2 h;obtain⟨l,ws,w,k,rfl,rfl,j8,hk,y1,bV,q⟩:=h;cases bu;obtain⟨hx,rfl,⟨t,rfl⟩⟩:=vals1 d2;obtain⟨z,bq,n,ir,aB,e⟩:=aa.t2 j8;have c1:=ir.length;rw[cA]at c1;have Pj:k<ws.length:=(gr.mp hk).1
 have i4:∀(j:Nat)(b0:j<bq.length),∃t',bq[j] =.str (ws[j]'(by lia)) t':=fun j b0=>by
  obtain⟨u,cz,e1⟩:=ir.get (i:=j) (x :=.str (ws[j]'(by lia))) (by rw[eD,cI (by lia)];rfl);rw[cI b0]at cz;obtain⟨t',IY⟩:=(show ∃t,u=av.str _ t from e1);exact⟨t',by rw[<-IY];exact gq cz⟩
 let mN:av->Bool:=fun y=>match y with|.str a _=>decide (a=w)|_=>aE
 have he:∀y,y∈bq.toArray->MeetsSeq.EqGives y (.str w t) (mN y):=fun y aW=>by
  obtain⟨j,b0,rfl⟩:=List.mem_iff_getElem.mp (List.mem_toArray.mp aW);obtain⟨t',e'⟩:=i4 j b0;rw[e'];exact N0 _ _ _ _
 have p8:mN (bq.toArray[k]'(by rw[eU];lia))=ah:=by
  obtain⟨t',e'⟩:=i4 k (by lia);rw[List.getElem_toArray,e'];have:=(gr.mp hk).2;show decide (_=_)=ah;rw[this];exact eT I
 have IH:∀m(hm:m<bq.toArray.size),m<k->mN bq.toArray[m]=aE:=fun m hm IG=>by
  rw[eU]at hm;obtain⟨t',e'⟩:=i4 m hm;rw[List.getElem_toArray,e'];show decide (_=_)=aE;refine fL fun z=>y1 m IG ?_;rw[cI (by lia),z]
 refine call_meets F.slot_list_index ⟨_,e,I⟩ F.entry_list_index (F.args_list_index_2 _ _) (MeetsSeq.list_index l bq.toArray n (.str w t) mN he k (by rw[eU];lia) (by lia) p8 IH) ⟨e,?_⟩;exact⟨.int _,H,aa.tok _,⟨_,I⟩,q⟩
end
inductive bH where
 |bare (k:Fin 4)
 |sp (a b:Int)
 |le (s:ae)
 |one (k:Fin 3) (f:bH)
 |two (k:Fin 2) (ns:List ae) (fs:List bH)
noncomputable def me(s:String):List Nat:=(ae.ofString s).cps.toList
noncomputable def num(a:Int):List Nat:=(ae.ofString (toString a)).cps.toList
noncomputable def Of(k:Fin 4):ae:=[ae.ofString "nothing",ae.ofString "truth",ae.ofString "whole",ae.ofString "fraction"][k]
noncomputable def sA(k:Fin 3):ae:=[ae.ofString "maybe",ae.ofString "many",ae.ofString "turned"][k]
noncomputable def Sv(k:Fin 2):ae:=[ae.ofString "record",ae.ofString "choice"][k]
mutual
noncomputable def b7:bH->List Nat
 |.bare k=>(Of k).cps.toList
 |.sp a b=>me "span"++(me "("++((num a++(me ", "++num b))++me ")"))
 |.le s=>me "letters"++(me "("++(s.cps.toList++me ")"))
 |.one k f=>(sA k).cps.toList++(me "("++(b7 f++me ")"))
 |.two k ns fs=>(Sv k).cps.toList++(me "("++(JD fs ns++me ")"))
noncomputable def JD:List bH->List ae->List Nat
 |[],_=>[]
 |f::fs,ns=>(ns.headD ae.empty).cps.toList++(me " "++(b7 f++(match fs with|[]=>[]|_::_=>me ", "++JD fs ns.tail)))
end
mutual
noncomputable def bc:bH->Nat
 |.bare _=>1
 |.sp _ _=>1
 |.le _=>1
 |.one _ f=>bc f+1
 |.two _ _ fs=>gV fs+1
noncomputable def gV:List bH->Nat
 |[]=>0
 |f::fs=>max (bc f) (gV fs)
end
mutual
noncomputable def m5:bH->Prop
 |.bare _=>True
 |.sp a b=>a<=b/\a.natAbs<10^58/\b.natAbs<10^58
 |.le s=>oU s=ah/\s.length<=60
 |.one _ f=>m5 f
 |.two _ ns fs=>lP ns=ah/\ns.length=fs.length/\sy fs
noncomputable def sy:List bH->Prop
 |[]=>True
 |f::fs=>m5 f/\sy fs
end
structure ey where
 b:Fin 4->af
 s:af
 l:af
 o:Fin 3->af
 t:Fin 2->af
mutual
noncomputable def b6(c:ey)(X:List af)(H:al):bH->af->Prop
 |.bare k,o=>o∉X/\∃ak,H o=J (.ins (c.b k) ak [])
 |.sp a b,o=>o∉X/\∃ak,H o=J (.ins c.s ak [("low",.int a),("high",.int b)])
 |.le s,o=>o∉X/\∃ak,H o=J (.ins c.l ak [("signs",.str s)])
 |.one k f,o=>o∉X/\∃ak i,H o=J (.ins (c.o k) ak [("inner",.ref i)])/\b6 c X H f i
 |.two k ns fs,o=>o∉X/\∃ak c9 dz os,H o=J (.ins (c.t k) ak [("names",.ref c9),("forms",.ref dz)])/\c9∉X/\dz∉X/\H c9=J (.lst (ns.map V.str))/\H dz=J (.lst (os.map V.ref))/\e8 c X H fs os
noncomputable def e8(c:ey)(X:List af)(H:al):List bH->List af->Prop
 |[],os=>os=[]
 |f::fs,os=>∃o r,os=o::r/\b6 c X H f o/\e8 c X H fs r
end
def hy(P:dI)(w:dc)(K:bS)(mg:ae->Option av)(zn:bG)(k:Nat)(m:ae)(aQ:List ae){rp:Type}(cl:rp->af)(sp:rp->cv):Prop:=∀i,gn P w K mg zn k (cl i) m aQ (sp i)/\fT K (cl i)
section
variable {X:bQ} {k gz:Nat} {m:ae} {aQ:List ae} {rp:Type} {cl:rp->af} {sp:rp->cv} {e o:cU} {aZ:List cU} {t:hz} {cD:TE} {bh apos:Pos}
inductive KU{rp:Type}(cl:rp->af)(m:ae)(x:V)(H:al)(R:rp->Prop):Prop where
 |mk (a:af) (i:rp) (ak:af) (fs:List (ae×V)) (e:x=.ref a) (h:H a=J (.ins (cl i) ak fs)) (l:fs.lookup m=ax) (q:R i):KU cl m x H R
def ij{pl:Sem Bool}(h:hy X.prog X.w X.K X.mg X.zn k m aQ cl sp)(aw:gT gz X.A)(he:cH X o cD)(aM:iD X (e::aZ) t)(hk:rg (k<=gz) rsr)
  (q1:rg (en (e::aZ) X.env=(aE,eval e X.env)::en aZ X.env) w8) (hq:rg ((backTo bh (en aZ X.env)).any (·.1)=aE) w8)
  (bc:rg (eval (.Call (.Attribute o m apos) (e::aZ) [] bh) X.env=(do
   let lp <-eval o X.env
   standAt apos.atName
   let (f,first) <-holding [lp] (getMethod lp m pl)
   callWith bh f first (backTo bh (en (e::aZ) X.env)) (backToKw bh (xn [] X.env)))) w8) :
  cH X (.Call (.Attribute o m apos) (e::aZ) [] bh) (fun U H Q=>cD U H fun x H1=>KU cl m x H1 fun i=>t U H1 fun vs ao=>sp i (x::vs) ao Q jx):=by
 intro au s U H Q aa bo;refine PySem.W.methodCall_KW (pl:=pl) (dt (he au s U H _ aa bo) fun u s1 cb=>?_) bc;obtain⟨x,H1,bB,bu,a,i,ak,fs,ex,cL,l,q⟩:=cb;subst ex;obtain rfl:u=av.ref a:=bu;obtain⟨⟨f,fd,F,ag,hm⟩,c⟩:=h i;refine Gq bB cL c hm l ?_;refine Kq (first:=[.ref a]) (h₀:=X.zn) aa.ok.mod.wI hm.mw (dt (aM bh au s1 U H1 _ bB q) fun us s2 cb=>?_) q1 hq;obtain⟨vs,ao,cM,r,b1⟩:=cb;refine ⟨cM.f3,?_⟩;exact B7 (us :=.ref a::us) (vs :=.ref a::vs) (dvs:=[]) (ds:=[]) F (aw.mono hk) ag .nil zE cM (.cons I r) (by rw[List.append_nil];exact b1)
end
structure d4(j5:af)(H H':al):Prop where
 k:∀b u,b≠j5->H b=J u->H' b=J u
 c:jH H->jH H'
def d4.refl(j5:af)(H:al):d4 j5 H H:=⟨fun _ _ _ e=>e,id⟩
def d4.trans{C:al}(a:d4 j5 A B)(b:d4 j5 B C):d4 j5 A C:=⟨fun x u n e=>b.k x u n (a.k x u n e),fun c=>b.c (a.c c)⟩
def d4.ext{C:al}(a:d4 j5 A B)(b:Ext B C):d4 j5 A C:=⟨fun x u n e=>b.s x u (a.k x u n e),fun c=>b.c (a.c c)⟩
def d4.move{ak:af}{fs:List (ae×V)}(h:H j5=J (.ins C ak fs)):d4 j5 H (upd H j5 (.ins C ak oT)) :=
 ⟨fun b u nb e=>by rw[bC nb];exact e,(Sub.ins (H':=upd H j5 (.ins C ak oT)) h (fun b u nb e=>by rw[bC nb];exact e) aG).cl⟩
def d4.sub(h:d4 j5 H H')(e:H' j5=J o):Sub H H' H' :=.all (fun b u q=>by
 by_cases z:b=j5
 .subst z;exact⟨_,e⟩
 .exact⟨u,h.k b u z q⟩) h.c
mutual
theorem b6.keep{c:ey}{X:List af}{H H':al}(k:∀b u,b∉X->H b=J u->H' b=J u):∀(f:bH){o:af},b6 c X H f o->b6 c X H' f o
 |.bare i,o,h=>by
  obtain⟨n,ak,e⟩:=h;exact⟨n,ak,k _ _ n e⟩
 |.sp a b,o,h=>by
  obtain⟨n,ak,e⟩:=h;exact⟨n,ak,k _ _ n e⟩
 |.le s,o,h=>by
  obtain⟨n,ak,e⟩:=h;exact⟨n,ak,k _ _ n e⟩
 |.one i f,o,h=>by
  obtain⟨n,ak,j,e,q⟩:=h;exact⟨n,ak,j,k _ _ n e,b6.keep k f q⟩
 |.two i ns fs,o,h=>by
  obtain⟨n,ak,c9,dz,os,e,e0,dS,aL,aS,q⟩:=h;exact⟨n,ak,c9,dz,os,k _ _ n e,e0,dS,k _ _ e0 aL,k _ _ dS aS,e8.keep k fs q⟩
theorem e8.keep{c:ey}{X:List af}{H H':al}(k:∀b u,b∉X->H b=J u->H' b=J u):∀(fs:List bH){os:List af},e8 c X H fs os->e8 c X H' fs os
 |[],os,h=>h
 |f::fs,os,h=>by
  obtain⟨o,r,e,q,b1⟩:=h;exact⟨o,r,e,b6.keep k f q,e8.keep k fs b1⟩
end
mutual
theorem b6.weak{c:ey}{X Y:List af}{H:al}(hs:∀x,x∈X->x∈Y):∀(f:bH){o:af},b6 c Y H f o->b6 c X H f o
 |.bare i,o,h=>⟨fun z=>h.1 (hs _ z),h.2⟩
 |.sp a b,o,h=>⟨fun z=>h.1 (hs _ z),h.2⟩
 |.le s,o,h=>⟨fun z=>h.1 (hs _ z),h.2⟩
 |.one i f,o,h=>by
  obtain⟨n,ak,j,e,q⟩:=h;exact⟨fun z=>n (hs _ z),ak,j,e,b6.weak hs f q⟩
 |.two i ns fs,o,h=>by
  obtain⟨n,ak,c9,dz,os,e,e0,dS,aL,aS,q⟩:=h;exact⟨fun z=>n (hs _ z),ak,c9,dz,os,e,fun z=>e0 (hs _ z),fun z=>dS (hs _ z),aL,aS,e8.weak hs fs q⟩
theorem e8.weak{c:ey}{X Y:List af}{H:al}(hs:∀x,x∈X->x∈Y):∀(fs:List bH){os:List af},e8 c Y H fs os->e8 c X H fs os
 |[],os,h=>h
 |f::fs,os,h=>by
  obtain⟨o,r,e,q,b1⟩:=h;exact⟨o,r,e,b6.weak hs f q,e8.weak hs fs b1⟩
end
theorem e8.len{c:ey}{X:List af}{H:al}:∀(fs:List bH){os:List af},e8 c X H fs os->os.length=fs.length
 |[],os,h=>by
  obtain rfl:os=[]:=h;rfl
 |g::fs,os,h=>by
  obtain⟨o',r,rfl,q,b1⟩:=h;rw[eb,e8.len fs b1];rfl
noncomputable def xj:bH->ae
 |.bare k=>Of k
 |.sp _ _=>ae.ofString "span"
 |.le _=>ae.ofString "letters"
 |.one k _=>sA k
 |.two k _ _=>Sv k
noncomputable def bd:bH->List Nat
 |.bare _=>[]
 |.sp a b=>num a++(me ", "++num b)
 |.le s=>s.cps.toList
 |.one _ f=>b7 f
 |.two _ ns fs=>JD fs ns
theorem vR:∀f:bH,1<=bc f
 |.bare _=>by rw[bc];exact cp _
 |.sp _ _=>by rw[bc];exact cp _
 |.le _=>by rw[bc];exact cp _
 |.one _ f=>by rw[bc];lia
 |.two _ _ fs=>by rw[bc];lia
mutual
theorem b6.add{c:ey}{X:List af}{H:al}{l:af}(aB:H l=ax):∀(f:bH){o:af},b6 c X H f o->b6 c (l::X) H f o
 |.bare i,o,h=>by
  obtain⟨n,ak,e⟩:=h;exact⟨fun z=>(dd.mp z).elim (fun y=>by rw[y,aB]at e;cases e) n,ak,e⟩
 |.sp a b,o,h=>by
  obtain⟨n,ak,e⟩:=h;exact⟨fun z=>(dd.mp z).elim (fun y=>by rw[y,aB]at e;cases e) n,ak,e⟩
 |.le s,o,h=>by
  obtain⟨n,ak,e⟩:=h;exact⟨fun z=>(dd.mp z).elim (fun y=>by rw[y,aB]at e;cases e) n,ak,e⟩
 |.one i f,o,h=>by
  obtain⟨n,ak,j,e,q⟩:=h;exact⟨fun z=>(dd.mp z).elim (fun y=>by rw[y,aB]at e;cases e) n,ak,j,e,b6.add aB f q⟩
 |.two i ns fs,o,h=>by
  obtain⟨n,ak,c9,dz,os,e,e0,dS,aL,aS,q⟩:=h;exact⟨fun z=>(dd.mp z).elim (fun y=>by rw[y,aB]at e;cases e) n,ak,c9,dz,os,e,fun z=>(dd.mp z).elim (fun y=>by rw[y,aB]at aL;cases aL) e0,fun z=>(dd.mp z).elim (fun y=>by rw[y,aB]at aS;cases aS) dS,aL,aS,e8.add aB fs q⟩
theorem e8.add{c:ey}{X:List af}{H:al}{l:af}(aB:H l=ax):∀(fs:List bH){os:List af},e8 c X H fs os->e8 c (l::X) H fs os
 |[],os,h=>h
 |f::fs,os,h=>by
  obtain⟨o,r,e,q,b1⟩:=h;exact⟨o,r,e,b6.add aB f q,e8.add aB fs b1⟩
end
inductive fO where
 |b (k:Fin 4)|s|l|o (k:Fin 3)|t (k:Fin 2)
noncomputable def fX(c:ey):fO->af
 |.b k=>c.b k
 |.s=>c.s
 |.l=>c.l
 |.o k=>c.o k
 |.t k=>c.t k
noncomputable def slot:bH->fO
 |.bare k =>.b k
 |.sp _ _ =>.s
 |.le _ =>.l
 |.one k _ =>.o k
 |.two k _ _ =>.t k
theorem b6.ins{c:ey}{m:ae}(ai:(m == ("low":ae))=aE)(ar:(m == ("high":ae))=aE)(bz:(m == ("signs":ae))=aE)(c0:(m == ("inner":ae))=aE)(es:(m == ("names":ae))=aE)(iN:(m == ("forms":ae))=aE):
  ∀(f:bH){o:af},b6 c X H f o->∃ak fs,H o=J (.ins (fX c (slot f)) ak fs)/\fs.lookup m=ax
 |.bare i,o,h=>by
  obtain⟨n,ak,e⟩:=h;exact⟨ak,_,e,I⟩
 |.sp a b,o,h=>by
  obtain⟨n,ak,e⟩:=h;exact⟨ak,_,e,by simp[List.lookup,ai,ar]⟩
 |.le s,o,h=>by
  obtain⟨n,ak,e⟩:=h;exact⟨ak,_,e,by simp[List.lookup,bz]⟩
 |.one i f,o,h=>by
  obtain⟨n,ak,j,e,q⟩:=h;exact⟨ak,_,e,by simp[List.lookup,c0]⟩
 |.two i ns fs,o,h=>by
  obtain⟨n,ak,c9,dz,os,e,_⟩:=h;exact⟨ak,_,e,by simp[List.lookup,es,iN]⟩
def ZP{Q:bI}{D:af}(f:Nat->V)(S:St->Prop)(aV:n<=100000)(aX:S ew)(c2:H D=ax)
  (bc:∀i:Nat,i<n->∀bE H1,S bE->dY H H1->∀R:St->V->al->Prop,(∀bg,S bg->R bg (f i) H1)->g (.int (lo+(i:Int))) bE H1 fun bg ao=>cJ bg ao fun y gJ=>R bg y gJ)
  (bo:Q (.ref D) (upd H D (.lst ((List.range n).map f)))):k0 (qs lo n) g n4 cJ Q ew H D:=by
 refine Ga (fun _=>ah) f S aV aX c2 (fun i aF bE H1 df hs R jz bN=>?_) (by rw[List.filter_eq_self.mpr fun _ _=>rfl];exact bo);exact bc i aF bE H1 df hs R fun bg ar=>by have:=bN bg ar;rwa [if_pos rfl]at this
def ajq(t u:fb):fb:=fun D U H=>∃bF:St->al->Prop,t {D with nx:=bF} U H/\∀b2 H',bF b2 H'->u D b2 H'
variable {X:bQ}
def B0{st:bA}{rest:List bA}{t u:fb}(ai:k3 X st t)(ar:jy X rest u):jy X (st::rest) (ajq t u):=by
 intro au s U H D aa h;obtain⟨bF,h,adj⟩:=h;refine wpAny_execs_cons (dt (ai au s U H {D with nx:=bF} aa h) fun f s1 q=>?_);cases f with
 |next =>
  obtain⟨b2,H',h8,q⟩:=q;exact ar au s1 b2 H' D h8 (adj _ _ q)
 |ret v=>exact q
 |brk=>exact q
 |cont=>exact q
inductive D where
 |bf
 |aK (b:Bool)
 |int (i:Int)
 |str (s:ae)
 |tup (ds:List D)
 |lst (ds:List D)
mutual
noncomputable def dj(H:al):D->V->Prop
 |.bf,v=>v=.bf
 |.aK b,v=>v=.aK b
 |.int i,v=>v=.int i
 |.str s,v=>v=.str s/\s.length<=16000000
 |.tup ds,v=>∃a vs,v=.ref a/\H a=J (.tup vs)/\cj H ds vs/\vs.length<=1000
 |.lst ds,v=>∃a vs,v=.ref a/\H a=J (.lst vs)/\cj H ds vs/\vs.length<=1000
noncomputable def cj(H:al):List D->List V->Prop
 |[],vs=>vs=[]
 |d::ds,vs=>∃v r,vs=v::r/\dj H d v/\cj H ds r
end
mutual
theorem dj.same{H H':al}(s:dY H H'):∀(d:D){v:V},dj H d v->dj H' d v
 |.bf,v,h=>h
 |.aK b,v,h=>h
 |.int i,v,h=>h
 |.str t,v,h=>h
 |.tup ds,v,h=>by
  obtain⟨a,vs,e,e5,q,z⟩:=h;exact⟨a,vs,e,s _ _ e5,cj.same s ds q,z⟩
 |.lst ds,v,h=>by
  obtain⟨a,vs,e,e5,q,z⟩:=h;exact⟨a,vs,e,s _ _ e5,cj.same s ds q,z⟩
theorem cj.same{H H':al}(s:dY H H'):∀(ds:List D){vs:List V},cj H ds vs->cj H' ds vs
 |[],vs,h=>h
 |d::ds,vs,h=>by
  obtain⟨v,r,e,q,b1⟩:=h;exact⟨v,r,e,dj.same s d q,cj.same s ds b1⟩
end
theorem cj.len{H:al}:∀(ds:List D){vs:List V},cj H ds vs->vs.length=ds.length
 |[],vs,h=>by
  obtain rfl:vs=[]:=h;rfl
 |g::fs,vs,h=>by
  obtain⟨o',r,rfl,q,b1⟩:=h;rw[eb,cj.len fs b1];rfl
theorem cj.get{H:al}:∀(ds:List D){vs:List V}{i:Nat}{v:V},cj H ds vs->vs[i]?=J v->∃d,ds[i]?=J d/\dj H d v
 |[],vs,i,v,h,e=>by
  obtain rfl:vs=[]:=h;cases e
 |d::ds,vs,0,v,h,e=>by
  obtain⟨o',r,rfl,q,b1⟩:=h;cases e;exact⟨d,I,q⟩
 |d::ds,vs,i+1,v,h,e=>by
  obtain⟨o',r,rfl,q,b1⟩:=h;exact cj.get ds b1 e
noncomputable def z2:D->String
 |.bf=>"NoneType"
 |.aK _=>"bool"
 |.int _=>"int"
 |.str _=>"str"
 |.tup _=>"tuple"
 |.lst _=>"list"
def dj.ty{d:D}(h:dj H d v):kI K H v (.type (z2 d)):=by
 cases d with
 |bf=>obtain rfl:v=.bf:=h;exact .bf
 |aK b=>obtain rfl:v=.aK b:=h;exact .aK b
 |int i=>obtain rfl:v=.int i:=h;exact .int i
 |str s=>obtain⟨rfl,_⟩:=h;exact .str s
 |tup ds=>obtain⟨a,vs,rfl,e,_⟩:=h;exact .tup e
 |lst ds=>obtain⟨a,vs,rfl,e,_⟩:=h;exact .lst e
noncomputable def ae4(d:D)(T:String):Bool:=z2 d == T||(z2 d == "bool"&&T == "int")
def NX(K:bS):∀a∈["NoneType","bool","int","str","tuple","list"],∀T∈["int","bool","str","tuple","list"],pF K (.type a) (.type T)=J (a == T||(a == "bool"&&T == "int")):=by
 intro a aM T cc;have r2:a="NoneType"\/a="bool"\/a="int"\/a="str"\/a="tuple"\/a="list":=by simpa using aM
 have wi:T="int"\/T="bool"\/T="str"\/T="tuple"\/T="list":=by simpa using cc
 rcases r2 with rfl|rfl|rfl|rfl|rfl|rfl<;>rcases wi with rfl|rfl|rfl|rfl|rfl<;>
  first
  |exact UO ..
  |(unfold pF;rw[if_neg (by decide)];unfold PySem.W.kitCls;kernel_rfl)
def ek(K:bS)(d:D){T:String}(cc:T∈["int","bool","str","tuple","list"]):pF K (.type (z2 d)) (.type T)=J (ae4 d T):=by
 refine NX K _ ?_ T cc;cases d<;>simp[z2]
section
variable {X:bQ}
noncomputable def agC:V->Bool
 |.bf=>ah
 |.aK _=>ah
 |.int _=>ah
 |.str _=>ah
 |.ref _=>ah
 |_=>aE
def Lo:ea X (hg .Is) (fun x y H Q=>∃b,y=.aK b/\agC x=ah/\Q (.aK (decide (x=.aK b))) H):=by
 intro au s U H x y v u Q aa bu cR h;obtain⟨b,rfl,aq,q⟩:=h;cases cR;cases x with
 |bf=>cases bu;exact fq (fD aa q (by cases b<;>rfl))
 |aK c=>cases bu;cases b<;>cases c<;>exact fq (fD aa q I)
 |int i=>obtain⟨t,rfl⟩:=bu;exact fq (fD aa q (by cases b<;>rfl))
 |str i=>obtain⟨t,rfl⟩:=bu;exact fq (fD aa q (by cases b<;>rfl))
 |ref a=>cases bu;exact fq (fD aa q (by cases b<;>rfl))
 |_=>cases aq
end
variable {t:af}
section
variable {prog:dI} {w:dc} {A:dU} {E:av->aR->Prop} {s:aR}
def YO{items:Array av}{x:av}(p8:s.heap.IsTupleIter it t i)(bc:s.heap.IsTuple t items)(aq:items[i]?=J x)(fZ:∀h',h'.IsTupleIter it t (i+1)->bG.SameBut it s.heap h'->Q x {s with heap:=h'}):
  b4 (model prog w) A (de.SmallTypes.nextOf (.ref it)) Q E s:=by
 have ty:=p8.typeIs;have Pd:=p8;obtain⟨o,aN,hc,hd⟩:=p8;obtain⟨agu,IP,_,ub,Io⟩:=bc;unfold de.SmallTypes.nextOf;refine cq (wpAny_callSpecial?_slot (name:=ae.ofString "__next__") ty F.slot_tuple_iterator_next (wpAny_call_entry F.slot_tuple_iterator_next ty F.entry_tuple_iterator_next ?_ (F.args_tuple_iterator_next_1 _)));show b4 _ _ (field (.ref it) 0 >>= _) _ _ s;refine cq (kh aN hd (x :=.ref t) I ?_);have nn:¬((av.ref t == av.none)=ah):=ia;show b4 _ _ (if(av.ref t == av.none)=ah then _ else _) _ _ s;rw[if_neg nn];show b4 _ _ (field (.ref it) 1 >>= _) _ _ s;refine cq (kh aN hd (x :=.int i 0) I ?_);show b4 _ _ (seqItems? (.ref t) >>= _) _ _ s;refine cq (sO IP Io ?_);simp only[Int.toNat_natCast,aq];refine cq (uR aN hd (by simp) (fq ⟨x,I,fq (fZ _ ⟨_,bG.get?_update_self _ aN (bZ.isFreed_of_fields (bZ.data_mapFields hd _)),(bZ.cls_mapFields ..).trans hc,?_⟩ (bG.SameBut.update ..))⟩));rw[bZ.data_mapFields hd];simp[rawInt]
def Zn{items:Array av}(gG:A.handled=ax)(p8:s.heap.IsTupleIter it t i)(bc:s.heap.IsTuple t items)(aq:items[i]?=ax)(wd:∀h' e,bG.ExtBut it s.heap h'->(∃o,h'.get? e=J o/\o.cls=.type "StopIteration")->E (.ref e) {s with heap:=h'}):
  b4 (model prog w) A (de.SmallTypes.nextOf (.ref it)) Q E s:=by
 have ty:=p8.typeIs;obtain⟨o,aN,hc,hd⟩:=p8;obtain⟨agu,IP,_,ub,Io⟩:=bc;unfold de.SmallTypes.nextOf;refine cq (wpAny_callSpecial?_slot (name:=ae.ofString "__next__") ty F.slot_tuple_iterator_next (wpAny_call_entry F.slot_tuple_iterator_next ty F.entry_tuple_iterator_next ?_ (F.args_tuple_iterator_next_1 _)));show b4 _ _ (field (.ref it) 0 >>= _) _ _ s;refine cq (kh aN hd (x :=.ref t) I ?_);have nn:¬((av.ref t == av.none)=ah):=ia;show b4 _ _ (if(av.ref t == av.none)=ah then _ else _) _ _ s;rw[if_neg nn];show b4 _ _ (field (.ref it) 1 >>= _) _ _ s;refine cq (kh aN hd (x :=.int i 0) I ?_);show b4 _ _ (seqItems? (.ref t) >>= _) _ _ s;refine cq (sO IP Io ?_);simp only[Int.toNat_natCast,aq];refine cq (wpAny_rule (cq (uR aN hd (by simp) ?_)));show b4 _ _ (newExc (.type "StopIteration") [] >>= _) _ _ _;refine cq ?_;simp only[newExc,newTuple];refine cq (wpAny_newObj_type ?_ (by size_fits));refine cq (m:=firstArgMember _ _) (wpAny_of_eq (a:=av.none) (by first|rfl|(simp only[firstArgMember];rfl)) ?_);refine wpAny_newObj_type ?_ (by size_fits);simp only[raiseNew];refine cq (wpAny_handled ?_)
 first|rw[show A.in1.handled=ax from gG]|rw[gG]
 exact cq (fq (wpAny_throw (wd _ _ (((bG.SameBut.update ..).extBut.push _).push _) ⟨_,hA _ I,I⟩)))
end
def akd{items:Array av}(x:h.IsTuple a items)(k:∀o,h.get? a=J o->h'.get? a=J o):h'.IsTuple a items :=
 let ⟨o,aN,r⟩:=x;⟨o,k o aN,r⟩
def Su(x:h.IsTupleIter a t i)(k:∀o,h.get? a=J o->h'.get? a=J o):h'.IsTupleIter a t i :=
 let ⟨o,aN,r⟩:=x;⟨o,k o aN,r⟩
def Draws.tup{A:dU}(gG:A.handled=ax)(it t:af)(mY:t≠it)(items:Array av):
  Draws prog w A it [it,t] items.size (fun i v=>items[i]?=J v) (fun i h=>h.IsTupleIter it t i/\h.IsTuple t items) where
 live:=fun _ _ st=>let ⟨o,aN,_⟩:=st.1;⟨o,aN⟩
 frame:=fun _ _ _ st hk=>⟨Su st.1 fun o e=>hk it (by simp) o e,akd st.2 fun o e=>hk t (by simp) o e⟩
 item:=fun i s Q E aF st fZ=>YO st.1 st.2 (x:=items[i]) (by simp[aF]) fun h' Pd ka=>fZ _ h' s.toks (by simp[aF]) ⟨Pd,st.2.extBut ka.extBut mY⟩ ka
 done:=fun s Q E st wd=>Zn gG st.1 st.2 (by simp) wd
structure vE(z dZ dJ dC cW:af)(nD nE:List af):Prop where
 TIz:dZ≠z
 TOz:dJ≠z
 i1z:dC≠z
 i2z:cW≠z
 TITO:dZ≠dJ
 TIi1:dZ≠dC
 TIi2:dZ≠cW
 TOi1:dJ≠dC
 TOi2:dJ≠cW
 di:z∉nD
 Jp:dJ∉nD
 De:cW∉nD
 dg:z∉nE
 zz:dJ∉nE
 zg:dC∉nE
section
variable {prog:dI} {w:dc} {A:dU} {E:av->aR->Prop} {s:aR}
variable {z dZ dJ dC cW:af} {nD nE:List af} {e0 dS i:Nat} {vq vr:Nat->av->Prop} {eX d7:Nat->bG->Prop}
def Draws.but{A:dU}{b:af}{i:Nat}{P:Nat->av->Prop}{St:Nat->bG->Prop}(D:Draws prog w A it cm n P St)(x:bG.ExtBut b h h')(ag:b∉cm)(st:St i h):St i h' :=
 D.frame i h h' st fun c hc o e=>x c o (fun z=>ag (z ▸ hc)) e
def Vi{a b:av}(c3:Draws prog w A dC nD e0 vq eX)(gC:Draws prog w A cW nE dS vr d7)(Z:vE z dZ dJ dC cW nD nE)(bV:IsZip s.heap z dZ dJ .none)(tJ:IsPair s.heap dZ (.ref dC) (.ref cW))(tK:IsPair s.heap dJ a b)(c9:i<e0)(dz:i<dS)(t1:eX i s.heap)(hb:d7 i s.heap)
  (fZ:∀x y h' dQ,vq i x->vr i y->IsZip h' z dZ dJ (rawInt s.heap.objs.size)->IsPair h' dJ x y->eX (i+1) h'->d7 (i+1) h'->IsPair h' s.heap.objs.size x y->(∀c o,c≠z->c≠dJ->c≠dC->c≠cW->s.heap.get? c=J o->h'.get? c=J o)->Q (.ref s.heap.objs.size) {s with heap:=h',toks:=dQ}) :
  b4 (model prog w) A (de.«zip.__next__» ⟨[.ref z],[]⟩) (fun dp br=>∃v,dp=.done (.ret v)/\Q v br) E s:=by
 show b4 _ _ (field (.ref z) 2 >>= _) _ _ _;refine cq (kh bV I (x :=.bool aE) I ?_);show b4 _ _ (field (.ref z) 3 >>= _) _ _ _;refine cq (kh bV I (x :=.ref dZ) I (cq (sO tJ I ?_)));show b4 _ _ (de.SmallTypes.ownedTupleIsFree (.ref z) >>= _) _ _ _;refine cq ?_;unfold de.SmallTypes.ownedTupleIsFree;refine cq (kh bV I (x :=.none) I (fq ?_));simp only[if_true];refine cq (wpAny_rule (cq (kh bV I (x :=.ref dJ) I (cq (xo bV (by simp) fun aM sN ob=>?_)))))
 replace sN:IsZip aM z dZ dJ .ellipsis:=sN
 refine cq ?_;simp only[List.zipIdx_cons,List.zipIdx_nil,List.forIn_cons,List.forIn_nil];refine cq (cq (wpAny_onRaise ?_));show b4 _ _ (de.SmallTypes.nextOf (.ref dC) >>= _) _ _ _;refine cq (c3.item i _ _ _ c9 (Draws.but c3 ob.extBut Z.di t1) fun x ag Sq c4 dM na=>fq ?_);have eh:IsPair ag dJ a b:=na.extBut _ _ Z.TOi1 (ob.extBut _ _ Z.TOz tK);refine cq (sO eh I (cq (wpAny_updateSeq_pair eh fun hc iW oc=>?_)))
 replace iW:IsPair hc dJ x b:=iW
 refine cq (wpAny_letGo (fq ?_));refine cq (cq (wpAny_onRaise ?_));show b4 _ _ (de.SmallTypes.nextOf (.ref cW) >>= _) _ _ _;refine cq (gC.item i _ _ _ dz (Draws.but gC oc.extBut Z.zz (Draws.but gC na.extBut Z.zg (Draws.but gC ob.extBut Z.dg hb))) fun y hd ajX cn ajU my=>fq ?_);have gA:IsPair hd dJ x b:=my.extBut _ _ Z.TOi2 iW;refine cq (sO gA I (cq (wpAny_updateSeq_pair gA fun he ht xe=>?_)))
 replace ht:IsPair he dJ x y:=ht
 refine cq (wpAny_letGo (fq (fq ?_)));refine cq (sO ht I (cq (wpAny_newTuple ?_)));have d3:he.objs.size=s.heap.objs.size:=by rw[xe.1,my.1,oc.1,na.1,ob.1]
 have SJ:IsZip he z dZ dJ .ellipsis:=xe.extBut _ _ Z.TOz.symm (my.extBut _ _ Z.i2z.symm (oc.extBut _ _ Z.TOz.symm (na.extBut _ _ Z.i1z.symm sN)));have PU:z<he.objs.size:=e2 SJ;show b4 _ _ (de.SmallTypes.ownedTupleHandOut (.ref z) (.ref he.objs.size) >>= _) _ _ _;refine cq ?_;unfold de.SmallTypes.ownedTupleHandOut;refine cq (xo (show IsZip (he.push {cls :=.type "tuple",data :=.seq #[x,y]}) z dZ dJ .ellipsis from fV _ SJ) (by simp) fun aA Kp z7=>?_)
 replace Kp:IsZip aA z dZ dJ (rawInt he.objs.size):=Kp
 refine xo Kp (by simp) fun bb uL SE=>fq ⟨_,I,?_⟩
 replace uL:IsZip bb z dZ dJ (rawInt he.objs.size):=uL
 have up:bG.ExtBut z he bb:=fun c o eE e=>SE.extBut _ _ eE (z7.extBut _ _ eE (fV _ e));have pn:IsPair bb he.objs.size x y:=SE.extBut _ _ (Nat.ne_of_gt PU) (z7.extBut _ _ (Nat.ne_of_gt PU) (hA _ rfl));have ajV:eX (i+1) bb:=Draws.but c3 up Z.di (Draws.but c3 xe.extBut Z.Jp (Draws.but c3 my.extBut Z.De (Draws.but c3 oc.extBut Z.Jp dM)));have ajW:d7 (i+1) bb:=Draws.but gC up Z.dg (Draws.but gC xe.extBut Z.zz ajU);show Q (.ref he.objs.size) _;rw[d3]at uL pn ⊢;exact fZ x y bb ajX c4 cn uL (up _ _ Z.TOz ht) ajV ajW pn fun c o eE iK hP yr e=>up c o eE (xe.extBut _ _ iK (my.extBut _ _ yr (oc.extBut _ _ iK (na.extBut _ _ hP (ob.extBut _ _ eE e)))))
def Wn{a b:av}{Q:Fin->aR->Prop}(c3:Draws prog w A dC nD e0 vq eX)(gC:Draws prog w A cW nE dS vr d7)(Z:vE z dZ dJ dC cW nD nE)(bV:IsZip s.heap z dZ dJ .none)(tJ:IsPair s.heap dZ (.ref dC) (.ref cW))(tK:IsPair s.heap dJ a b)(l:i=e0\/(i<e0/\i=dS))(t1:eX i s.heap)(hb:d7 i s.heap)
  (wd:∀h' e dQ,(∀c o,c≠z->c≠dJ->c≠dC->c≠cW->s.heap.get? c=J o->h'.get? c=J o)->(∃o,h'.get? e=J o/\o.cls=.type "StopIteration")->E (.ref e) {s with heap:=h',toks:=dQ}) :
  b4 (model prog w) A (de.«zip.__next__» ⟨[.ref z],[]⟩) Q E s:=by
 show b4 _ _ (field (.ref z) 2 >>= _) _ _ _;refine cq (kh bV I (x :=.bool aE) I ?_);show b4 _ _ (field (.ref z) 3 >>= _) _ _ _;refine cq (kh bV I (x :=.ref dZ) I (cq (sO tJ I ?_)));show b4 _ _ (de.SmallTypes.ownedTupleIsFree (.ref z) >>= _) _ _ _;refine cq ?_;unfold de.SmallTypes.ownedTupleIsFree;refine cq (kh bV I (x :=.none) I (fq ?_));simp only[if_true];refine cq (wpAny_rule (cq (kh bV I (x :=.ref dJ) I (cq (xo bV (by simp) fun aM sN ob=>?_)))))
 replace sN:IsZip aM z dZ dJ .ellipsis:=sN
 refine cq ?_;simp only[List.zipIdx_cons,List.zipIdx_nil,List.forIn_cons,List.forIn_nil];refine cq (cq (wpAny_onRaise ?_));show b4 _ _ (de.SmallTypes.nextOf (.ref dC) >>= _) _ _ _;rcases l with rfl|⟨c9,rfl⟩
 ·refine cq (c3.done _ _ _ (Draws.but c3 ob.extBut Z.di t1) fun ag e na he=>?_);obtain⟨ht,ge,ce⟩:=he;have SH:IsZip ag z dZ dJ .ellipsis:=na _ _ Z.i1z.symm sN;have v3:e≠z:=fun x=>by subst x;rw[SH]at ge;cases ge;simp at ce
  exact xo SH (by simp) fun hc _ oc=>wd hc e s.toks (fun c o eE _ hP _ g=>oc.extBut _ _ eE (na _ _ hP (ob.extBut _ _ eE g))) ⟨ht,oc.extBut _ _ v3 ge,ce⟩
 ·refine cq (c3.item i _ _ _ c9 (Draws.but c3 ob.extBut Z.di t1) fun x ag Sq c4 dM na=>fq ?_);have eh:IsPair ag dJ a b:=na.extBut _ _ Z.TOi1 (ob.extBut _ _ Z.TOz tK);refine cq (sO eh I (cq (wpAny_updateSeq_pair eh fun hc iW oc=>?_)));refine cq (wpAny_letGo (fq ?_));refine cq (cq (wpAny_onRaise ?_));show b4 _ _ (de.SmallTypes.nextOf (.ref cW) >>= _) _ _ _;refine cq (gC.done _ _ _ (Draws.but gC oc.extBut Z.zz (Draws.but gC na.extBut Z.zg (Draws.but gC ob.extBut Z.dg hb))) fun hd e my he=>?_);obtain⟨ht,ge,ce⟩:=he;have SI:IsZip hd z dZ dJ .ellipsis:=my _ _ Z.i2z.symm (oc.extBut _ _ Z.TOz.symm (na.extBut _ _ Z.i1z.symm sN));have v3:e≠z:=fun x=>by subst x;rw[SI]at ge;cases ge;simp at ce
  exact xo SI (by simp) fun aA _ z7=>wd aA e Sq (fun c o eE iK hP yr g=>z7.extBut _ _ eE (my _ _ yr (oc.extBut _ _ iK (na.extBut _ _ hP (ob.extBut _ _ eE g))))) ⟨ht,z7.extBut _ _ v3 ge,ce⟩
def YN{a b:av}{Q:Option av->aR->Prop}(c3:Draws prog w A.in1 dC nD e0 vq eX)(gC:Draws prog w A.in1 cW nE dS vr d7)(Z:vE z dZ dJ dC cW nD nE)(bV:IsZip s.heap z dZ dJ .none)(tJ:IsPair s.heap dZ (.ref dC) (.ref cW))(tK:IsPair s.heap dJ a b)(c9:i<e0)(dz:i<dS)(t1:eX i s.heap)(hb:d7 i s.heap)
  (fZ:∀x y h' dQ,vq i x->vr i y->IsZip h' z dZ dJ (rawInt s.heap.objs.size)->IsPair h' dJ x y->eX (i+1) h'->d7 (i+1) h'->IsPair h' s.heap.objs.size x y->(∀c o,c≠z->c≠dJ->c≠dC->c≠cW->s.heap.get? c=J o->h'.get? c=J o)->Q (J (.ref s.heap.objs.size)) {s with heap:=h',toks:=dQ}) :
  b4 (model prog w) A (pyNext (.ref z)) Q E s:=by
 have cc:s.TypeIs (.ref z) "zip":=⟨_,bV,rfl⟩;unfold pyNext;exact cq (wpAny_attempt (wpAny_callSpecial?_slot (name:=ae.ofString "__next__") cc F.slot_zip_next (wpAny_call_entry F.slot_zip_next cc F.entry_zip_next (Vi c3 gC Z bV tJ tK c9 dz t1 hb fun x y h' dQ a1 a2 a3 a4 a5 a6 a7 a8=>fq (fZ x y h' dQ a1 a2 a3 a4 a5 a6 a7 a8)) (F.args_zip_next_1 _))))
def Zm{a b:av}{Q:Option av->aR->Prop}(c3:Draws prog w A.in1 dC nD e0 vq eX)(gC:Draws prog w A.in1 cW nE dS vr d7)(Z:vE z dZ dJ dC cW nD nE)(bV:IsZip s.heap z dZ dJ .none)(tJ:IsPair s.heap dZ (.ref dC) (.ref cW))(tK:IsPair s.heap dJ a b)(l:i=e0\/(i<e0/\i=dS))(t1:eX i s.heap)(hb:d7 i s.heap)
  (fZ:∀h' dQ,(∀c o,c≠z->c≠dJ->c≠dC->c≠cW->s.heap.get? c=J o->h'.get? c=J o)->Q ax {s with heap:=h',toks:=dQ}) :
  b4 (model prog w) A (pyNext (.ref z)) Q E s:=by
 have cc:s.TypeIs (.ref z) "zip":=⟨_,bV,rfl⟩;unfold pyNext;refine cq (wpAny_attempt (wpAny_callSpecial?_slot (name:=ae.ofString "__next__") cc F.slot_zip_next (wpAny_call_entry F.slot_zip_next cc F.entry_zip_next (Wn c3 gC Z bV tJ tK l t1 hb fun h' e dQ hk he=>?_) (F.args_zip_next_1 _))));obtain⟨o,aN,hc⟩:=he;exact cq (wpAny_isInstance (T:="StopIteration") (b:=ah) ⟨o,aN,hc⟩ isSubtype_stop (fq (fZ _ _ hk)))
end
def akI{a b:Nat}(ai:a<n)(ar:b<n):vE (n+4) (n+2) (n+3) n (n+1) [n,a] [n+1,b]:=by
 have nm:∀{x y z:Nat},x≠y->x≠z->x∉[y,z]:=fun aL aS h=>by
  rcases dd.mp h with h|h
  .exact aL h
  .exact aS (ft.mp h)
 refine⟨?_,?_,?_,?_,?_,?_,?_,?_,?_,nm ?_ ?_,nm ?_ ?_,nm ?_ ?_,nm ?_ ?_,nm ?_ ?_,nm ?_ ?_⟩<;>(show(_:Nat)≠_;lia)
section
variable {prog:dI} {w:dc} {A:dU} {E:av->aR->Prop} {s:aR}
noncomputable abbrev D2(h:bG)(a:af):bG:=h.push {cls :=.type "list_iterator",data :=.fields #[.ref a,.int 0 0]}
noncomputable abbrev D3(h:bG)(a b:af):bG:=(D2 h a).push {cls :=.type "tuple_iterator",data :=.fields #[.ref b,.int 0 0]}
noncomputable abbrev D4(h:bG)(a b:af):bG:=(D3 h a b).push {cls :=.type "tuple",data :=.seq #[.ref h.objs.size,.ref (D2 h a).objs.size]}
noncomputable abbrev D5(h:bG)(a b:af):bG:=(D4 h a b).push {cls :=.type "tuple",data :=.seq #[.none,.none]}
noncomputable abbrev xk(h:bG)(a b:af):bG:=(D5 h a b).push {cls :=.type "zip",data :=.fields #[.none,.bool aE,.bool aE,.ref (D3 h a b).objs.size,.ref (D4 h a b).objs.size]}
def Vj(a b:af)(xs ay:Array av):
  Meets (de.«zip.__new__» ⟨[.type "zip",.ref a,.ref b],[]⟩) (fun _ R s=>s.heap.IsList a xs/\s.heap.IsTuple b ay/\R (.ok (.ret (.ref (D5 s.heap a b).objs.size))) {s with heap:=xk s.heap a b}) :=
 .of_wp fun prog w A R s h=>by
  obtain⟨aU,g,d,dQ,os⟩:=s;obtain⟨aL,aS,h⟩:=h;have aey:=sub_zip;have fy:bG.IsList (aR.heap ⟨aU,g,d,dQ,os⟩) a xs:=aL;have kT:bG.IsTuple (aR.heap ⟨aU.push {cls :=.type "list_iterator",data :=.fields #[.ref a,.int 0 0]},g,d,dQ,os⟩) b ay:=bG.IsTuple.push aS _
  wp_walk using wpAny_pyIter_list fy,wpAny_pyIter_tuple kT
  exact⟨_,I,h⟩
def U9{b:af}{xs ay:Array av}(aL:s.heap.IsList a xs)(aS:s.heap.IsTuple b ay)
  (h:∀h',IsZip h' (s.heap.objs.size+4) (s.heap.objs.size+2) (s.heap.objs.size+3) .none->IsPair h' (s.heap.objs.size+2) (.ref s.heap.objs.size) (.ref (s.heap.objs.size+1))->IsPair h' (s.heap.objs.size+3) .none .none->h'.IsListIter s.heap.objs.size a 0->h'.IsTupleIter (s.heap.objs.size+1) b 0->(∀c o,s.heap.get? c=J o->h'.get? c=J o)->Q (.ref (s.heap.objs.size+4)) {s with heap:=h'}) :
  b4 (model prog w) A (call (.type "zip") [.ref a,.ref b]) Q E s:=by
 refine callType_new F.called_zip (by decide) (F.typeCall_zip_2 _ _) (F.newCall_zip_2 _ _) (fun obj=>F.args_object_init_3 obj _ _) F.entry_zip_new (Vj a b xs ay) ⟨aL,aS,?_⟩;have up:∀{h:bG}{c o o'},h.get? c=J o->(h.push o').get? c=J o:=fun e=>fV _ e;have s1:(D2 s.heap a).objs.size=s.heap.objs.size+1:=bG.size_push ..;have s2:(D3 s.heap a b).objs.size=s.heap.objs.size+2:=by rw[bG.size_push,s1]
 have i8:(D4 s.heap a b).objs.size=s.heap.objs.size+3:=by rw[bG.size_push,s2]
 have uu:(D5 s.heap a b).objs.size=s.heap.objs.size+4:=by rw[bG.size_push,i8]
 have HR:(xk s.heap a b).get? (D5 s.heap a b).objs.size=J _:=hA _ rfl;have v9:(xk s.heap a b).get? (D4 s.heap a b).objs.size=J _:=up (hA _ rfl);have g3:(xk s.heap a b).get? (D3 s.heap a b).objs.size=J _:=up (up (hA _ rfl));have g2:(xk s.heap a b).get? (D2 s.heap a).objs.size=J _:=up (up (up (hA _ rfl)));have g1:(xk s.heap a b).get? s.heap.objs.size=J _:=up (up (up (up (hA _ rfl))));show _/\_;rw[s2,i8,uu]at HR;rw[i8]at v9;rw[s1,s2]at g3;rw[s1]at g2;rw[uu];exact⟨⟨_,HR,I⟩,h _ HR g3 v9 ⟨_,g1,I,I⟩ ⟨_,g2,I,I⟩ fun c o e=>up (up (up (up (up e))))⟩
end
noncomputable def Ap(K:bS)(a b:af)(xs ay:List V):kk :=
 ⟨fun i H=>cZ K H a xs/\gf K H b ay/\i<min xs.length ay.length,fun i H x H'=>∃(T:af)(u v:V),H T=ax/\xs[i]?=J u/\ay[i]?=J v/\x=.ref T/\H'=upd H T (.tup [u,v]),fun i H=>cZ K H a xs/\gf K H b ay/\min xs.length ay.length<=i⟩
def fQ{xs:Array av}(x:IsTup h a xs):h.IsTuple a xs:=x
def aau(a b z dZ dJ dC cW:af)(xs ay:List V)(e0:a≠dC)(dS:b≠cW)(D:vE z dZ dJ dC cW [dC,a] [cW,b]):
  Turn P w K (.Tuple elts k bh) (Ap K a b xs ay) [z,dZ,dJ,dC,cW] z (fun i h=>i<=min xs.length ay.length/\IsZip h z dZ dJ .none/\IsPair h dZ (.ref dC) (.ref cW)/\(∃a b,IsPair h dJ a b)/\h.IsListIter dC a i/\h.IsTupleIter cW b i) where
 mem:=by simp
 obj:=fun i h st c hc=>by
  obtain⟨_,iX,ju,⟨p,q,kC⟩,n1,jW⟩:=st;rcases dd.mp hc with e|hc
  .subst e;exact⟨_,iX,fun v z=>by cases z⟩
  rcases dd.mp hc with e|hc
  .subst e;exact⟨_,ju,fun v z=>by cases z⟩
  rcases dd.mp hc with e|hc
  .subst e;exact⟨_,kC,fun v z=>by cases z⟩
  rcases dd.mp hc with e|hc
  ·subst e;obtain⟨o,e,c,d⟩:=n1;exact⟨o,e,fun v z=>by rw[d]at z;cases z⟩
  ·obtain rfl:=ft.mp hc;obtain⟨o,e,c,d⟩:=jW;exact⟨o,e,fun v z=>by rw[d]at z;cases z⟩
 keep:=fun i h h' st k=>by
  obtain⟨aF,iX,ju,⟨p,q,kC⟩,n1,jW⟩:=st;exact⟨aF,k z (by simp) _ iX,k dZ (by simp) _ ju,⟨p,q,k dJ (by simp) _ kC⟩,n1.at fun o e=>k dC (by simp) o e,Su jW fun o e=>k cW (by simp) o e⟩
 item:=by
  intro X cV hw f7 hc i au s U H E aa aA st bb;subst cV hw f7;obtain⟨o7,m1,aF⟩:=bb;obtain⟨iS,ph,c4,zb⟩:=aa.list o7;obtain⟨fm,pj,cn,zc⟩:=aa.tuple m1;have IB:=ph.length;have IC:=pj.length;obtain⟨_,iX,ju,⟨zD,agy,kC⟩,n1,jW⟩:=st;have gG:=aa.ok.hd hc;refine YN (i:=i) (Draws.list (A:=X.A.in1) gG dC a e0 iS.toArray) (Draws.tup (A:=X.A.in1) gG cW b dS fm.toArray) D iX ju kC (by rw[eU];lia) (by rw[eU];lia) ⟨n1,c4.isList⟩ ⟨jW,fQ cn⟩ fun hx dW h' dQ q3 q4 eE iK hP yr Cf eI=>?_;refine⟨_,I,wpAny_letOwnedTupleGo_zip eE fun H0 abD akl=>?_⟩;have I2:iS[i]?=J hx:=by simpa using q3
  have I3:fm[i]?=J dW:=by simpa using q4
  have kS:xs[i]?=J (xs[i]'(by lia)):=cI _;have za:ay[i]?=J (ay[i]'(by lia)):=cI _;obtain⟨v1,i7,rf⟩:=ph.get kS;obtain⟨v2,kx,e6⟩:=pj.get za;rw[I2]at i7;cases i7;rw[I3]at kx;cases kx;have cc:s.heap.objs.size<=s.heap.objs.size:=cp _;have yL:=aa.aP.fresh cc;have lt:∀{c o},s.heap.get? c=J o->c≠s.heap.objs.size:=fun e=>hl (e2 e)
  have Dn:∀c∈[z,dZ,dJ,dC,cW],c≠s.heap.objs.size:=fun c eZ=>by
   rcases dd.mp eZ with e|eZ
   .rw[e];exact lt iX
   rcases dd.mp eZ with e|eZ
   .rw[e];exact lt ju
   rcases dd.mp eZ with e|eZ
   .rw[e];exact lt kC
   rcases dd.mp eZ with e|eZ
   .rw[e];obtain⟨o,e,_⟩:=n1;exact lt e
   .rw[ft.mp eZ];obtain⟨o,e,_⟩:=jW;exact lt e
  have wK:bG.ExtBut z h' H0:=akl.extBut;refine⟨.ref s.heap.objs.size,upd H s.heap.objs.size (.tup [xs[i]'(by lia),ay[i]'(by lia)]),?_,I,⟨_,_,_,yL,kS,za,I,I⟩,⟨by lia,abD,wK _ _ D.TIz (eI _ _ D.TIz D.TITO D.TIi1 D.TIi2 ju),⟨_,_,wK _ _ D.TOz iK⟩,hP.1.extBut wK D.i1z,yr.1.extBut wK D.i2z⟩,fun c eZ=>?_⟩
  ·refine aa.DV (ch:=[z,dJ,dC,cW]) (t':=dQ) (fun c o r4 qL=>?_) (fun c eZ=>aA c ?_) cc ?_
   ·have nn:∀{d:af},d∈[z,dJ,dC,cW]->c≠d:=fun hd e=>r4 (e ▸ hd);exact wK c o (nn (by simp)) (eI c o (nn (by simp)) (nn (by simp)) (nn (by simp)) (nn (by simp)) qL)
   ·rcases dd.mp eZ with e|eZ
    .rw[e];simp
    .exact dw _ (dw _ eZ)
   ·refine⟨by show 2<=cg;decide,[hx,dW],.cons rf (.cons e6 .nil),?_⟩;exact⟨_,wK _ _ (Dn z (by simp)).symm Cf,I,_,I⟩
  ·rw[bC (Dn c eZ)];exact(aA c eZ).1
 done:=by
  intro X cV hw f7 hc i au s U H E aa aA st bb;subst cV hw f7;obtain⟨o7,m1,aF⟩:=bb;obtain⟨iS,ph,c4,zb⟩:=aa.list o7;obtain⟨fm,pj,cn,zc⟩:=aa.tuple m1;have IB:=ph.length;have IC:=pj.length;obtain⟨hle,iX,ju,⟨zD,agy,kC⟩,n1,jW⟩:=st;have gG:=aa.ok.hd hc;refine Zm (i:=i) (Draws.list (A:=X.A.in1) gG dC a e0 iS.toArray) (Draws.tup (A:=X.A.in1) gG cW b dS fm.toArray) D iX ju kC (by rw[eU,eU];lia) ⟨n1,c4.isList⟩ ⟨jW,fQ cn⟩ fun h' dQ eI=>⟨I,aa.Kb (ch:=[z,dJ,dC,cW]) (t':=dQ) (fun c o r4 qL=>?_) fun c eZ=>aA c ?_⟩
  ·have nn:∀{d:af},d∈[z,dJ,dC,cW]->c≠d:=fun hd e=>r4 (e ▸ hd);exact eI c o (nn (by simp)) (nn (by simp)) (nn (by simp)) (nn (by simp)) qL
  ·rcases dd.mp eZ with e|eZ
   .rw[e];simp
   .exact dw _ (dw _ eZ)
 self:=fun A i s Q E st h=>wpAny_pyIter_zip st.2.1 h
section
variable {X:bQ}
def ae1(K:bS)(cD:hz):dZ:=fun U H R=>cD U H fun vs H1=>∃a b xs ay,vs=[.ref a,.ref b]/\cZ K H1 a xs/\gf K H1 b ay/\R (Ap K a b xs ay) H1
def NN{l m:cU}{p:Pos}(bb:je X "zip")(hm:X.mg "zip"=ax)(aM:iD X [l,m] cD)(hs:rg (en [l,m] X.env=[(aE,eval l X.env),(aE,eval m X.env)]) w8)(ff:rg (en [m] X.env=[(aE,eval m X.env)]) w8):
  iE X (.Tuple elts k sI) (.Call (.Name "zip" p) [l,m] [] bh) (ae1 X.K cD):=by
 intro au s U H R aa h;refine Call_ (mD aa bb hm boot_zip (PyProof.Rows.callWith_type1 (dt (aM bh au s U H (fun vs H1=>∃a b xs ay,vs=[.ref a,.ref b]/\cZ X.K H1 a xs/\gf X.K H1 b ay/\R (Ap X.K a b xs ay) H1) aa h) fun us s1 ⟨vs,H1,bB,cf,ck⟩=>?_) (by rw[hs,ff]) (by rw[ff];rfl)));obtain⟨a,b,xs,ay,rfl,o7,m1,q⟩:=ck;obtain⟨hx,dW,rfl,rf,e6⟩:=vals2 cf;obtain rfl:hx=av.ref a:=rf;obtain rfl:dW=av.ref b:=e6;obtain⟨iS,ph,c4,zb⟩:=bB.list o7;obtain⟨fm,pj,cn,zc⟩:=bB.tuple m1;have c9:a<s1.heap.objs.size:=by obtain⟨o,aN,_⟩:=c4.isList;exact e2 aN
 have dz:b<s1.heap.objs.size:=by obtain⟨o,aN,_⟩:=fQ cn;exact e2 aN
 refine U9 c4.isList (fQ cn) fun h' di dg gS ro uK eI=>?_;have cM:Inv X au U H1 {s1 with heap:=h'}:=bB.kept (t':=s1.toks) eI;refine wpAny_pyIter_zip di ?_;refine⟨_,_,_,_,H1,I,cM,aau a b _ _ _ _ _ xs ay (hl c9) (hl (Nat.lt_succ_of_lt dz)) (akI c9 dz),⟨UF _,di,dg,⟨_,_,gS⟩,ro,uK⟩,fun c hc=>?_,q⟩
 have kP:s1.heap.objs.size<=c:=by
  rcases dd.mp hc with e|hc
  .rw[e];exact Nat.le_add_right ..
  rcases dd.mp hc with e|hc
  .rw[e];exact Nat.le_add_right ..
  rcases dd.mp hc with e|hc
  .rw[e];exact Nat.le_add_right ..
  rcases dd.mp hc with e|hc
  .rw[e];exact cp _
  .rw[ft.mp hc];exact Nat.le_succ _
 exact bB.nF kP (bB.aP.fresh kP)
end
def MT{b:af}{Q:bI}{D:af}(g7:Nat->V)(S:St->Prop)(bV:min xs.length ay.length<=100000)(aX:S ew)(c2:H D=ax)(lR:cZ K H a xs)(gb:gf K H b ay)
  (bc:∀i x y,xs[i]?=J x->ay[i]?=J y->∀bE H1 T,S bE->dY H H1->H1 T=ax->∀R:St->V->al->Prop,(∀bg bp,S bg->dY (upd H1 T (.tup [x,y])) bp->R bg (g7 i) bp)->g (.ref T) bE (upd H1 T (.tup [x,y])) fun bg ao=>cJ bg ao fun z bp=>R bg z bp)
  (bo:∀H':al,dY H H'->H' D=J (.lst ((List.range (min xs.length ay.length)).map g7))->Q (.ref D) H') :
  k0 (Ap K a b xs ay) g n4 cJ Q ew H D:=by
 refine⟨fun i m bE ao=>i<=min xs.length ay.length/\m=min xs.length ay.length-i/\S bE/\dY H ao/\ao D=J (.lst ((List.range i).map g7)),⟨min xs.length ay.length,UF _,I,aX,cE c2,aG⟩,?_⟩;rintro i m bE ao ⟨ai,rfl,ar,hs,iO⟩;have ck:=hs.seq lR;have b1:gf K ao b ay:=gb.elim (fun e =>.inl (e.elim (fun e =>.inl (hs _ _ e)) fun⟨o,e⟩ =>.inr ⟨o,hs _ _ e⟩)) .inr;rcases g5 i (min xs.length ay.length)with z|z
 ·refine .inr ⟨⟨ck,b1,z⟩,?_⟩;rintro x bp ⟨T,u,v,cc,cz,bR,rfl,rfl⟩;refine bc i u v cz bR bE ao T ar hs cc (fun bg y dm=>∃zs bU,dm D=J (.lst zs)/\zs.length<cg/\bU<min xs.length ay.length-i/\(i+1<=min xs.length ay.length/\bU=min xs.length ay.length-(i+1)/\S bg/\dY H (upd dm D (.lst (zs++[y])))/\upd dm D (.lst (zs++[y])) D=J (.lst ((List.range (i+1)).map g7)))) fun bg dm eS sa=>?_;have Jg:D≠T:=fun e=>by rw[e,cc]at iO;cases iO
  refine⟨(List.range i).map g7,min xs.length ay.length-(i+1),sa _ _ (by rw[bC Jg];exact iO),?_,by lia,by lia,rfl,eS,?_,?_⟩
  ·rw[cA,kK];exact fK (show i<100000 by lia) (by decide)
  ·intro c o e;rw[bC (fe e c2)];refine sa c o ?_;rw[bC (fun e'=>by rw[e',hs.free cc]at e;cases e)];exact hs c o e
  .rw[aG,List.range_succ,fP];rfl
 ·have e:i=min xs.length ay.length:=by lia
  subst e;exact .inl ⟨⟨ck,b1,cp _⟩,bo ao hs iO⟩
noncomputable def inD(ns:List ae):D->Bool
 |.str s=>ns.any fun n=>n == s
 |_=>aE
noncomputable def Cv(d:D)(u:av):Bool:=match u with
 |.str n _=>(match d with|.str s=>n == s|_=>aE)
 |_=>aE
theorem N9(d:D):∀{ns:List ae}{us:List av},Vals (ns.map V.str) us->us.any (Cv d)=inD ns d
 |[],us,h=>by cases h;cases d<;>rfl
 |n::ns,us,h=>by
  obtain⟨u,r,rfl,⟨t,rfl⟩,aw⟩:∃u r,us=u::r/\RelV (.str n) u/\Vals (ns.map V.str) r:=by cases h with|cons a b=>exact⟨_,_,I,a,b⟩
  rw[List.any_cons,N9 d aw];cases d<;>rfl
theorem Nj{u:av}:∀{ns:List ae}{us:List av},Vals (ns.map V.str) us->u∈us->∃n t,u=.str n t
 |[],us,h,cz=>by cases h;cases cz
 |n::ns,us,h,cz=>by
  obtain⟨v,r,rfl,⟨t,rfl⟩,aw⟩:∃u r,us=u::r/\RelV (.str n) u/\Vals (ns.map V.str) r:=by cases h with|cons a b=>exact⟨_,_,I,a,b⟩
  rcases dd.mp cz with rfl|cz
  .exact⟨n,t,I⟩
  .exact Nj aw cz
section
variable {X:bQ}
def aaS(cz:X.A.units+64<cLine):ea X (hg .NotIn) (fun x y H Q=>∃p ns d,y=.ref p/\cZ X.K H p (ns.map V.str)/\dj H d x/\Q (.aK (!inD ns d)) H):=by
 intro au s U H x y v u Q aa bu cR h;obtain⟨p,ns,d,rfl,bo,hd,q⟩:=h;cases cR;obtain⟨bq,r,pl,bV⟩:=aa.list bo;have q3:X.A.in1.units<cLine:=by show X.A.units+1<cLine;lia
 refine SeqAt.notIn_listAt (Cv d) pl.isList (fun w hw=>?_) ⟨.aK _,H,aa,I,?_⟩
 ·obtain⟨n,t,rfl⟩:=Nj r (by simpa using hw);cases d with
  |bf=>obtain rfl:x=.bf:=hd;cases bu;exact SeqAt.EqAt.str_none n t
  |aK b=>obtain rfl:x=.aK b:=hd;cases bu;exact SeqAt.EqAt.str_bool n t b
  |int i=>obtain rfl:x=.int i:=hd;obtain⟨t',rfl⟩:=bu;exact SeqAt.EqAt.str_int n t i t'
  |str z=>obtain⟨rfl,_⟩:=hd;obtain⟨t',rfl⟩:=bu;exact SeqAt.EqAt.str_str n t z t'
  |tup ds =>
   obtain⟨a,vs,rfl,e,_⟩:=hd;cases bu;obtain⟨its',eW,q9,_⟩:=aa.tuple (gf.of e);exact SeqAt.EqAt.str_tuple n t (fQ q9) q3
  |lst ds =>
   obtain⟨a,vs,rfl,e,_⟩:=hd;cases bu;obtain⟨its',eW,q9,_⟩:=aa.list (cZ.of e);exact SeqAt.EqAt.str_list n t q9.isList q3
 ·rw[show bq.toArray.any (Cv d)=bq.any (Cv d) by simp,N9 d r];exact q
end
variable {f:bH}
def ny{k:Fin 4}(h:slot f=.b k):f=.bare k:=by
 cases f with
 |bare j=>injection h with h;rw[h]
 |sp a b=>cases h
 |le s=>cases h
 |one j f=>cases h
 |two j ns fs=>cases h
def G5(h:slot f=.s):∃a b,f=.sp a b:=by
 cases f with
 |sp a b=>exact⟨a,b,I⟩
 |bare j=>cases h
 |le s=>cases h
 |one j f=>cases h
 |two j ns fs=>cases h
def G6(h:slot f=.l):∃s,f=.le s:=by
 cases f with
 |le s=>exact⟨s,I⟩
 |sp a b=>cases h
 |bare j=>cases h
 |one j f=>cases h
 |two j ns fs=>cases h
def qv{k:Fin 3}(h:slot f=.o k):∃g,f=.one k g:=by
 cases f with
 |one j g=>injection h with h;rw[h];exact⟨g,I⟩
 |sp a b=>cases h
 |bare j=>cases h
 |le s=>cases h
 |two j ns fs=>cases h
def vG{k:Fin 2}(h:slot f=.t k):∃ns fs,f=.two k ns fs:=by
 cases f with
 |two j ns fs=>injection h with h;rw[h];exact⟨ns,fs,I⟩
 |sp a b=>cases h
 |bare j=>cases h
 |le s=>cases h
 |one j f=>cases h
theorem e8.get{c:ey}{X:List af}{H:al}:∀(fs:List bH){os:List af}{i:Nat}{o:af},e8 c X H fs os->os[i]?=J o->∃f,fs[i]?=J f/\b6 c X H f o
 |[],os,i,o,h,e=>by
  obtain rfl:os=[]:=h;cases e
 |f::fs,os,0,o,h,e=>by
  obtain⟨o',r,rfl,q,b1⟩:=h;cases e;exact⟨f,I,q⟩
 |f::fs,os,i+1,o,h,e=>by
  obtain⟨o',r,rfl,q,b1⟩:=h;exact e8.get fs b1 e
theorem GV:∀{fs:List bH}{i:Nat}{f:bH},sy fs->fs[i]?=J f->m5 f/\bc f<=gV fs
 |[],i,f,h,e=>by cases e
 |g::fs,0,f,h,e=>by
  cases e;rw[sy]at h;rw[gV];exact⟨h.1,Nat.le_max_left ..⟩
 |g::fs,i+1,f,h,e=>by
  rw[sy]at h;have:=GV h.2 e;rw[gV];exact⟨this.1,dF this.2 (Nat.le_max_right ..)⟩
def v5:∀k:Fin 4,k=0\/k=1\/k=2\/k=3:=by decide
def rS:∀k:Fin 3,k=0\/k=1\/k=2:=by decide
def tC:∀k:Fin 2,k=0\/k=1:=by decide
section
variable {P:dI} {w:dc} {K:bS} {mg:ae->Option av} {zn:bG}
structure MethAt(K:bS)(C:af)(m e7:ae)(st:bA)(aQ:List ae):Prop where
 ex:∃f fd,dN K m e7 st f fd/\Binds K fd aQ []/\vo K C m f
 cl:fT K C
def GF{m:ae}{st:bA}{sp:cv}(M:MethAt K C m e7 st aQ)(h:∀vs H Q E,¬sp vs H Q E):gn P w K mg zn k C m aQ sp:=by
 obtain⟨f,fd,F,ag,hm⟩:=M.ex;exact⟨f,fd,⟨fun vs H Q E q=>absurd q (h _ _ _ _),fun A outer s H args us vs Q E _ _ _ _ q=>absurd q (h _ _ _ _)⟩,ag,hm⟩
end
mutual
noncomputable def o9(has:fO->Bool):bH->Prop
 |.bare k=>has (.b k)=ah
 |.sp _ _=>has .s=ah
 |.le _=>has .l=ah
 |.one k f=>has (.o k)=ah/\o9 has f
 |.two k _ fs=>has (.t k)=ah/\sh has fs
noncomputable def sh(has:fO->Bool):List bH->Prop
 |[]=>True
 |f::fs=>o9 has f/\sh has fs
end
def ll(has:fO->Bool)(f:bH):Prop:=m5 f/\o9 has f
def Dx(has:fO->Bool)(fs:List bH):Prop:=sy fs/\sh has fs
variable {has:fO->Bool}
theorem ll.one{k:Fin 3}(h:ll has (.one k f)):ll has f:=by
 obtain⟨a,b⟩:=h;rw[m5]at a;rw[o9]at b;exact⟨a,b.2⟩
theorem ll.two{k:Fin 2}{fs:List bH}(h:ll has (.two k ns fs)):lP ns=ah/\ns.length=fs.length/\Dx has fs:=by
 obtain⟨a,b⟩:=h;rw[m5]at a;rw[o9]at b;exact⟨a.1,a.2.1,a.2.2,b.2⟩
theorem Nn{has:fO->Bool}:∀{fs:List bH}{i:Nat}{f:bH},sh has fs->fs[i]?=J f->o9 has f
 |[],i,f,h,e=>by cases e
 |g::fs,0,f,h,e=>by
  cases e;rw[sh]at h;exact h.1
 |g::fs,i+1,f,h,e=>by
  rw[sh]at h;exact Nn h.2 e
def Dx.get{fs:List bH}(h:Dx has fs)(e:fs[i]?=J f):ll has f/\bc f<=gV fs :=
 ⟨⟨(GV h.1 e).1,Nn h.2 e⟩,(GV h.1 e).2⟩
def UY{l:List Nat}(h:l[i]?=J c)(hk:∀k,k<i->l[k]?≠J c):l.idxOf c=i:=by
 induction l generalizing i with
 |nil=>cases h
 | cons a r bK =>
  cases i with
  |zero=>cases h;rw[List.idxOf_cons_self]
  |succ i =>
   have aM:a≠c:=fun e=>hk 0 (by lia) (by rw[e];rfl);have ag:(a == c)=aE:=by simpa using aM
   rw[List.idxOf_cons,ag];show r.idxOf c+1=i+1;rw[bK h fun k r8 e=>hk (k+1) (by lia) e]
section
variable {X:bQ}
def Go:vp X "str.index" (fun x xs H Q=>∃(y:ae)(c:Nat),x=.str y/\xs=[.str ⟨#[c]⟩]/\c∈y.cps.toList/\Q (.int ((y.cps.toList.idxOf c:Nat):Int)) H):=by
 intro au s U H x xs v us Q aa bu d2 h;obtain⟨y,c,rfl,rfl,hc,q⟩:=h;obtain⟨t,rfl⟩:=bu;obtain⟨u,rfl,t',rfl⟩:=d2.one;rcases StrLaws.occ_head y ⟨#[c]⟩ 1 (cp _)with⟨_,no⟩|⟨i,r,aN,i4,y1⟩
 ·obtain⟨i,aF⟩:=List.getElem?_of_mem hc;exact absurd ((StrLaws.subAt_one y c i).mpr aF) (no i)
 ·have e:=UY ((StrLaws.subAt_one y c i).mp i4) fun k hk z=>y1 k hk ((StrLaws.subAt_one y c k).mpr z);rw[e]at q;exact call_gives F.slot_str_index (typeIs_str s y t) F.entry_str_index (F.args_str_index_2 _ _) (gives_str_index y ⟨#[c]⟩ t t' i r aN) ⟨.int _,H,aa.tok _,⟨_,I⟩,q⟩
end
def aaY{e:av}{Ou:Env}(h:env.frame=Ou.frame):noteFrame e env=noteFrame e Ou:=by
 unfold noteFrame PySem.frameOf;rw[h]
theorem NY{h h' zn:bG}:∀{l:List Env},h.FunFrames zn l->(∀b o,b∈l.filterMap (·.frame)->h.get? b=J o->(∀vs,o.data≠.fields vs)->h'.get? b=J o)->h'.FunFrames zn l
 |[],_,_=>trivial
 |env::rest,aB,k=>by
  obtain⟨hk,⟨L,o,aA,aV,aN,hd⟩,aw⟩:=aB;have hm:L∈(env::rest).filterMap (·.frame):=by rw[List.filterMap_cons,aA];exact eA
  refine⟨hk,⟨L,o,aA,aV,k L o hm aN hd,hd⟩,NY aw fun b o ag=>k b o ?_⟩;rw[List.filterMap_cons,aA];exact dw _ ag
section
variable {M:Model} {A:dU} {E:av->aR->Prop} {s:aR} {zn:bG} {env:Env} {outer:List Env} {L e T:af} {Q:Unit->aR->Prop} {cls:av} {d:Option af} {fG:av}
def agb(tP:A.frames=J (env::outer))(aB:s.heap.FunFrames zn (env::outer))(aA:env.frame=J L)(bc:ou s.heap e cls d T fG)
  (h:∀h' fU,ou h' e cls d fU (rawInt L)->(fU=T\/s.heap.get? fU=ax)->h'.FunFrames zn (env::outer)->E4 ((env::outer).filterMap (·.frame)) e (J T) s.heap h'->Q () {s with heap:=h'}):b4 M A (noteFrame (.ref e) env) Q E s:=by
 by_cases z:fG=rawInt L
 ·subst z;obtain⟨ht,vs,lk,jX,he,hc,mW,hd,ai,mi,cc,iP,bz,r5⟩:=id bc;exact wpAny_noteFrame_inFlight aA he hd ai cc iP bz (h s.heap T bc (.inl I) aB ⟨fun b o _ _ _ e=>e,fun b o _ _ e=>⟨o.slots,e⟩⟩)
 obtain⟨ht,vs,lk,jX,he,hc,mW,hd,ai,mi,cc,iP,bz,r5⟩:=bc;unfold noteFrame;simp only[aA];refine cq (kh he hd ai ?_);rw[if_pos (show(av.ref T != av.none)=ah from by simp)];refine cq (kh cc iP bz ?_);rw[if_neg (show ¬((fG == rawInt L)=ah)from fun y=>z (beq_iff_eq.mp y))];refine cq (uR cc iP (Array.getElem?_eq_some_iff.mp bz).1 ?_);have other:∀b,b≠T->(s.heap.update T (bZ.mapFields (·.setIfInBounds 3 av.none))).get? b=s.heap.get? b:=fun b ag=>bG.get?_update_other _ _ (ei ag)
 have t8:∀b o,s.heap.get? b=J o->(∀vs,o.data≠.fields vs)->b≠T:=fun b o ag j9 q=>by
  rw[q,cc]at ag;injection ag with ag;subst ag;exact j9 jX iP
 have back:∀b,(s.heap.update T (bZ.mapFields (·.setIfInBounds 3 av.none))).get? b=ax->s.heap.get? b=ax:=fun b ag=>by
  by_cases xl:b=T
  ·subst xl;rw[bG.get?_update_self _ cc (bZ.isFreed_of_fields (bZ.data_mapFields iP _))]at ag;cases ag
  .rw[other b xl]at ag;exact ag
 subst hc;refine Ot (s:={s with heap:=s.heap.update T (bZ.mapFields (·.setIfInBounds 3 av.none))}) tP (aB.of_keeps fun b o ag j9=>⟨o,(other b (t8 b o ag j9)).trans ag,I⟩) aA ((other e (ei mi)).trans he) hd (Array.getElem?_eq_some_iff.mp ai).1 mW fun h' fU kE fj z6 rm=>?_;exact h h' fU kE (.inr (back _ fj)) z6 ⟨fun b o ai ar bz c0=>rm.keep b o ai (by simp) bz ((other b (fun z=>ar (by rw[z]))).trans c0),fun b o ai ar c0=>rm.slot b o ai (by simp) ((other b (fun z=>ar (by rw[z]))).trans c0)⟩
end
structure K7(fs Z:List af)(h h':bG):Prop where
 keep:∀b o,b∉Z->b∉fs->h.get? b=J o->h'.get? b=J o
 slot:∀b o,b∉Z->h.get? b=J o->∃eC,h'.get? b=J {o with slots:=eC}
def Vr{s1:aR}{Z:List af}(aa:Inv X au U H1 s1)(aq:X.ex=[])(S:K7 (ks X.stack) Z s1.heap h')
  (Du:∀z,z∈Z->X.eQ.heap.get? z=ax) (CB:∀z,z∈Z->H1 z=ax):g6 (ks X.outer) [] X.jI H1 X.eQ.heap h'/\gd X.prog X.w H1 h':=by
 have B:=aa.zn;rw[aq]at B;have Jj:∀b o,X.eQ.heap.get? b=J o->b∉Z:=fun b o e z=>by rw[Du b z]at e;cases e
 have Dr:∀b o,X.eQ.heap.get? b=J o->b≠X.env.locals:=fun b o e=>hl (fK (e2 e) aa.ok.above);refine⟨⟨fun b o e n ag aq=>?_,fun b o e n ag aq=>?_,B.free,fun b o e aq=>?_,B.pA,B.nH,B.px⟩,fun b u e=>(aa.aP b u e).sH (fun c v hc q=>?_) (fun _ q=>q) fun _ _ q=>q⟩
 ·refine S.keep b o (Jj b o e) (fun z=>?_) (B.keep b o e n ag aq);exact(dd.mp (aa.zZ b z)).elim (Dr b o e) ag
 ·obtain⟨eC,aL⟩:=B.slot b o e n ag aq;obtain⟨w2,aS⟩:=S.slot b _ (Jj b o e) aL;exact⟨w2,aS⟩
 ·obtain⟨o',aL⟩:=B.there b o e aq;obtain⟨w2,aS⟩:=S.slot b _ (Jj b o e) aL;exact⟨_,aS⟩
 ·have r4:∃z,H1 c=J z:=by
   rcases hc with rfl|hc
   .exact⟨_,e⟩
   .exact⟨_,hc⟩
  obtain⟨z,bV⟩:=r4;refine S.keep c v (fun y=>?_) (fun y=>?_) q
  .rw[CB c y]at bV;cases bV
  .rw[aa.J0 c y]at bV;cases bV
noncomputable def Jc(X:bQ)(E:cB):av->aR->Prop:=fun e br=>b4 (model X.prog X.w) X.A (leaving X.env e) (fun _ pk=>Ee X.prog X.w X.outer X.jI X.eQ E e pk) (fun e' pk=>Ee X.prog X.w X.outer X.jI X.eQ E e' pk) br
def aat{E:cB}{ys:Env}{ha:aR}{Cl:af}{d:Option af}
  (I5:X.xe=Jc X E) (hs:X.stack=X.env::X.outer) (aA:X.env.frame=J X.env.locals) (hex:X.ex=[]) (aa:Inv X au U ao ha) (v8:ou ha.heap a (.ref C) d T .none) (fa:ao a=ax) (Cz:ao T=ax)
  (zv:X.eQ.heap.get? a=ax) (lj:X.eQ.heap.get? T=ax) (q:E (.ref C) d ao) (qQ:ao Cl=ax) (afH:X.eQ.heap.get? Cl=ax) (adb:Cl∉ks X.stack) (adl:∃m,ha.heap.Ns Cl m) (Il:ys.frame=X.env.frame) :
  notedBy (model X.prog X.w) X.A ys (fun e br=>compPost (model X.prog X.w) X.A X.xe use Qf acc Cl (.error e) br) (.ref a) ha:=by
 unfold notedBy;rw[aaY Il];have fr:X.A.frames=J (X.env::X.outer):=aa.ok.frames.trans (congrArg J hs);have fst:ha.heap.FunFrames X.zn (X.env::X.outer):=hs ▸ aa.stack;have Oq:ks X.stack=(X.env::X.outer).filterMap (·.frame):=by rw[hs];rfl
 have OM:Cl∉(X.env::X.outer).filterMap (·.frame):=by rw[<-Oq];exact adb
 refine agc fr fst aA v8 fun mT fU kE fj z6 rm=>?_
 suffices yU:∃m,mT.Ns Cl m/\∀h',bG.SameBut Cl mT h'->∀ys:Env,ys.locals=Cl->b4 (model X.prog X.w) X.A (PySem.passOn "comprehension.variables-let-go" (.ref a) ys:Sem av) (fun _ _=>False) X.xe {ha with heap:=h'} by
  cases use<;>exact yU
 obtain⟨m,Dv,aZ,gh,IJ,O7,aiM⟩:=adl
 have Jk:∀{h:bG}{b:af}{o:bZ}{vs:Array av},h.get? b=J o->o.data=.fields vs->h.get? Cl=J Dv->b≠Cl:=fun aL aS gw z=>by
  subst z;rw[aL]at gw;cases gw;rw[O7]at aS;cases aS
 have CF:Cl≠a:=by
  obtain⟨ht,vs,lk,jX,he,hc,mW,hd,_⟩:=v8;exact(Jk he hd IJ).symm
 have ac9:Cl≠T:=by
  obtain⟨ht,vs,lk,jX,he,hc,mW,hd,ai,mi,cc,iP,_⟩:=v8;exact(Jk cc iP IJ).symm
 have ua:mT.get? Cl=J Dv:=rm.keep Cl Dv CF (fun z=>ac9 (gq z)) OM IJ;refine⟨m,⟨Dv,aZ,gh,ua,O7,aiM⟩,fun h' mx Oh _=>?_⟩;obtain⟨ht,vs,lk,jX,he,hc,mW,hd,ai,mi,cc,iP,bz,r5⟩:=id kE;have ada:fU≠Cl:=Jk cc iP ua;have tM:h'.get? a=J ht:=mx.extBut a ht (ei CF) he;have wi:h'.get? fU=J lk:=mx.extBut _ _ ada cc;have y7:3<jX.size:=(Array.getElem?_eq_some_iff.mp bz).1
 have step:b4 (model X.prog X.w) X.A (setFlight (.ref a) Oh.frame) (fun _ n2=>X.xe (.ref a) n2) X.xe {ha with heap:=h'}:=by
  unfold setFlight;refine cq (kh tM hd ai ?_);rw[if_pos (show(av.ref fU != av.none)=ah from by simp)];refine uR wi iP y7 ?_;generalize p7:(Oh.frame.elim av.none fun f=>rawInt f)=fG;have other:∀b,b≠fU->(h'.update fU (bZ.mapFields (·.setIfInBounds 3 fG))).get? b=h'.get? b:=fun b ag=>bG.get?_update_other _ _ (ei ag);have OI:ou (h'.update fU (bZ.mapFields (·.setIfInBounds 3 fG))) a (.ref C) d fU fG:=⟨ht,vs,_,_,(other a (ei mi)).trans tM,hc,mW,hd,ai,mi,bG.get?_update_self _ wi (bZ.isFreed_of_fields (bZ.data_mapFields iP _)),bZ.data_mapFields iP _,by simp[y7],r5⟩;have Df:∀b o,b≠Cl->b≠fU->mT.get? b=J o->(h'.update fU (bZ.mapFields (·.setIfInBounds 3 fG))).get? b=J o:=fun b o fE eK e=>(other b eK).trans (mx.extBut b o fE e)
  have OG:(h'.update fU (bZ.mapFields (·.setIfInBounds 3 fG))).FunFrames X.zn (X.env::X.outer):=NY z6 fun b o ag e j9=>Df b o (fun z=>OM (z ▸ ag)) (fun z=>by
   rw[z,cc]at e;cases e;exact j9 jX iP) e
  generalize (h'.update fU (bZ.mapFields (·.setIfInBounds 3 fG)))=yE at OI OG Df ⊢;rw[I5];unfold Jc leaving;refine cq (agb (s:={ha with heap:=yE}) fr OG aA OI fun mQ mG rn kF Kn SF=>?_);refine afb (s:={ha with heap:=mQ}) Kn rn fun OK di dg gS=>?_;have zu:∀b o,ha.heap.get? b=J o->b≠fU:=fun b o e z=>by rw[z,fj]at e;cases e
  have Ss:∀b o,b∉[a,T,Cl]->ha.heap.get? b=J o->∃eC,yE.get? b=J {o with slots:=eC}:=fun b o ag e=>by
   simp only[dd,List.not_mem_nil,or_false,not_or]at ag;obtain⟨eC,yw⟩:=rm.slot b o ag.1 (fun z=>ag.2.1 (gq z)) e;exact⟨eC,Df b _ ag.2.2 (zu b o e) yw⟩
  have Ji:∀b o,b∉[a,T,Cl]->ha.heap.get? b=J o->b≠mG:=fun b o ag e z=>by
   rcases kF with y|y
   .exact zu b o e (z.trans y)
   ·obtain⟨eC,Cn⟩:=Ss b o ag e;have jb:yE.get? mG=ax:=y;rw[z,jb]at Cn;cases Cn
  have S:K7 (ks X.stack) [a,T,Cl] ha.heap OK:=by
   refine⟨fun b o ag tL e=>?_,fun b o ag e=>?_⟩
   ·have lQ:=ag;simp only[dd,List.not_mem_nil,or_false,not_or]at lQ;rw[Oq]at tL;refine gS b o (Ji b o ag e) (SF.keep b o lQ.1 (fun z=>zu b o e (gq z)) tL ?_);exact Df b o lQ.2.2 (zu b o e) (rm.keep b o lQ.1 (fun z=>lQ.2.1 (gq z)) tL e)
   ·have lQ:=ag;simp only[dd,List.not_mem_nil,or_false,not_or]at lQ;obtain⟨eC,Cn⟩:=Ss b o ag e;obtain⟨w2,abT⟩:=SF.slot b _ lQ.1 (fun z=>zu b o e (gq z)) Cn;exact⟨w2,gS b _ (Ji b o ag e) abT⟩
  have Du:∀z,z∈[a,T,Cl]->X.eQ.heap.get? z=ax:=fun z bV=>by
   simp only[dd,List.not_mem_nil,or_false]at bV;rcases bV with rfl|rfl|rfl
   .exact zv
   .exact lj
   .exact afH
  have CB:∀z,z∈[a,T,Cl]->ao z=ax:=fun z bV=>by
   simp only[dd,List.not_mem_nil,or_false]at bV;rcases bV with rfl|rfl|rfl
   .exact fa
   .exact Cz
   .exact qQ
  obtain⟨u,hk⟩:=Vr aa hex S Du CB
  have P2:mG∉[a,T,Cl]->ha.heap.get? mG=ax:=fun bV=>by
   cases e:ha.heap.get? mG with
   |none=>rfl
   |some o=>exact absurd I (Ji mG o bV e)
  have f2:ao mG=ax:=by
   by_cases bV:mG∈[a,T,Cl]
   .exact CB _ bV
   .exact aa.aP.none (P2 bV)
  have dS:X.eQ.heap.get? mG=ax:=by
   by_cases bV:mG∈[a,T,Cl]
   .exact Du _ bV
   ·cases e:X.eQ.heap.get? mG with
    |none=>rfl
    |some o =>
     obtain⟨o',e'⟩:=aa.zn.there mG o e (by rw[hex];simp);rw[P2 bV]at e';cases e'
  exact⟨a,C,d,ao,mG,I,aa.os,aa.bare,u,hk,di,fa,f2,zv,dS,q⟩
 unfold PySem.passOn;refine cq (kh tM hd ai ?_);rw[if_neg (show ¬((av.ref fU == av.none)=ah)from by simp)];exact cq (dt step fun _ n2 h=>wpAny_throw h)
noncomputable def abI(Y:bQ)(E:cB):av->aR->Prop:=fun e br=>∃(au:List (af×bZ))(bE:St)(H1:al)(s1:aR),Inv Y au bE H1 s1/\Ee Y.prog Y.w Y.stack H1 s1 E e br
noncomputable def p1(X:bQ)(E:cB)(dR:Scope)(cl:List (ae×af))(C:af)(N:List ae)(s2:aR)(ao:al)(cm:List af):bQ:=(Ch X dR cl C N s2 ao cm).m8 (abI (Ch X dR cl C N s2 ao cm) E)
section
variable {X:bQ} {elt jv iter:cU} {ifs:List cU} {dR:Scope} {bh p:Pos} {gv:List (Nat×ae)} {hv:List ae} {ja:dZ} {g:gp} {gm:g0} {cJ:TE}
set_option maxHeartbeats 1000000
def Mr{E:cB}{Q:bI}
  (aeJ:(X.xe=Jc X E/\X.stack=X.env::X.outer/\X.env.frame=J X.env.locals/\X.ex=[])\/∀c d H,¬E c d H) (hc:X.calm=ah) (wC:Cg dR (gv.map (·.2))=ah) (yO:sQ X gv) (aF:iE X jv iter ja)
  (bb:∀cl C s2 ao cm,qA (p1 X E dR cl C (hv++gv.map (·.2)) s2 ao cm) jv g)
  (bc:∀cl C s2 ao cm,vt (p1 X E dR cl C (hv++gv.map (·.2)) s2 ao cm) ifs gm)
  (he:∀cl C s2 ao cm,cH (p1 X E dR cl C (hv++gv.map (·.2)) s2 ao cm) elt cJ)
  (aa:Inv X au U H s) (h:J4 ja g gm cJ (pZ hv gv) U H Q)
  (dp:∀D C H' br,Inv X au U H' br->Q (.ref D) H'->H' C=ax->C≠X.env.locals->X.eQ.heap.objs.size<=C->(∀x c,X.env.cells.lookup x=J c->c≠C)->(∀p∈X.pn++au,p.1≠C)->(∃m,br.heap.Ns C m)->
   compPost (model X.prog X.w) X.A X.xe use Qf (.ref D) C (.ok .next) br)
  (hs:rg (∀x,foldedSetIterable iter X.env x=pure x) rrs) :
  b4 (model X.prog X.w) X.A (comprehension (.ListComp elt [⟨jv,iter,ifs,0⟩] dR bh) dR X.env p (newList []) aE (eval iter X.env) use) Qf X.xe s:=by
 simp only[Cg,g4,ig,beq_iff_eq,bne_iff_ne,Bool.or_eq_true,List.contains_iff_mem]at wC;obtain⟨⟨⟨⟨iT,jS⟩,sj⟩,zi⟩,sk⟩:=wC;have ad8:∀y∈dR.names,y.2=.local->dR.names.lookup y.1=J .local:=fun y aW aB=>(sj y aW).resolve_left fun z=>z aB;have Og:=yO.at
 have tP:∀y∈dR.names,y.2=.free->∃c,X.env.cells.lookup y.1=J c:=fun y aW aA=>by
  have hm:=(zi y aW).resolve_left fun z=>z aA;obtain⟨q,bo,e⟩:=List.mem_map.mp hm;have:=(Og q bo).2;rw[e]at this;exact aa.ok.has _ this
 obtain⟨cl,kP,gy,f9,_⟩:=Gr dR.names tP [] (fun x c e=>by cases e)
 have ady:closureFor dR X.env=pure cl:=by
  refine(show closureFor dR X.env=(_ >>= pure)from rfl).trans ((congrArg (· >>= pure) kP).trans ?_);rfl
 refine wpAny_comprehension_free (use:=use) I hs ady iT ad8 (dt (aF au s U H _ aa h) fun v s1 ai=>dt ai fun Ja s2 ar=>?_);obtain⟨it,cm,i9,bF,ao,e,cM,T,ju,f2,adn⟩:=ar;subst e;have OF:ao s2.heap.objs.size=ax:=cM.fresh;obtain⟨W,⟨m0,ke⟩,turn⟩:=adn _ OF;refine wpAny_newObj_type (wpAny_newFunctionEnv jS (by intro y aW;simp at aW) (fun iQ II C5=>?_) iT);dsimp only at II C5 ⊢;generalize H6:s2.heap.push {cls :=.type "list",dict:=ax,data :=.seq ([]:List av).toArray}=bp at II C5 ⊢;have qQ:bp.objs.size=s2.heap.objs.size+1:=by rw[<-H6,bG.size_push]
 have OO:s2.heap.objs.size≠bp.objs.size:=by rw[qQ];exact hl (Nat.lt_succ_self _)
 have CG:s2.heap.objs.size<=bp.objs.size:=by rw[qQ];exact Nat.le_succ _
 have below:∀b,b<s2.heap.objs.size->b≠bp.objs.size:=fun b ag=>by rw[qQ];exact hl (Nat.lt_succ_of_lt ag)
 have old:∀b o,s2.heap.get? b=J o->iQ.get? b=J o:=fun b o e=>C5.extBut b o (below b (e2 e)) (fV _ (H6 ▸ fV _ e));have adq:iQ.get? s2.heap.objs.size=J {cls :=.type "list",dict:=ax,data :=.seq ([]:List av).toArray}:=C5.extBut _ _ OO (fV _ (H6 ▸ hA _ rfl));have acB:ao bp.objs.size=ax:=cM.aP.fresh CG
 have HP:∀b∈cm,b<s2.heap.objs.size:=fun b ag=>by
  obtain⟨o,aN,_⟩:=T.obj _ _ ju b ag;exact e2 aN
 let mJ:=p1 X E dR cl bp.objs.size (hv++gv.map (·.2)) s2 ao cm
 have ags:mJ.Ok:=by
  refine⟨cM.ok.mod,iT,cM.ok.glob,cM.ok.blt,CG,fun x y c aq aW=>cM.ok.inj x y c (gy _ _ aq) (gy _ _ aW),fun x aq=>?_,(fun x c aA=>nomatch aA),cM.ok.hd,cM.ok.frames,.inl I,fun b ag=>⟨below b (HP b ag),fun x c aq=>(f2 b ag).2.2.2.2.1 x c (gy _ _ aq)⟩,cM.bs,
   dF cM.ok.pX cM.d3,fun b o e ag=>?_,fun b ag z=>?_,cM.stack,cM.J0⟩
  .exact f9 (x,.free) (Fj (L2 aq jS)) I
  ·rcases(f2 b ag).2.2.2.1 with z|z
   .exact cM.ok.wY b o e z
   .exact absurd (fK (e2 e) cM.ok.pX) (Nat.not_lt.mpr z)
  ·rcases dd.mp (cM.zZ b z)with q|q
   .exact(f2 b ag).2.1 q
   .exact(f2 b ag).2.2.1 q
 have akg:g6 (ks X.stack) cm ao (upd ao s2.heap.objs.size (.lst [])) s2.heap iQ:=g6.laid old (cp _) OF;have aeg:gd X.prog X.w (upd ao s2.heap.objs.size (.lst [])) iQ:=cM.aP.laid old (cp _) ⟨UF _,[],0,.nil,adq⟩
 have xx:∀dQ,Inv mJ [] (pZ hv gv U) (upd ao s2.heap.objs.size (.lst [])) {s2 with heap:=iQ,toks:=dQ}:=fun dQ=>by
  refine⟨ags,I,cM.bare,akg,⟨_,II,fun i x v aL aS gw=>?_⟩,fun x c aq=>?_,?_,fun x c aq=>?_,fun q bo=>?_,aeg,?_⟩
  ·
   obtain⟨kT,_,gb⟩:=cM.loc
   have hH:hv.length<=i:=by
    rcases g5 i hv.length with z|z
    ·have:(pZ hv gv U)[i]?=J ax:=by
      unfold pZ;rw[List.getElem?_append_left (by simpa using z),List.getElem?_replicate,if_pos z]
     rw[this]at aS;cases aS
    .exact z
   have tw:(hv++gv.map (·.2))[i]?=J x:=aL;rw[List.getElem?_append_right hH,eD]at tw
   have yv:(gv.map fun p=>(U[p.1]?).join)[i-hv.length]?=J (J v):=by
    have:(pZ hv gv U)[i]?=(gv.map fun p=>(U[p.1]?).join)[i-hv.length]?:=by
     unfold pZ;rw[List.getElem?_append_right (by simpa using hH),List.length_replicate]
    rw[<-this];exact aS
   rw[eD]at yv;cases bo:gv[i-hv.length]? with
   |none=>rw[bo]at tw;cases tw
   | some q =>
    rw[bo]at tw yv;obtain rfl:q.2=x:=gq tw;have Co:(U[q.1]?).join=J v:=gq yv
    have eH:U[q.1]?=J (J v):=by
     cases z:U[q.1]? with
     |none=>rw[z]at Co;cases Co
     |some y=>rw[z]at Co;exact congrArg J Co
    have PA:q∈gv:=eY bo;obtain⟨e0,dS⟩:=Og q PA
    have aeD:A3 X.env.scope q.2:=by
     rcases dS with z|z
     .exact .inr (.inl z)
     .exact .inr (.inr z)
    obtain⟨u,e1,wQ⟩:=gb q.1 q.2 v e0 eH aeD;have yS:dR.names.lookup q.2=J .free:=sk q.2 (List.mem_map_of_mem PA);refine⟨u,e1,.inr ⟨L1 yS,?_⟩⟩;rcases wQ with⟨z,_⟩|⟨_,c,CQ,iW,C1,IL⟩
    .rcases dS with y|y<;>(rw[y]at z;cases z)
    ·obtain⟨i2,ml⟩:=f9 (q.2,.free) (Fj yS) rfl;have:=gy _ _ ml;rw[CQ]at this;cases this;exact⟨c,ml,iW,old _ _ C1,IL⟩
  ·obtain⟨v,o,aN,hd⟩:=cM.cell x c (gy _ _ aq);exact⟨v,o,old _ _ aN,hd⟩
  ·show upd ao s2.heap.objs.size (.lst []) bp.objs.size=ax;rw[bC (ei OO)];exact acB
  ·have Il:=cM.nG x c (gy _ _ aq);obtain⟨v,o,aN,hd⟩:=cM.cell x c (gy _ _ aq);rw[bC (hl (e2 aN))];exact Il
  ·have:q∈([]:List (af×bZ)):=bo;cases this
  ·show(pZ hv gv U).length=(hv++gv.map (·.2)).length;simp[pZ]
 have uD:∀{zF:List (af×bZ)}{H':al},(∀b∈cm,H' b=ax)->(∀q∈zF,q.1∉cm)->∀b∈cm,qr mJ zF H' b:=fun aV aU b ag =>
  ⟨aV b ag,below b (HP b ag),fun z=>by
   rcases dd.mp (cM.zZ b z)with q|q
   .exact(f2 b ag).2.1 q
   .exact(f2 b ag).2.2.1 q,.inl ag,fun x c aq=>(f2 b ag).2.2.2.2.1 x c (gy _ _ aq),fun q bo z=>aU q bo (z ▸ ag)⟩
 have Jl:∀q∈([]:List (af×bZ)),q.1∉cm:=fun _ z=>nomatch z;have Sr:i9 0 iQ:=T.keep _ _ _ ju fun b ag o e=>old b o e
 have acE:∀b∈cm,(upd ao s2.heap.objs.size (.lst [])) b=ax:=fun b ag=>by
  rw[bC (hl (HP b ag))];exact(f2 b ag).1
 have err:∀e ha,mJ.xe e ha->notedBy (model X.prog X.w) X.A (compEnvC dR cl bp.objs.size X.env) (fun e br=>compPost (model X.prog X.w) X.A X.xe use Qf (.ref s2.heap.objs.size) bp.objs.size (.error e) br) e ha:=by
  rintro e ha ⟨agB,bE,H1,s1,bB,a,C,d,KL,fU,rfl,os,bare,un,aP,v8,fa,Cz,zv,lj,q⟩;obtain⟨I5,q1,adR,hex⟩:=aeJ.resolve_right fun z=>z _ _ _ q;have rB:Inv (Ch X dR cl bp.objs.size (hv++gv.map (·.2)) s2 ao cm) agB bE KL ha:=bB.Hw (ch:=[]) os un aP bare (fun b z=>absurd z (by simp));have xD:Inv X au U KL ha:=cM.Hw rB.os rB.zn rB.aP rB.bare fun b ag=>⟨(f2 b ag).2.2.2.1,(f2 b ag).2.1,(f2 b ag).2.2.2.2.1,(f2 b ag).2.2.2.2.2⟩
  have Qe:∀b,s1.heap.get? b=ax->X.eQ.heap.get? b=ax:=fun b ag=>by
   cases z:X.eQ.heap.get? b with
   |none=>rfl
   | some o =>
    obtain⟨o',e'⟩:=cM.zn.there b o z (by rw[hex];simp)
    have af5:b∉cm:=fun hm=>by
     rcases(f2 b hm).2.2.2.1 with y|y
     .rw[hex]at y;cases y
     .exact absurd (e2 z) (Nat.not_lt.mpr y)
    obtain⟨alX,Ol⟩:=bB.zn.there b o' e' af5;rw[ag]at Ol;cases Ol
  refine aat I5 q1 adR hex xD v8 fa Cz (Qe a zv) (Qe fU lj) q rB.free ?_ ?_ ?_ I
  .exact bG.get?_none_of_le (dF cM.d3 CG)
  ·intro hm;obtain⟨_,o,aN,_⟩:=cM.stack.mem hm;exact below _ (e2 aN) I
  ·obtain⟨m,hm,_⟩:=rB.loc;exact⟨m,hm⟩
 have loop:∀uE:aR,uE={s2 with heap:=iQ,toks:=s2.toks+([]:List (ae×av)).length}->
   oe (model X.prog X.w) X.A (.compLoop (.ListComp elt [⟨jv,iter,ifs,0⟩] dR bh) 0 (.ref it) (.ref s2.heap.objs.size) (compEnvC dR cl bp.objs.size X.env))
    (compPost (model X.prog X.w) X.A X.xe use Qf (.ref s2.heap.objs.size) bp.objs.size) uE:=by
  rintro uE rfl;refine Zi (fun n br=>∃i b2 H',Inv mJ [] b2 H' br/\i9 i br.heap/\(∀b∈cm,H' b=ax)/\W i n b2 H') ?_ m0 ⟨0,_,_,xx _,Sr,acE,ke⟩;rintro n i8 ⟨i,lx,Al,j0,kC,yB,rl⟩;rcases turn i n lx Al rl with⟨stop,Jv⟩|⟨go,step⟩
  ·refine dt (T.done mJ I I I hc i [] i8 lx Al _ j0 (uD yB Jl) kC stop) fun r uu cb=>?_;obtain⟨aw,u6⟩:=cb;subst aw;have un:=u6.zn;refine dp _ _ Al uu (cM.Hw u6.os un u6.aP u6.bare fun b ag=>?_) Jv u6.free ?_ (dF cM.d3 CG) ?_ ?_ ?_
   .exact⟨(f2 b ag).2.2.2.1,(f2 b ag).2.1,(f2 b ag).2.2.2.2.1,(f2 b ag).2.2.2.2.2⟩
   .exact ei (below _ cM.lt)
   ·intro x c aq;obtain⟨v,o,aN,hd⟩:=cM.cell x c aq;exact below c (e2 aN)
   ·intro q bo;obtain⟨e,_⟩:=cM.pin q bo;exact below _ (e2 e)
   ·obtain⟨m,hm,_⟩:=u6.loc;exact⟨m,hm⟩
  ·refine dt (T.item mJ I I I hc i [] i8 lx Al _ j0 (uD yB Jl) kC go) fun r uu cb=>?_;obtain⟨u,aw,c0⟩:=cb;subst aw;refine dt c0 fun _ zK cb=>?_;obtain⟨x,gZ,EH,sF,Ko,jW,HQ⟩:=cb;have EI:=EH.pinned (uD HQ Jl) (T.obj _ _ jW);refine mz (bb _ _ _ _ _ _ zK lx gZ x u _ EI sF (step x gZ Ko)) (fun _ JC cb=>?_) fun e ha z=>err e ha z;obtain⟨xm,dm,EJ,zH⟩:=cb
   have again:∀{ly:St}{hL:al}{n0:aR}{bU:Nat},Inv mJ ([]++zG cm zK.heap) ly hL n0->bU<n->W (i+1) bU ly hL->∃m,m<n/\∃i b2 H',Inv mJ [] b2 H' n0/\i9 i n0.heap/\(∀b∈cm,H' b=ax)/\W i m b2 H':=fun{ly hL n0 bU}kj hm z4=>by
    refine⟨bU,hm,i+1,ly,hL,kj.DX,T.keep _ _ _ jW fun b ag o e=>(kj.pin (b,o) (nr _ (nr _ (BC ag e)))).1,fun b ag=>?_,z4⟩;obtain⟨o,e,d⟩:=T.obj _ _ jW b ag;exact(kj.pin (b,o) (nr _ (nr _ (BC ag e)))).2.1
   refine mz (bc _ _ _ _ _ _ JC xm dm _ EJ zH) (fun ok n0 cb=>?_) fun e ha z=>err e ha z;obtain⟨hL,kj,pg⟩:=cb;cases ok with
   |false =>
    obtain⟨bU,hm,z4⟩:=pg;exact again kj hm z4
   |true =>
    refine mz (he _ _ _ _ _ _ n0 xm hL _ kj pg) (fun DZ ha cb=>?_) fun e ha z=>err e ha z;obtain⟨y,Am,rB,aiK,agG⟩:=cb;obtain⟨xs,bU,c2,bV,hm,akj⟩:=agG;refine mz (qt (X:=mJ) _ ha xm Am (.ref s2.heap.objs.size) [y] (.ref s2.heap.objs.size) [DZ] (fun _ sY=>W (i+1) bU xm sY) rB I (.cons aiK .nil) ⟨_,xs,y,I,I,c2,bV,akj⟩) (fun _ al2 cb=>?_) fun e ha z=>err e ha z;obtain⟨_,sY,TU,_,agH⟩:=cb;exact again TU hm agH
 exact codeAny_compStart_list (loop _ I) (T.self _ 0 _ _ _ Sr (loop _ I))
end
end c7
end
section
namespace c7
open PySem PySem.W PySem.Spec PyProof.Rows PySem.SeqAt
noncomputable def ae5:D->Bool
 |.bf=>ah
 |_=>aE
noncomputable def Ow(a:Bool):D->Bool
 |.aK b=>a == b
 |.int b=>(if a then 1 else 0) == b
 |_=>aE
noncomputable def Cw(a:Int):D->Bool
 |.aK b=>a == (if b then 1 else 0)
 |.int b=>a == b
 |_=>aE
noncomputable def Cx(a:ae):D->Bool
 |.str b=>a == b
 |_=>aE
noncomputable def aco(g:List D->Bool):D->Bool
 |.tup ds=>g ds
 |_=>aE
noncomputable def acn(g:List D->Bool):D->Bool
 |.lst ds=>g ds
 |_=>aE
mutual
noncomputable def fv:D->D->Bool
 |.bf,d=>ae5 d
 |.aK a,d=>Ow a d
 |.int a,d=>Cw a d
 |.str a,d=>Cx a d
 |.tup as,d=>aco (gN as) d
 |.lst as,d=>acn (gN as) d
noncomputable def gN:List D->List D->Bool
 |[],ds=>ds.isEmpty
 |a::as,ds=>match ds with|[]=>aE|d::ds=>fv a d&&gN as ds
end
mutual
noncomputable def dK:D->Nat
 |.bf=>1
 |.aK _=>1
 |.int _=>1
 |.str _=>1
 |.tup ds=>er ds+1
 |.lst ds=>er ds+1
noncomputable def er:List D->Nat
 |[]=>0
 |d::ds=>max (dK d) (er ds)
end
def B5(d:D):1<=dK d:=by cases d<;>rw[dK]<;>lia
theorem nA{d:D}{n:Nat}:∀{ds:List D},d∈ds->er ds<=n->dK d<=n
 |[],h,_=>by cases h
 |e::ds,h,aV=>by
  rw[er]at aV;rcases dd.mp h with rfl|h
  .omega
  .exact nA h (by lia)
mutual
theorem MO:∀d:D,fv d d=ah
 |.bf=>by rw[fv];rfl
 |.aK b=>by rw[fv];show(b == b)=ah;exact beq_self_eq_true b
 |.int b=>by rw[fv];show(b == b)=ah;exact beq_self_eq_true b
 |.str b=>by rw[fv];show(b == b)=ah;exact beq_self_eq_true b
 |.tup ds=>by rw[fv];exact xX ds
 |.lst ds=>by rw[fv];exact xX ds
theorem xX:∀ds:List D,gN ds ds=ah
 |[]=>by rw[gN];rfl
 |d::ds=>by
  rw[gN];show(fv d d&&gN ds ds)=ah;rw[MO d,xX ds];rfl
end
theorem BV:∀(ds aZ:List D),gN ds aZ=((List.range (min ds.length aZ.length)).all (fun j=>fv (ds.getD j .bf) (aZ.getD j .bf))&&ds.length == aZ.length)
 |[],aZ=>by
  rw[gN];cases aZ<;>simp
 |d::ds,[]=>by rw[gN];simp
 |d::ds,e::aZ=>by
  rw[gN];show(fv d e&&gN ds aZ)=_;rw[BV ds aZ,eb,eb,Nat.succ_min_succ,List.range_succ_eq_map,List.all_cons,List.all_map];have aL:(ds.length+1 == aZ.length+1)=(ds.length == aZ.length):=by rw[Bool.eq_iff_iff];simp
  rw[aL,Bool.and_assoc];rfl
mutual
theorem dj.inj{H:al}:∀(d d':D){v:V},dj H d v->dj H d' v->d=d'
 |.bf,d',v,h,h'=>by
  obtain rfl:v=.bf:=h;cases d' with
  |bf=>rfl
  |aK b=>cases(show V.bf=V.aK b from h')
  |int b=>cases(show V.bf=V.int b from h')
  |str b=>cases h'.1
  |tup ds=>obtain⟨a,vs,z,_⟩:=h';cases z
  |lst ds=>obtain⟨a,vs,z,_⟩:=h';cases z
 |.aK b,d',v,h,h'=>by
  obtain rfl:v=.aK b:=h;cases d' with
  |bf=>cases(show V.aK b=V.bf from h')
  |aK c=>have z:V.aK b=V.aK c:=h';injection z with z;rw[z]
  |int c=>cases(show V.aK b=V.int c from h')
  |str c=>cases h'.1
  |tup ds=>obtain⟨a,vs,z,_⟩:=h';cases z
  |lst ds=>obtain⟨a,vs,z,_⟩:=h';cases z
 |.int b,d',v,h,h'=>by
  obtain rfl:v=.int b:=h;cases d' with
  |bf=>cases(show V.int b=V.bf from h')
  |int c=>have z:V.int b=V.int c:=h';injection z with z;rw[z]
  |aK c=>cases(show V.int b=V.aK c from h')
  |str c=>cases h'.1
  |tup ds=>obtain⟨a,vs,z,_⟩:=h';cases z
  |lst ds=>obtain⟨a,vs,z,_⟩:=h';cases z
 |.str b,d',v,h,h'=>by
  obtain⟨rfl,_⟩:=h;cases d' with
  |bf=>cases(show V.str b=V.bf from h')
  |int c=>cases(show V.str b=V.int c from h')
  |aK c=>cases(show V.str b=V.aK c from h')
  |str c=>have z:=h'.1;injection z with z;rw[z]
  |tup ds=>obtain⟨a,vs,z,_⟩:=h';cases z
  |lst ds=>obtain⟨a,vs,z,_⟩:=h';cases z
 |.tup ds,d',v,h,h'=>by
  obtain⟨a,vs,rfl,cL,hs,_⟩:=h;cases d' with
  |bf=>cases(show V.ref a=V.bf from h')
  |int c=>cases(show V.ref a=V.int c from h')
  |aK c=>cases(show V.ref a=V.aK c from h')
  |str c=>cases h'.1
  |tup aZ=>obtain⟨b,ws,z,eG,ka,_⟩:=h';cases z;rw[cL]at eG;cases eG;rw[cj.inj ds aZ hs ka]
  |lst aZ=>obtain⟨b,ws,z,eG,ka,_⟩:=h';cases z;rw[cL]at eG;cases eG
 |.lst ds,d',v,h,h'=>by
  obtain⟨a,vs,rfl,cL,hs,_⟩:=h;cases d' with
  |bf=>cases(show V.ref a=V.bf from h')
  |int c=>cases(show V.ref a=V.int c from h')
  |aK c=>cases(show V.ref a=V.aK c from h')
  |str c=>cases h'.1
  |tup aZ=>obtain⟨b,ws,z,eG,ka,_⟩:=h';cases z;rw[cL]at eG;cases eG
  |lst aZ=>obtain⟨b,ws,z,eG,ka,_⟩:=h';cases z;rw[cL]at eG;cases eG;rw[cj.inj ds aZ hs ka]
theorem cj.inj{H:al}:∀(ds aZ:List D){vs:List V},cj H ds vs->cj H aZ vs->ds=aZ
 |[],aZ,vs,h,h'=>by
  obtain rfl:vs=[]:=h;cases aZ with
  |nil=>rfl
  |cons e aZ=>obtain⟨v,r,z,_⟩:=h';cases z
 | d::ds,aZ,vs,h,h'=>by
  obtain⟨v,r,rfl,q,b1⟩:=h;cases aZ with
  |nil=>cases(show v::r=[]from h')
  |cons e aZ =>
   obtain⟨gH,eW,z,iA,agF⟩:=h';cases z;rw[dj.inj d e q iA,cj.inj ds aZ b1 agF]
end
section
variable {X:bQ} {au:List (af×bZ)} {U:St} {H:al} {s:aR} {A:dU} {a1 a2:af} {hD gU:List D} {lu gX:List V}
def Na{iS fm:List av}(cf:Vals lu iS)(d8:Vals gX fm)(ai:cj H hD lu)(ar:cj H gU gX)
  (he:∀(e aS:D)(w jY:V)(x fj:av),e∈hD->dj H e w->dj H aS jY->RelV w x->RelV jY fj->EqAt A s x fj (fv e aS)) :
  ∀j(ai:j<iS.toArray.size)(ar:j<fm.toArray.size),EqAt A s iS.toArray[j] fm.toArray[j] (fv (hD.getD j .bf) (gU.getD j .bf)):=by
 intro j c9 dz;rw[eU]at c9 dz;have aL:=cf.length;have aS:=d8.length;have g1:lu[j]?=J (lu[j]'(by lia)):=cI (by lia);have g2:gX[j]?=J (gX[j]'(by lia)):=cI (by lia);obtain⟨hx,q3,rf⟩:=cf.get g1;obtain⟨dW,q4,e6⟩:=d8.get g2;obtain⟨hC,ku,i7⟩:=cj.get hD ai g1;obtain⟨iq,dH,kx⟩:=cj.get gU ar g2
 have dC:iS.toArray[j]'(by rw[eU];exact c9)=hx:=by
  rw[List.getElem_toArray];rw[cI c9]at q3;exact gq q3
 have cW:fm.toArray[j]'(by rw[eU];exact dz)=dW:=by
  rw[List.getElem_toArray];rw[cI dz]at q4;exact gq q4
 rw[dC,cW,eJ,eJ,ku,dH];exact he hC iq _ _ hx dW (eY ku) i7 kx rf e6
def aiW(aa:Inv X au U H s)(cz:A.units<cLine)(aL:H a1=J (.tup lu))(aS:H a2=J (.tup gX))(ai:cj H hD lu)(ar:cj H gU gX)
  (he:∀(e aS:D)(w jY:V)(x fj:av),e∈hD->dj H e w->dj H aS jY->RelV w x->RelV jY fj->EqAt A.in1 s x fj (fv e aS)) :
  RcAt A s (.ref a1) (.ref a2) (gN hD gU)/\RcNeAt A s (.ref a1) (.ref a2) (!gN hD gU):=by
 obtain⟨iS,cf,c4,_⟩:=aa.tuple (gf.of aL);obtain⟨fm,d8,cn,_⟩:=aa.tuple (gf.of aS);have c9:iS.toArray.size=hD.length:=by rw[eU,<-cf.length];exact cj.len hD ai
 have dz:fm.toArray.size=gU.length:=by rw[eU,<-d8.length];exact cj.len gU ar
 have E:=Na cf d8 ai ar he;have f5:=RcAt.tuples (fQ c4) (fQ cn) cz E;have xp:=RcNeAt.tuples (fQ c4) (fQ cn) cz E;rw[c9,dz,<-BV]at f5 xp;exact⟨f5,xp⟩
def aiV(aa:Inv X au U H s)(cz:A.units<cLine)(aL:H a1=J (.lst lu))(aS:H a2=J (.lst gX))(ai:cj H hD lu)(ar:cj H gU gX)
  (he:∀(e aS:D)(w jY:V)(x fj:av),e∈hD->dj H e w->dj H aS jY->RelV w x->RelV jY fj->EqAt A.in1 s x fj (fv e aS)) :
  RcAt A s (.ref a1) (.ref a2) (gN hD gU)/\RcNeAt A s (.ref a1) (.ref a2) (!gN hD gU):=by
 obtain⟨iS,cf,c4,_⟩:=aa.list (cZ.of aL);obtain⟨fm,d8,cn,_⟩:=aa.list (cZ.of aS);have c9:iS.toArray.size=hD.length:=by rw[eU,<-cf.length];exact cj.len hD ai
 have dz:fm.toArray.size=gU.length:=by rw[eU,<-d8.length];exact cj.len gU ar
 have E:=Na cf d8 ai ar he;by_cases z:hD.length=gU.length
 ·have f5:=RcAt.lists c4.isList cn.isList (by rw[c9,dz,z]) cz E;have xp:=RcNeAt.lists c4.isList cn.isList (by rw[c9,dz,z]) cz E;have G:=BV hD gU;rw[z,Nat.min_self,beq_self_eq_true,Bool.and_true]at G;rw[c9,z,<-G]at f5 xp;exact⟨f5,xp⟩
 ·have G:=BV hD gU;rw[beq_false_of_ne z,Bool.and_false]at G;rw[G];have mY:(iS.toArray.size != fm.toArray.size)=ah:=by rw[c9,dz];simpa using z
  exact⟨RcAt.lists_lengths c4.isList cn.isList mY cz,RcNeAt.lists_lengths c4.isList cn.isList mY cz⟩
def V9(aa:Inv X au U H s):∀(n:Nat){hC iq:D}{v1 v2:V}{hx dW:av}{A:dU},dK hC<=n->dj H hC v1->dj H iq v2->RelV v1 hx->RelV v2 dW->A.units+n<cLine->EqAt A s hx dW (fv hC iq)/\RcAt A s hx dW (fv hC iq)/\RcNeAt A s hx dW (!fv hC iq):=by
 intro n
 induction n with
 |zero =>
  intro hC iq v1 v2 hx dW A aV;have:=B5 hC;lia
 | succ n bK =>
  intro hC iq v1 v2 hx dW A aV hd dH e1 e6 cz;have ai:A.units<cLine:=by lia
  have ar:A.in1.units+n<cLine:=by show A.units+1+n<cLine;lia
  cases hC with
  | bf =>
   obtain rfl:v1=.bf:=hd;obtain rfl:hx=.none:=e1;rw[fv];cases iq with
   |bf =>
    obtain rfl:v2=.bf:=dH;obtain rfl:dW=.none:=e6;exact⟨.same _,.none_none,.none_none⟩
   |aK eK =>
    obtain rfl:v2=.aK eK:=dH;obtain rfl:dW=.bool eK:=e6;exact⟨.none_bool _,.none_bool _,.none_bool _⟩
   |int cW =>
    obtain rfl:v2=.int cW:=dH;obtain⟨hb,rfl⟩:∃t,dW=.int cW t:=e6;exact⟨.none_int _ _,.none_int _ _,.none_int _ _⟩
   |str fj =>
    obtain⟨rfl,_⟩:v2=.str fj/\_:=dH;obtain⟨hb,rfl⟩:∃t,dW=.str fj t:=e6;exact⟨.none_str _ _,.none_str _ _,.none_str _ _⟩
   |tup gU =>
    obtain⟨a2,gX,rfl,h0,ff,_⟩:=dH;obtain rfl:dW=.ref a2:=e6;obtain⟨fm,b1,cn,_⟩:=aa.tuple (gf.of h0);exact⟨.none_tuple (fQ cn) ai,.none_tuple (fQ cn) ai,.none_tuple (fQ cn) ai⟩
   |lst gU =>
    obtain⟨a2,gX,rfl,h0,ff,_⟩:=dH;obtain rfl:dW=.ref a2:=e6;obtain⟨fm,b1,cn,_⟩:=aa.list (cZ.of h0);exact⟨.none_list cn.isList ai,.none_list cn.isList ai,.none_list cn.isList ai⟩
  | aK fE =>
   obtain rfl:v1=.aK fE:=hd;obtain rfl:hx=.bool fE:=e1;rw[fv];cases iq with
   |bf =>
    obtain rfl:v2=.bf:=dH;obtain rfl:dW=.none:=e6;exact⟨.bool_none _,.bool_none _,.bool_none _⟩
   |aK eK =>
    obtain rfl:v2=.aK eK:=dH;obtain rfl:dW=.bool eK:=e6;exact⟨.bool_bool _ _,.bool_bool _ _,.bool_bool _ _⟩
   |int cW =>
    obtain rfl:v2=.int cW:=dH;obtain⟨hb,rfl⟩:∃t,dW=.int cW t:=e6;exact⟨.bool_int _ _ _,.bool_int _ _ _,.bool_int _ _ _⟩
   |str fj =>
    obtain⟨rfl,_⟩:v2=.str fj/\_:=dH;obtain⟨hb,rfl⟩:∃t,dW=.str fj t:=e6;exact⟨.bool_str _ _ _,.bool_str _ _ _,.bool_str _ _ _⟩
   |tup gU =>
    obtain⟨a2,gX,rfl,h0,ff,_⟩:=dH;obtain rfl:dW=.ref a2:=e6;obtain⟨fm,b1,cn,_⟩:=aa.tuple (gf.of h0);exact⟨.bool_tuple _ (fQ cn) ai,.bool_tuple _ (fQ cn) ai,.bool_tuple _ (fQ cn) ai⟩
   |lst gU =>
    obtain⟨a2,gX,rfl,h0,ff,_⟩:=dH;obtain rfl:dW=.ref a2:=e6;obtain⟨fm,b1,cn,_⟩:=aa.list (cZ.of h0);exact⟨.bool_list _ cn.isList ai,.bool_list _ cn.isList ai,.bool_list _ cn.isList ai⟩
  | int dC =>
   obtain rfl:v1=.int dC:=hd;obtain⟨t1,rfl⟩:∃t,hx=.int dC t:=e1;rw[fv];cases iq with
   |bf =>
    obtain rfl:v2=.bf:=dH;obtain rfl:dW=.none:=e6;exact⟨.int_none _ _,.int_none _ _,.int_none _ _⟩
   |aK eK =>
    obtain rfl:v2=.aK eK:=dH;obtain rfl:dW=.bool eK:=e6;exact⟨.int_bool _ _ _,.int_bool _ _ _,.int_bool _ _ _⟩
   |int cW =>
    obtain rfl:v2=.int cW:=dH;obtain⟨hb,rfl⟩:∃t,dW=.int cW t:=e6;exact⟨.int_int _ _ _ _,.int_int _ _ _ _,.int_int _ _ _ _⟩
   |str fj =>
    obtain⟨rfl,_⟩:v2=.str fj/\_:=dH;obtain⟨hb,rfl⟩:∃t,dW=.str fj t:=e6;exact⟨.int_str _ _ _ _,.int_str _ _ _ _,.int_str _ _ _ _⟩
   |tup gU =>
    obtain⟨a2,gX,rfl,h0,ff,_⟩:=dH;obtain rfl:dW=.ref a2:=e6;obtain⟨fm,b1,cn,_⟩:=aa.tuple (gf.of h0);exact⟨.int_tuple _ _ (fQ cn) ai,.int_tuple _ _ (fQ cn) ai,.int_tuple _ _ (fQ cn) ai⟩
   |lst gU =>
    obtain⟨a2,gX,rfl,h0,ff,_⟩:=dH;obtain rfl:dW=.ref a2:=e6;obtain⟨fm,b1,cn,_⟩:=aa.list (cZ.of h0);exact⟨.int_list _ _ cn.isList ai,.int_list _ _ cn.isList ai,.int_list _ _ cn.isList ai⟩
  | str kE =>
   obtain⟨rfl,_⟩:v1=.str kE/\_:=hd;obtain⟨t1,rfl⟩:∃t,hx=.str kE t:=e1;rw[fv];cases iq with
   |bf =>
    obtain rfl:v2=.bf:=dH;obtain rfl:dW=.none:=e6;exact⟨.str_none _ _,.str_none _ _,.str_none _ _⟩
   |aK eK =>
    obtain rfl:v2=.aK eK:=dH;obtain rfl:dW=.bool eK:=e6;exact⟨.str_bool _ _ _,.str_bool _ _ _,.str_bool _ _ _⟩
   |int cW =>
    obtain rfl:v2=.int cW:=dH;obtain⟨hb,rfl⟩:∃t,dW=.int cW t:=e6;exact⟨.str_int _ _ _ _,.str_int _ _ _ _,.str_int _ _ _ _⟩
   |str fj =>
    obtain⟨rfl,_⟩:v2=.str fj/\_:=dH;obtain⟨hb,rfl⟩:∃t,dW=.str fj t:=e6;exact⟨.str_str _ _ _ _,.str_str _ _ _ _,.str_str _ _ _ _⟩
   |tup gU =>
    obtain⟨a2,gX,rfl,h0,ff,_⟩:=dH;obtain rfl:dW=.ref a2:=e6;obtain⟨fm,b1,cn,_⟩:=aa.tuple (gf.of h0);exact⟨.str_tuple _ _ (fQ cn) ai,.str_tuple _ _ (fQ cn) ai,.str_tuple _ _ (fQ cn) ai⟩
   |lst gU =>
    obtain⟨a2,gX,rfl,h0,ff,_⟩:=dH;obtain rfl:dW=.ref a2:=e6;obtain⟨fm,b1,cn,_⟩:=aa.list (cZ.of h0);exact⟨.str_list _ _ cn.isList ai,.str_list _ _ cn.isList ai,.str_list _ _ cn.isList ai⟩
  | tup hD =>
   obtain⟨a1,lu,rfl,tA,eo,_⟩:=hd;obtain rfl:hx=.ref a1:=e1;obtain⟨iS,ck,c4,_⟩:=aa.tuple (gf.of tA);rw[fv];cases iq with
   |bf =>
    obtain rfl:v2=.bf:=dH;obtain rfl:dW=.none:=e6;exact⟨.tuple_none (fQ c4) ai,.tuple_none (fQ c4) ai,.tuple_none (fQ c4) ai⟩
   |aK eK =>
    obtain rfl:v2=.aK eK:=dH;obtain rfl:dW=.bool eK:=e6;exact⟨.tuple_bool _ (fQ c4) ai,.tuple_bool _ (fQ c4) ai,.tuple_bool _ (fQ c4) ai⟩
   |int cW =>
    obtain rfl:v2=.int cW:=dH;obtain⟨hb,rfl⟩:∃t,dW=.int cW t:=e6;exact⟨.tuple_int _ _ (fQ c4) ai,.tuple_int _ _ (fQ c4) ai,.tuple_int _ _ (fQ c4) ai⟩
   |str fj =>
    obtain⟨rfl,_⟩:v2=.str fj/\_:=dH;obtain⟨hb,rfl⟩:∃t,dW=.str fj t:=e6;exact⟨.tuple_str _ _ (fQ c4) ai,.tuple_str _ _ (fQ c4) ai,.tuple_str _ _ (fQ c4) ai⟩
   | tup gU =>
    obtain⟨a2,gX,rfl,h0,ff,_⟩:=dH;obtain rfl:dW=.ref a2:=e6;obtain⟨fm,b1,cn,_⟩:=aa.tuple (gf.of h0);have R:=aiW aa ai tA h0 eo ff fun e aS w jY x fj hm g g2 r d8=>(bK (nA hm (by rw[dK]at aV;lia)) g g2 r d8 ar).1;refine⟨?_,R⟩;by_cases z:a1=a2
    ·subst z;obtain rfl:hD=gU:=by have gG:=dj.inj (.tup hD) (.tup gU) (v :=.ref a1) ⟨a1,lu,rfl,tA,eo,‹_›⟩ ⟨a1,gX,rfl,h0,ff,‹_›⟩;injection gG
     show EqAt A s _ _ (gN hD hD);rw[xX];exact .same _
    .exact .of_refs z R.1
   |lst gU =>
    obtain⟨a2,gX,rfl,h0,ff,_⟩:=dH;obtain rfl:dW=.ref a2:=e6;obtain⟨fm,b1,cn,_⟩:=aa.list (cZ.of h0);exact⟨.tuple_list (fQ c4) cn.isList ai,.tuple_list (fQ c4) cn.isList ai,.tuple_list (fQ c4) cn.isList ai⟩
  | lst hD =>
   obtain⟨a1,lu,rfl,tA,eo,_⟩:=hd;obtain rfl:hx=.ref a1:=e1;obtain⟨iS,ck,c4,_⟩:=aa.list (cZ.of tA);rw[fv];cases iq with
   |bf =>
    obtain rfl:v2=.bf:=dH;obtain rfl:dW=.none:=e6;exact⟨.list_none c4.isList ai,.list_none c4.isList ai,.list_none c4.isList ai⟩
   |aK eK =>
    obtain rfl:v2=.aK eK:=dH;obtain rfl:dW=.bool eK:=e6;exact⟨.list_bool _ c4.isList ai,.list_bool _ c4.isList ai,.list_bool _ c4.isList ai⟩
   |int cW =>
    obtain rfl:v2=.int cW:=dH;obtain⟨hb,rfl⟩:∃t,dW=.int cW t:=e6;exact⟨.list_int _ _ c4.isList ai,.list_int _ _ c4.isList ai,.list_int _ _ c4.isList ai⟩
   |str fj =>
    obtain⟨rfl,_⟩:v2=.str fj/\_:=dH;obtain⟨hb,rfl⟩:∃t,dW=.str fj t:=e6;exact⟨.list_str _ _ c4.isList ai,.list_str _ _ c4.isList ai,.list_str _ _ c4.isList ai⟩
   |tup gU =>
    obtain⟨a2,gX,rfl,h0,ff,_⟩:=dH;obtain rfl:dW=.ref a2:=e6;obtain⟨fm,b1,cn,_⟩:=aa.tuple (gf.of h0);exact⟨.list_tuple c4.isList (fQ cn) ai,.list_tuple c4.isList (fQ cn) ai,.list_tuple c4.isList (fQ cn) ai⟩
   | lst gU =>
    obtain⟨a2,gX,rfl,h0,ff,_⟩:=dH;obtain rfl:dW=.ref a2:=e6;obtain⟨fm,b1,cn,_⟩:=aa.list (cZ.of h0);have R:=aiV aa ai tA h0 eo ff fun e aS w jY x fj hm g g2 r d8=>(bK (nA hm (by rw[dK]at aV;lia)) g g2 r d8 ar).1;refine⟨?_,R⟩;by_cases z:a1=a2
    ·subst z;obtain rfl:hD=gU:=by have gG:=dj.inj (.lst hD) (.lst gU) (v :=.ref a1) ⟨a1,lu,rfl,tA,eo,‹_›⟩ ⟨a1,gX,rfl,h0,ff,‹_›⟩;injection gG
     show EqAt A s _ _ (gN hD hD);rw[xX];exact .same _
    .exact .of_refs z R.1
def Wz(cz:X.A.units+64<cLine):ea X (hg .NotEq) (fun x y H Q=>∃d d',dj H d x/\dj H d' y/\dK d<=60/\Q (.aK (!fv d d')) H):=by
 intro au s U H x y v u Q aa bu cR h;obtain⟨d,d',hd,oZ,aV,q⟩:=h;exact(V9 aa 60 aV hd oZ bu cR (by lia)).2.2 _ _ _ _ ⟨.aK _,H,aa,I,q⟩
end
section
variable {X:bQ}
def Ju{l:cU}{dT:TE}(aB:cH X l dT):iE X ep l (fun U H R=>(I7 X.K dT U H R\/I8 dT U H R)\/PL X.K dT U H R):=(h4 aB).or (Wu aB)
noncomputable def agq(cz:X.A.units+64<cLine):=ea.or (sx (X:=X)) (Wz cz)
end
end c7
end
variable {vs:List c7.V} {ds:List c7.D}
section
namespace c7
open PySem PySem.W PySem.Spec PyProof.Rows
structure cS where
 has:af->Prop
noncomputable instance:Membership af cS:=⟨fun X a=>X.has a⟩
noncomputable def cS.j4(l:af)(X:cS):cS:=⟨fun a=>a=l\/a∈X⟩
def cS.hd{l:af}{X:cS}:l∈cS.j4 l X :=.inl rfl
def cS.dT{a l:af}{X:cS}(h:a∈X):a∈cS.j4 l X :=.inr h
noncomputable def cS.of(H:al):cS:=⟨fun a=>∃o,H a=J o⟩
mutual
noncomputable def b5{α:Type}[Membership af α](X:α)(H:al):D->V->Prop
 |.bf,v=>v=.bf
 |.aK b,v=>v=.aK b
 |.int i,v=>v=.int i
 |.str s,v=>v=.str s/\s.length<=16000000
 |.tup ds,v=>∃a vs,v=.ref a/\a∉X/\H a=J (.tup vs)/\bx X H ds vs/\vs.length<=1000
 |.lst ds,v=>∃a vs,v=.ref a/\a∉X/\H a=J (.lst vs)/\bx X H ds vs/\vs.length<=1000
noncomputable def bx{α:Type}[Membership af α](X:α)(H:al):List D->List V->Prop
 |[],vs=>vs=[]
 |d::ds,vs=>∃v r,vs=v::r/\b5 X H d v/\bx X H ds r
end
mutual
theorem b5.at{α:Type}[Membership af α]{X:α}{H:al}:∀(d:D){v:V},b5 X H d v->dj H d v
 |.bf,v,h=>h
 |.aK b,v,h=>h
 |.int i,v,h=>h
 |.str t,v,h=>h
 |.tup ds,v,h=>by
  obtain⟨a,vs,e,n,e5,q,z⟩:=h;exact⟨a,vs,e,e5,bx.at ds q,z⟩
 |.lst ds,v,h=>by
  obtain⟨a,vs,e,n,e5,q,z⟩:=h;exact⟨a,vs,e,e5,bx.at ds q,z⟩
theorem bx.at{α:Type}[Membership af α]{X:α}{H:al}:∀(ds:List D){vs:List V},bx X H ds vs->cj H ds vs
 |[],vs,h=>h
 |d::ds,vs,h=>by
  obtain⟨v,r,e,q,b1⟩:=h;exact⟨v,r,e,b5.at d q,bx.at ds b1⟩
end
mutual
theorem b5.keep{α:Type}[Membership af α]{X:α}{H H':al}(s:∀b u,b∉X->H b=J u->H' b=J u):∀(d:D){v:V},b5 X H d v->b5 X H' d v
 |.bf,v,h=>h
 |.aK b,v,h=>h
 |.int i,v,h=>h
 |.str t,v,h=>h
 |.tup ds,v,h=>by
  obtain⟨a,vs,e,n,e5,q,z⟩:=h;exact⟨a,vs,e,n,s _ _ n e5,bx.keep s ds q,z⟩
 |.lst ds,v,h=>by
  obtain⟨a,vs,e,n,e5,q,z⟩:=h;exact⟨a,vs,e,n,s _ _ n e5,bx.keep s ds q,z⟩
theorem bx.keep{α:Type}[Membership af α]{X:α}{H H':al}(s:∀b u,b∉X->H b=J u->H' b=J u):∀(ds:List D){vs:List V},bx X H ds vs->bx X H' ds vs
 |[],vs,h=>h
 |d::ds,vs,h=>by
  obtain⟨v,r,e,q,b1⟩:=h;exact⟨v,r,e,b5.keep s d q,bx.keep s ds b1⟩
end
mutual
theorem dj.ak{H:al}:∀(d:D){v:V},dj H d v->b5 ([]:List af) H d v
 |.bf,v,h=>h
 |.aK b,v,h=>h
 |.int i,v,h=>h
 |.str t,v,h=>h
 |.tup ds,v,h=>by
  obtain⟨a,vs,e,e5,q,z⟩:=h;exact⟨a,vs,e,(fun z=>nomatch z),e5,cj.ak ds q,z⟩
 |.lst ds,v,h=>by
  obtain⟨a,vs,e,e5,q,z⟩:=h;exact⟨a,vs,e,(fun z=>nomatch z),e5,cj.ak ds q,z⟩
theorem cj.ak{H:al}:∀(ds:List D){vs:List V},cj H ds vs->bx ([]:List af) H ds vs
 |[],vs,h=>h
 |d::ds,vs,h=>by
  obtain⟨v,r,e,q,b1⟩:=h;exact⟨v,r,e,dj.ak d q,cj.ak ds b1⟩
end
mutual
theorem b5.add{X:List af}{H:al}{l:af}(aB:H l=ax):∀(d:D){v:V},b5 X H d v->b5 (l::X) H d v
 |.bf,v,h=>h
 |.aK b,v,h=>h
 |.int i,v,h=>h
 |.str t,v,h=>h
 |.tup ds,v,h=>by
  obtain⟨a,vs,e,n,e5,q,z⟩:=h;exact⟨a,vs,e,fun y=>(dd.mp y).elim (fun y=>by rw[y,aB]at e5;cases e5) n,e5,bx.add aB ds q,z⟩
 |.lst ds,v,h=>by
  obtain⟨a,vs,e,n,e5,q,z⟩:=h;exact⟨a,vs,e,fun y=>(dd.mp y).elim (fun y=>by rw[y,aB]at e5;cases e5) n,e5,bx.add aB ds q,z⟩
theorem bx.add{X:List af}{H:al}{l:af}(aB:H l=ax):∀(ds:List D){vs:List V},bx X H ds vs->bx (l::X) H ds vs
 |[],vs,h=>h
 |d::ds,vs,h=>by
  obtain⟨v,r,e,q,b1⟩:=h;exact⟨v,r,e,b5.add aB d q,bx.add aB ds b1⟩
end
mutual
theorem b5.weak{α:Type}[Membership af α]{X Y:α}{H:al}(hs:∀x,x∈X->x∈Y):∀(d:D){v:V},b5 Y H d v->b5 X H d v
 |.bf,v,h=>h
 |.aK b,v,h=>h
 |.int i,v,h=>h
 |.str t,v,h=>h
 |.tup ds,v,h=>by
  obtain⟨a,vs,e,n,e5,q,z⟩:=h;exact⟨a,vs,e,fun y=>n (hs _ y),e5,bx.weak hs ds q,z⟩
 |.lst ds,v,h=>by
  obtain⟨a,vs,e,n,e5,q,z⟩:=h;exact⟨a,vs,e,fun y=>n (hs _ y),e5,bx.weak hs ds q,z⟩
theorem bx.weak{α:Type}[Membership af α]{X Y:α}{H:al}(hs:∀x,x∈X->x∈Y):∀(ds:List D){vs:List V},bx Y H ds vs->bx X H ds vs
 |[],vs,h=>h
 |d::ds,vs,h=>by
  obtain⟨v,r,e,q,b1⟩:=h;exact⟨v,r,e,b5.weak hs d q,bx.weak hs ds b1⟩
end
def b5.same[Membership af α]{X:α}(s:dY H H'){d:D}(h:b5 X H d v):b5 X H' d v:=b5.keep (fun b u _ e=>s b u e) d h
def bx.same[Membership af α]{X:α}(s:dY H H')(h:bx X H ds vs):bx X H' ds vs:=bx.keep (fun b u _ e=>s b u e) ds h
theorem bx.snoc{α:Type}[Membership af α]{X:α}{H:al}{d:D}{v:V}(hd:b5 X H d v):∀(ds:List D){vs:List V},bx X H ds vs->bx X H (ds++[d]) (vs++[v])
 |[],vs,h=>by
  obtain rfl:vs=[]:=h;exact⟨v,[],I,hd,I⟩
 |e::ds,vs,h=>by
  obtain⟨w,r,rfl,q,b1⟩:=h;exact⟨w,r++[v],I,q,bx.snoc hd ds b1⟩
end c7
end
section
namespace du
open PySem PyProof.Rows
section
open PySem.SeqAt
open PySem.AutoSeq1 (wpAny_loadPart')
open PySem.MeetsSeq PySem.MeetsSeq2 PySem.MeetsSeq3 PySem.SeqRoads2
theorem yb:∀{vs:List av}{ns:List Int},IntsAre vs ns->∀i(h:i<vs.length),∃x t,vs[i]?=J (.int x t)/\ns.drop i=x::ns.drop (i+1)
 |_,_,.nil,i,h=>absurd h (Nat.not_lt_zero _)
 |_,_,.cons x t r,0,h=>⟨x,t,rfl,rfl⟩
 |_,_,.cons x t r,i+1,h=>yb r i (Nat.lt_of_succ_lt_succ h)
def VU(l b:af)(items hI:Array av)(n dS:Nat)(iL mM:Option af)(eC m7:Array (Option av))(ns ms:List Int)(aF:IntsAre items.toList ns)(b0:IntsAre hI.toList ms)(k:Nat):
  ∀i:Nat,items.size-i=k->i<=items.size->i<=hI.size->Meets (de.«list.__eq__.loop» ⟨[.ref l,.ref b,rawInt i,rawInt 0],[]⟩)
   (fun A R s=>s.heap.get? l=J {cls :=.type "list",dict:=iL,data :=.seq items n,slots:=eC}/\s.heap.get? b=J {cls :=.type "list",dict:=mM,data :=.seq hI dS,slots:=m7}/\R (.ok (.ret (.bool (lexLt (ns.drop i) (ms.drop i))))) s):=by
 have di:items.size=ns.length:=by rw[<-aF.length];simp
 have dg:hI.size=ms.length:=by rw[<-b0.length];simp
 induction k with
 | zero =>
  intro i hk ai ar prog w A R s h;obtain⟨aU,g,d,dQ,os⟩:=s;obtain⟨aB,ag,h⟩:=h
  wp_walk using wpAny_loadPart' aB,wpAny_loadPart' ag
  have nN:items[((i:Nat):Int).toNat]?=ax:=by simp;lia
  rw[nN]
  wp_walk using wpAny_loadPart' aB,wpAny_loadPart' ag
  have aL:ns.drop i=[]:=List.drop_eq_nil_of_le (by lia)
  have e:lexLt (ns.drop i) (ms.drop i)=decide (items.size<hI.size):=by
   rw[aL];cases hd:ms.drop i with
   |nil =>
    have:=congrArg List.length hd;rw[ie,List.length_nil]at this;exact(fL (by lia)).symm
   |cons y r =>
    have:=congrArg List.length hd;rw[ie,eb]at this;exact(eT (by lia)).symm
  rw[e]at h;exact h
 | succ k bK =>
  intro i hk ai ar prog w A R s h;obtain⟨aU,g,d,dQ,os⟩:=s;obtain⟨aB,ag,h⟩:=h;have hH:i<items.size:=by lia
  obtain⟨x,t,aq,ex⟩:=yb aF i (by simpa using hH);have aq:items[i]?=J (.int x t):=by simpa using aq
  wp_walk using wpAny_loadPart' aB,wpAny_loadPart' ag
  have nN:items[((i:Nat):Int).toNat]?=J (.int x t):=by simpa using aq
  rw[nN];by_cases bz:i<hI.size
  ·obtain⟨y,u,aW,nC⟩:=yb b0 i (by simpa using bz);have aW:hI[i]?=J (.int y u):=by simpa using aW
   have mn:hI[((i:Nat):Int).toNat]?=J (.int y u):=by simpa using aW
   have hc:((i:Int)+1)=((i+1:Nat):Int):=by lia
   rw[mn];rw[ex,nC,wM]at h;refine cq (EqAt.int_int x t y u prog w _ _ ?_);cases lQ:(x == y)with
   | true =>
    have sg:x=y:=by simpa using lQ
    rw[if_pos sg]at h
    wp_walk
    rw[hc]
    exact⟨plainId_quiet plain_eq_loop _,codeAny_builtin entry_eq_loop (by
     rw[dU.under_plainId plain_eq_loop _]
     exact bK (i+1) (by lia) (by lia) (by lia) prog w A R _ ⟨aB,ag,h⟩)⟩
   |false =>
    have sg:¬x=y:=by simpa using lQ
    rw[if_neg sg]at h
    wp_walk using wpAny_loadPart' aB,wpAny_loadPart' ag
    rw[nN,mn];refine cq (UA _ _ x t y u prog w _ _ ?_)
    wp_walk
    exact h
  ·have mn:hI[((i:Nat):Int).toNat]?=ax:=by simp;lia
   rw[mn]
   wp_walk using wpAny_loadPart' aB,wpAny_loadPart' ag
   have aS:ms.drop i=[]:=List.drop_eq_nil_of_le (by lia)
   have e:lexLt (ns.drop i) (ms.drop i)=decide (items.size<hI.size):=by
    rw[aS,ex,Yj];exact(fL (by lia)).symm
   rw[e]at h;exact h
def afl(l b:af)(items hI:Array av)(n dS:Nat)(iL mM:Option af)(eC m7:Array (Option av))(ns ms:List Int)(aF:IntsAre items.toList ns)(b0:IntsAre hI.toList ms):
  Meets (de.«list.__lt__» ⟨[.ref l,.ref b],[]⟩)
   (fun A R s=>s.heap.get? l=J {cls :=.type "list",dict:=iL,data :=.seq items n,slots:=eC}/\s.heap.get? b=J {cls :=.type "list",dict:=mM,data :=.seq hI dS,slots:=m7}/\R (.ok (.ret (.bool (lexLt ns ms)))) s):=by
 intro prog w A R s h;obtain⟨aU,g,d,dQ,os⟩:=s;obtain⟨aB,ag,h⟩:=h;have gi:=AutoSeq1.sub_list_list
 wp_walk using wpAny_loadPart' aB,wpAny_loadPart' ag
 exact⟨plainId_quiet plain_eq_loop _,codeAny_builtin entry_eq_loop (by
  rw[dU.under_plainId plain_eq_loop _]
  exact VU l b items hI n dS iL mM eC m7 ns ms aF b0 _ 0 I (UF _) (UF _) prog w A R _ ⟨aB,ag,h⟩)⟩
end
end du
namespace c7
open PySem PySem.W PySem.Spec PyProof.Rows
section
variable {X:bQ}
def aiR(K:bS):iF:=fun x y H Q=>∃a b ns ms,x=.ref a/\y=.ref b/\cZ K H a (ns.map V.int)/\cZ K H b (ms.map V.int)/\Q (.aK (du.lexLt ns ms)) H
def VI(cz:X.A.units+64<cLine):ea X (hg .Lt) (aiR X.K):=by
 intro au s U H x y v u Q aa bu cR h;obtain⟨a,b,ns,ms,rfl,rfl,aM,ag,q⟩:=h;cases bu;cases cR;obtain⟨bq,cf,c4,_⟩:=aa.list aM;obtain⟨fm,d8,cn,_⟩:=aa.list ag;have dC:IntsAre bq.toArray.toList ns:=BD cf;have cW:IntsAre fm.toArray.toList ms:=BD d8;obtain⟨⟨cls,iL,data,eC⟩,aN,hc,n,hd⟩:=id c4.isList;obtain⟨⟨abH,mM,data2,m7⟩,y2,p6,dS,dH⟩:=id cn.isList;simp only at hc hd p6 dH;subst hc hd p6 dH
 exact richCompare_meets_room (op := .Lt) ⟨_,aN,I⟩ ⟨_,y2,I⟩ PySem.F.slot_list_lt PySem.F.entry_list_lt (PySem.F.args_list_lt_2 _ _) (du.afl a b bq.toArray fm.toArray n dS iL mM eC m7 ns ms dC cW)
  ⟨aN,y2,show av.bool (du.lexLt ns ms)≠av.notImplemented/\_ from⟨(fun x=>nomatch x),⟨.aK (du.lexLt ns ms),H,aa,rfl,q⟩⟩⟩ (by lia)
noncomputable def agp(cz:X.A.units+64<cLine):=ea.or (iV (X:=X)) (VI cz)
end
end c7
end
section
namespace dE
open PySem c7
noncomputable def tY(e:Int->List Bool)(wJ:List Int):List Bool:=(wJ.map fun x=>ah::e x).flatten++[aE]
theorem MJ{e:Int->List Bool}{P:Int->Prop}(he:∀x y,P x->P y->x<y->Sep (e x) (e y)):∀{a b:List Int},(∀x,x∈a->P x)->(∀x,x∈b->P x)->du.lexLt a b=ah->Sep (tY e a) (tY e b)
 |[],[],_,_,h=>by cases h
 |[],y::b,_,_,_=>⟨[],[],e y++((b.map fun x=>ah::e x).flatten++[aE]),rfl,by unfold tY;simp⟩
 |x::a,[],_,_,h=>by cases h
 | x::a,y::b,aM,ag,h=>by
  have cL:∀z l,tY e (z::l)=(ah::e z)++tY e l:=fun z l=>by unfold tY;rw[fB,lH,gL]
  rw[cL,cL];rw[du.wM]at h;by_cases aq:x=y
  ·subst aq;rw[if_pos rfl]at h;exact(MJ he (fun z bV=>aM z (dw _ bV)) (fun z bV=>ag z (dw _ bV)) h).pre _
  ·rw[if_neg aq]at h;exact(((he x y (aM x (eA ..)) (ag y (eA ..)) (hX h)).pre [ah]).post _ _)
end dE
end
section
namespace du
open PySem PyProof.Rows
section
open PySem.SeqAt
open PySem.AutoSeq1 (wpAny_loadPart')
open PySem.MeetsSeq PySem.MeetsSeq2 PySem.MeetsSeq3 PySem.SeqRoads2
def aah[DecidableEq α]{β:Type}(x y:α){a b:β}:(if y=x then a else b)=if x=y then a else b:=by
 by_cases h:x=y
 .rw[if_pos h,if_pos h.symm]
 .rw[if_neg h,if_neg (ei h)]
def UB(A:dU)(s:aR)(a:Int)(t:Tok)(c:Int)(u:Tok)(prog:dI)(w:dc)(E:av->aR->Prop)(Q:av->aR->Prop)(h:Q (.bool (decide (c<a))) s):
  b4 (model prog w) A (richCompare .Gt (.int a t) (.int c u)) Q E s :=
 (PyProof.Rows.gt_int h:b4 (model prog w) A (hg .Gt (.int a t) (.int c u)) Q E s)
def V3(l b:af)(items hI:Array av)(n dS:Nat)(iL mM:Option af)(eC m7:Array (Option av))(ns ms:List Int)(aF:IntsAre items.toList ns)(b0:IntsAre hI.toList ms)(k:Nat):
  ∀i:Nat,items.size-i=k->i<=items.size->i<=hI.size->Meets (de.«list.__eq__.loop» ⟨[.ref l,.ref b,rawInt i,rawInt 4],[]⟩)
   (fun A R s=>s.heap.get? l=J {cls :=.type "list",dict:=iL,data :=.seq items n,slots:=eC}/\s.heap.get? b=J {cls :=.type "list",dict:=mM,data :=.seq hI dS,slots:=m7}/\R (.ok (.ret (.bool (lexLt (ms.drop i) (ns.drop i))))) s):=by
 have di:items.size=ns.length:=by rw[<-aF.length];simp
 have dg:hI.size=ms.length:=by rw[<-b0.length];simp
 induction k with
 | zero =>
  intro i hk ai ar prog w A R s h;obtain⟨aU,g,d,dQ,os⟩:=s;obtain⟨aB,ag,h⟩:=h
  wp_walk using wpAny_loadPart' aB,wpAny_loadPart' ag
  have nN:items[((i:Nat):Int).toNat]?=ax:=by simp;lia
  rw[nN]
  wp_walk using wpAny_loadPart' aB,wpAny_loadPart' ag
  have aL:ns.drop i=[]:=List.drop_eq_nil_of_le (by lia)
  have e:lexLt (ms.drop i) (ns.drop i)=decide (hI.size<items.size):=by
   rw[aL];cases hd:ms.drop i with
   |nil=>exact(fL (by lia)).symm
   |cons y r=>exact(fL (by lia)).symm
  rw[e]at h;exact h
 | succ k bK =>
  intro i hk ai ar prog w A R s h;obtain⟨aU,g,d,dQ,os⟩:=s;obtain⟨aB,ag,h⟩:=h;have hH:i<items.size:=by lia
  obtain⟨x,t,aq,ex⟩:=yb aF i (by simpa using hH);have aq:items[i]?=J (.int x t):=by simpa using aq
  wp_walk using wpAny_loadPart' aB,wpAny_loadPart' ag
  have nN:items[((i:Nat):Int).toNat]?=J (.int x t):=by simpa using aq
  rw[nN];by_cases bz:i<hI.size
  ·obtain⟨y,u,aW,nC⟩:=yb b0 i (by simpa using bz);have aW:hI[i]?=J (.int y u):=by simpa using aW
   have mn:hI[((i:Nat):Int).toNat]?=J (.int y u):=by simpa using aW
   have hc:((i:Int)+1)=((i+1:Nat):Int):=by lia
   rw[mn];rw[ex,nC,wM,aah x y]at h;refine cq (EqAt.int_int x t y u prog w _ _ ?_);cases lQ:(x == y)with
   | true =>
    have sg:x=y:=by simpa using lQ
    rw[if_pos sg]at h
    wp_walk
    rw[hc]
    exact⟨plainId_quiet plain_eq_loop _,codeAny_builtin entry_eq_loop (by
     rw[dU.under_plainId plain_eq_loop _]
     exact bK (i+1) (by lia) (by lia) (by lia) prog w A R _ ⟨aB,ag,h⟩)⟩
   |false =>
    have sg:¬x=y:=by simpa using lQ
    rw[if_neg sg]at h
    wp_walk using wpAny_loadPart' aB,wpAny_loadPart' ag
    rw[nN,mn];refine cq (UB _ _ x t y u prog w _ _ ?_)
    wp_walk
    exact h
  ·have mn:hI[((i:Nat):Int).toNat]?=ax:=by simp;lia
   rw[mn]
   wp_walk using wpAny_loadPart' aB,wpAny_loadPart' ag
   have aS:ms.drop i=[]:=List.drop_eq_nil_of_le (by lia)
   have e:lexLt (ms.drop i) (ns.drop i)=decide (hI.size<items.size):=by
    rw[aS,ex,Yi];exact(eT (by lia)).symm
   rw[e]at h;exact h
def afj(l b:af)(items hI:Array av)(n dS:Nat)(iL mM:Option af)(eC m7:Array (Option av))(ns ms:List Int)(aF:IntsAre items.toList ns)(b0:IntsAre hI.toList ms):
  Meets (de.«list.__gt__» ⟨[.ref l,.ref b],[]⟩)
   (fun A R s=>s.heap.get? l=J {cls :=.type "list",dict:=iL,data :=.seq items n,slots:=eC}/\s.heap.get? b=J {cls :=.type "list",dict:=mM,data :=.seq hI dS,slots:=m7}/\R (.ok (.ret (.bool (lexLt ms ns)))) s):=by
 intro prog w A R s h;obtain⟨aU,g,d,dQ,os⟩:=s;obtain⟨aB,ag,h⟩:=h;have gi:=AutoSeq1.sub_list_list
 wp_walk using wpAny_loadPart' aB,wpAny_loadPart' ag
 exact⟨plainId_quiet plain_eq_loop _,codeAny_builtin entry_eq_loop (by
  rw[dU.under_plainId plain_eq_loop _]
  exact V3 l b items hI n dS iL mM eC m7 ns ms aF b0 _ 0 I (UF _) (UF _) prog w A R _ ⟨aB,ag,h⟩)⟩
end
end du
namespace c7
open PySem PySem.W PySem.Spec PyProof.Rows
section
variable {X:bQ}
def aiO(K:bS):iF:=fun x y H Q=>∃a b ns ms,x=.ref a/\y=.ref b/\cZ K H a (ns.map V.int)/\cZ K H b (ms.map V.int)/\Q (.aK (du.lexLt ms ns)) H
def VK(cz:X.A.units+64<cLine):ea X (hg .Gt) (aiO X.K):=by
 intro au s U H x y v u Q aa bu cR h;obtain⟨a,b,ns,ms,rfl,rfl,aM,ag,q⟩:=h;cases bu;cases cR;obtain⟨bq,cf,c4,_⟩:=aa.list aM;obtain⟨fm,d8,cn,_⟩:=aa.list ag;have dC:IntsAre bq.toArray.toList ns:=BD cf;have cW:IntsAre fm.toArray.toList ms:=BD d8;obtain⟨⟨cls,iL,data,eC⟩,aN,hc,n,hd⟩:=id c4.isList;obtain⟨⟨abH,mM,data2,m7⟩,y2,p6,dS,dH⟩:=id cn.isList;simp only at hc hd p6 dH;subst hc hd p6 dH
 exact richCompare_meets_room (op := .Gt) ⟨_,aN,I⟩ ⟨_,y2,I⟩ PySem.F.slot_list_gt PySem.F.entry_list_gt (PySem.F.args_list_gt_2 _ _) (du.afj a b bq.toArray fm.toArray n dS iL mM eC m7 ns ms dC cW)
  ⟨aN,y2,show av.bool (du.lexLt ms ns)≠av.notImplemented/\_ from⟨(fun x=>nomatch x),⟨.aK (du.lexLt ms ns),H,aa,rfl,q⟩⟩⟩ (by lia)
noncomputable def agm(cz:X.A.units+64<cLine):=ea.or (kz (X:=X)) (VK cz)
def Qm(f:Int->Int->Bool):iF:=fun x y H Q=>∃a b,x=.aK a/\y=.aK b/\Q (.aK (f (b2i a) (b2i b))) H
def VJ:ea X (hg .Lt) (Qm fun i j=>decide (i<j)):=by
 intro au s U H x y v u Q aa bu cR h;obtain⟨a,b,rfl,rfl,q⟩:=h;cases bu;cases cR;exact lt_bool (fD aa q I)
def VL:ea X (hg .Gt) (Qm fun i j=>decide (j<i)):=by
 intro au s U H x y v u Q aa bu cR h;obtain⟨a,b,rfl,rfl,q⟩:=h;cases bu;cases cR;exact gt_bool (fD aa q I)
noncomputable def ago(cz:X.A.units+64<cLine):=ea.or (agp (X:=X) cz) VJ
noncomputable def agl(cz:X.A.units+64<cLine):=ea.or (agm (X:=X) cz) VL
end
end c7
end
section
namespace c7
open PySem PySem.W PySem.Spec PyProof.Rows
section
variable {X:bQ} {au:List (af×bZ)} {U:St} {H:al} {s:aR} {A:dU} {E:av->aR->Prop} {Q:av->aR->Prop}
def aai{x:V}{t:av}{jF:af}{jM km:String}{fE eK:Bool}(aa:Inv X au U H s)(bu:RelV x u)(ty:kI X.K H x t)(cc:H jF=J (.tup [.ty jM,.ty km]))(aL:pF X.K t (.type jM)=J fE)(aS:pF X.K t (.type km)=J eK)(h:∀dQ,Q (.bool (fE||eK)) {s with toks:=dQ}):
  b4 (model X.prog X.w) A (call (.builtin "isinstance") [u,.ref jF]) Q E s:=by
 obtain⟨_,bq,bR,p⟩:=(show hM X.prog X.w H s.heap jF (.tup [.ty jM,.ty km])from aa.aP jF _ cc);obtain⟨rk,jY,rfl,cf,d8⟩:=vals2 bR;cases(show rk=av.type jM from cf);cases(show jY=av.type km from d8)
 have e:Kt X.K t [.type jM,.type km]=J (fE||eK):=by
  unfold Kt Kt Kt;rw[aL,aS];cases fE<;>cases eK<;>rfl
 obtain⟨⟨iW,iL,gA,eC⟩,g1,g2,n,g3⟩:=p;have g2:iW=.type "tuple":=g2;have g3:gA=.seq [av.type jM,av.type km].toArray n:=g3;subst g2 g3;cases ty with
 |bf=>cases(show u=av.none from bu);exact rr PySem.W.kitx_none aa.f3 True.intro g1 e (fun z=>nomatch z) h
 |aK y=>cases(show u=av.bool y from bu);exact rr PySem.W.kitx_bool aa.f3 True.intro g1 e (fun z=>nomatch z) h
 |int i=>obtain⟨t,q⟩:=(show ∃t,u=av.int i t from bu);cases q;exact rr PySem.W.kitx_int aa.f3 True.intro g1 e (fun z=>nomatch z) h
 |str y=>obtain⟨t,q⟩:=(show ∃t,u=av.str y t from bu);cases q;exact rr PySem.W.kitx_str aa.f3 True.intro g1 e (fun z=>nomatch z) h
 |rT y=>obtain⟨t,q⟩:=(show ∃t,u=av.float y t from bu);cases q;exact rr PySem.W.kitx_float aa.f3 True.intro g1 e (fun z=>nomatch z) h
 | @lst a xs cL =>
  cases(show u=av.ref a from bu);obtain⟨_,_,n,_,ai⟩:=(show hM X.prog X.w H s.heap a (.lst xs)from aa.aP a _ cL);exact rr Ku aa.f3 ⟨_,ai,I⟩ g1 e (fun z=>nomatch z) h
 | @iM a eh xs cL =>
  cases(show u=av.ref a from bu);obtain⟨_,_,_,n,_,ai⟩:=(show hM X.prog X.w H s.heap a (.iM eh (.lst xs))from aa.aP a _ cL);exact rr Ku aa.f3 ⟨_,ai,I⟩ g1 e (fun z=>nomatch z) h
 | @tup a xs cL =>
  cases(show u=av.ref a from bu);obtain⟨_,_,_,p⟩:=(show hM X.prog X.w H s.heap a (.tup xs)from aa.aP a _ cL);obtain⟨o,ai,ar,_⟩:=p;exact rr PySem.W.kitx_tuple aa.f3 ⟨o,ai,ar⟩ g1 e (fun z=>nomatch z) h
 | @lM a fR cL =>
  cases(show u=av.ref a from bu);obtain⟨_,_,vs,_,p⟩:=(show hM X.prog X.w H s.heap a (.lM fR)from aa.aP a _ cL);obtain⟨o,aZ,gh,ai,ar,_⟩:=p;exact rr PySem.W.kitx_dict aa.f3 ⟨o,ai,ar.1⟩ g1 e (fun z=>nomatch z) h
 | @oP a fR cL=>exact(show False from aa.aP a _ cL).elim
 | @ins a C ak fs cL cl aM aV m3 hm =>
  cases(show u=av.ref a from bu);obtain⟨fI,O,_⟩:=yc aa.aP cL;obtain⟨gA,bF,_⟩:=O.look;exact rr (PySem.W.kitx_own (cl.get _) cl.hd aM aV m3 hm) aa.f3 bF g1 e (fun z=>nomatch z) h
def Zl:jG X (.builtin "isinstance") (fun xs H Q=>∃x jF jM km t fE eK,xs=[x,.ref jF]/\H jF=J (.tup [.ty jM,.ty km])/\kI X.K H x t/\pF X.K t (.type jM)=J fE/\pF X.K t (.type km)=J eK/\Q (.aK (fE||eK)) H):=by
 intro au s U H xs us Q aa r h;obtain⟨x,jF,jM,km,t,fE,eK,rfl,cc,ty,aL,aS,q⟩:=h;obtain⟨u,hW,rfl,cf,d8⟩:=vals2 r;cases(show hW=av.ref jF from d8);exact aai aa cf ty cc aL aS fun dQ=>⟨.aK (fE||eK),H,aa.tok _,I,q⟩
end
end c7
end
section
namespace dE
open PySem c7
inductive R (α:Type) where
 |ok (a:α) (s:List Bool)
 |no (w:Bool) (k:Nat)
 |st
noncomputable def R.bd{α β:Type}:R α->(α->List Bool->R β)->R β
 |.ok a s,f=>f a s
 |.no w k,_ =>.no w k
 |.st,_ =>.st
noncomputable def R.i9{α:Type}:R α->R α
 |.ok a s =>.ok a (s.map (!·))
 |.no w k =>.no w k
 |.st =>.st
noncomputable def hC(e u:Bool):List Bool->R Bool
 |b::s =>.ok b s
 |[]=>if e=ah then .ok u []else .no aE 0
end dE
end
section
namespace c7
open PySem PySem.W PySem.Spec PyProof.Rows
variable {r:iF}
section
variable {X:bQ} {a b:cU} {cD dM:TE} {bh:Pos}
def bM(i:Nat)(bP:X.N.Nodup)(he:cH X e cJ)(aF:rg (X.N[i]?=J x) w8)(aq:rg (Loc X.env.scope x) rrr)(hs:rg (swapsWith e (J (.Name x pos')) bh.line X.env=pure aE) w8)(aA:rg (X.fn x=ah\/X.env.scope.names.lookup x=J .local) w5):
  k3 X (.Assign [.Name x pos'] e bh) (w9 cJ (wa i)):=Wr bP aF aq he hs aA
def fM(aN:ea X (hg op) r)(aM:cH X a cD)(ag:cH X b dM)(h:rg (op≠.In) w7)(ar:rg (op≠.NotIn) w7):cH X (.Compare a [op] [b] bh) (lZ r cD dM):=G9 aN aM ag (Lq _ h ar)
def b9(aN:ea X (hg op) r)(aM:cH X a cD)(ag:cH X b dM)(h:rg (op≠.In) w7)(ar:rg (op≠.NotIn) w7):k4 X (.Compare a [op] [b] bh) (ri (lZ r cD dM)):=x8 aN aM ag (Lq _ h ar)
def bW(aw:ov X r)(aM:cH X a cD)(ag:cH X b dM)(hs:rg (KW b) rss):cH X (.Subscript a b bh) (lZ r cD dM):=W2 aw aM ag hs
def f6(aM:cH X a cD)(he:rg (∀whole,isTrue a X.env whole=(do let v <-whole;standAt a.pos;holding [v] (truthy v))) rrs):
  k4 X a (fun U H Q=>cD U H fun x H'=>∃k,A2 X.K x H' k/\Q k H'):=UD aM he
end
section
variable {X:bQ} {elt jv iter:cU} {ifs:List cU} {dR:Scope} {bh p:Pos} {ja:dZ} {g:Ea gp} {gm:Ea g0} {cJ:Ea TE}
def hO(hv:List ae)(gv:List (Nat×ae))(hc:X.calm=ah)(wC:Cg dR (gv.map (·.2))=ah)(yO:sQ X gv)(aF:iE X jv iter ja)
  (bb:∀{cl C s2 ao cm},qA (p1 X jx dR cl C (hv++gv.map (·.2)) s2 ao cm) jv (g cl C s2 ao cm))
  (bc:∀{cl C s2 ao cm},vt (p1 X jx dR cl C (hv++gv.map (·.2)) s2 ao cm) ifs (gm cl C s2 ao cm))
  (he:∀{cl C s2 ao cm},cH (p1 X jx dR cl C (hv++gv.map (·.2)) s2 ao cm) elt (cJ cl C s2 ao cm))
  (oS:rg (∀cl C s2 ao cm,g cl C s2 ao cm=g [] 0 X.eQ X.jI []) rsu) (jo:rg (∀cl C s2 ao cm,gm cl C s2 ao cm=gm [] 0 X.eQ X.jI []) rsu) (mN:rg (∀cl C s2 ao cm,cJ cl C s2 ao cm=cJ [] 0 X.eQ X.jI []) rsu)
  (hs:rg (∀x,foldedSetIterable iter X.env x=pure x) rrs) :
  cH X (.ListComp elt [⟨jv,iter,ifs,0⟩] dR bh) (J4 ja (g [] 0 X.eQ X.jI []) (gm [] 0 X.eQ X.jI []) (cJ [] 0 X.eQ X.jI []) (pZ hv gv)):=by
 intro au s U H Q aa h;rw[eval_ListComp];refine Mr (use:=ax) (.inr fun _ _ _ z=>z) hc wC yO aF (fun cl C s2 ao cm=>oS cl C s2 ao cm ▸ @bb cl C s2 ao cm) (fun cl C s2 ao cm=>jo cl C s2 ao cm ▸ @bc cl C s2 ao cm) (fun cl C s2 ao cm=>mN cl C s2 ao cm ▸ @he cl C s2 ao cm) aa h (fun D C H' br h8 q qQ ai ar bz c0 cb=>?_) hs;obtain⟨m,hm⟩:=cb;refine⟨m,hm,fun h' IV=>?_⟩;exact⟨.ref D,H',h8.turned (t':=br.toks) (fun b o ag e=>IV.extBut b o ag e) qQ ai (.inr ar) bz c0,I,q⟩
def pR{py Sg:Pos}(hv:List ae)(gv:List (Nat×ae))(bP:X.N.Nodup)(adX:X.N[i]?=J y)(aW:X.env.scope.names.lookup y=J .local)(hc:X.calm=ah)(wC:Cg dR (gv.map (·.2))=ah)(yO:sQ X gv)(aF:iE X jv iter ja)
  (bb:∀{cl C s2 ao cm},qA (p1 X jx dR cl C (hv++gv.map (·.2)) s2 ao cm) jv (g cl C s2 ao cm))
  (bc:∀{cl C s2 ao cm},vt (p1 X jx dR cl C (hv++gv.map (·.2)) s2 ao cm) ifs (gm cl C s2 ao cm))
  (he:∀{cl C s2 ao cm},cH (p1 X jx dR cl C (hv++gv.map (·.2)) s2 ao cm) elt (cJ cl C s2 ao cm))
  (oS:rg (∀cl C s2 ao cm,g cl C s2 ao cm=g [] 0 X.eQ X.jI []) rsu) (jo:rg (∀cl C s2 ao cm,gm cl C s2 ao cm=gm [] 0 X.eQ X.jI []) rsu) (mN:rg (∀cl C s2 ao cm,cJ cl C s2 ao cm=cJ [] 0 X.eQ X.jI []) rsu)
  (aez:rg (swapsWith (.ListComp elt [⟨jv,iter,ifs,0⟩] dR bh) (J (.Name y py)) Sg.line X.env=pure ah) w8)
  (hs:rg (∀x,foldedSetIterable iter X.env x=pure x) rrs) :
  k3 X (.Assign [.Name y py] (.ListComp elt [⟨jv,iter,ifs,0⟩] dR bh) Sg) (w9 (J4 ja (g [] 0 X.eQ X.jI []) (gm [] 0 X.eQ X.jI []) (cJ [] 0 X.eQ X.jI []) (pZ hv gv)) (wa i)):=by
 intro au s U H D aa h;rw[exec_Assign_Name_used _ _ _ _ aez];refine cq (wpAny_standAt (cq ?_));show b4 _ X.A (do let _ <-comprehension (.ListComp elt [⟨jv,iter,ifs,0⟩] dR bh) dR X.env _ (newList []) aE (eval iter X.env) (J (assign (.Name y py) X.env))) _ _ s;refine cq (dt (Mr (use:=J (assign (.Name y py) X.env)) (Qf:=fun _ br=>vx X au D .next br) (.inr fun _ _ _ z=>z) hc wC yO aF (fun cl C s2 ao cm=>oS cl C s2 ao cm ▸ @bb cl C s2 ao cm) (fun cl C s2 ao cm=>jo cl C s2 ao cm ▸ @bc cl C s2 ao cm) (fun cl C s2 ao cm=>mN cl C s2 ao cm ▸ @he cl C s2 ao cm) aa h (fun iY C H' br h8 q qQ ai ar bz c0 cb=>?_) hs) fun _ br bo=>fq (fq bo));obtain⟨m,hm⟩:=cb;show b4 _ X.A (assign (.Name y py) X.env (.ref iY)) _ _ _;refine wpAny_assign_Name (Mw h8 bP adX (.inl aW) (v :=.ref iY) I (fun pk TT cb=>?_) (.inr aW));obtain⟨a,IV,aM⟩:=cb
 have CF:C≠a:=by
  rcases aM with z|z
  .rw[z];exact ai
  .exact ei (bz _ _ z)
 refine⟨m,hm.sameBut IV CF,fun h' aet=>?_⟩;exact⟨_,H',TT.turned (t':=pk.toks) (fun b o ag e=>aet.extBut b o ag e) qQ ai (.inr ar) bz c0,q⟩
end
section
variable {P:dI} {w:dc} {K:bS} {mg:ae->Option av} {zn:bG} {x e7:ae} {st:bA} {f:af} {fd:jc} {N aQ:List ae} {k:Nat} {sp:cv}
def dN.fo(F:dN K x e7 st f fd)(S:b3 N aQ (bO st))(oX:∀{bw:av}{A:dU}{outer:List Env}{s:aR}(H:al)(vs:List V)(Q:bI)(E:cB),gT k (A.deeper (envOfC e7 (bO st) s.heap.objs.size f bw))->sp vs H Q E->
   ∃t,jy (oO dA P w K mg zn N e7 (bO st) f bw A outer s H E).q7 (k9 st) t/\t {nx:=fun _ H'=>kH H H' (Q .bf),rt:=fun v H'=>kH H H' (Q v)} (start N vs) H)(len:rg (∀vs H Q E,sp vs H Q E->vs.length=aQ.length) rsv):dh P w K mg zn dA (k+1) f fd aQ sp:=F.Qd S len @oX
def dD.eg(F:dD K mg x st aQ f fd)(S:b3 N aQ (bO st))(oX:∀{bw:av}{A:dU}{outer:List Env}{s:aR}(H:al)(vs:List V)(Q:bI)(E:cB),gT k (A.deeper (envOfC x (bO st) s.heap.objs.size f bw))->sp vs H Q E->
   ∃t,jy (oO dA P w K mg zn N x (bO st) f bw A outer s H E).q7 (k9 st) t/\t {nx:=fun _ H'=>kH H H' (Q .bf),rt:=fun v H'=>kH H H' (Q v)} (start N vs) H)(len:rg (∀vs H Q E,sp vs H Q E->vs.length=aQ.length) rsv):aY P w K mg zn (k+1) x aQ sp:=F.ok S len @oX
end
end c7
end
variable {q hW:ae} {S:c7.fb} {ws:List c7.V} {fy bU i2:Nat} {bp:c7.al} {ee bl cG:af} {eN:c7.V} {d0:List c7.D}
namespace KR
open PySem c7 dE
abbrev ba:=@cZ.of
abbrev cC:=@gf.of
def xz{A C:Prop}{K:bS}{H:al}{a:af}{xs:List V}{i:Int}{v:V}{Q:V->Prop}(h:H a=J (.lst xs))(e:ed xs i=J v)(q:Q v):(KM K (.ref a) (.int i) H Q\/A)\/C:=.inl (.inl ⟨_,_,_,_,rfl,rfl,ba h,e,q⟩)
def x0{A C:Prop}{K:bS}{H:al}{a:af}{xs:List V}{i:Int}{v:V}{Q:V->Prop}(h:H a=J (.tup xs))(e:ed xs i=J v)(q:Q v):(A\/KN K (.ref a) (.int i) H Q)\/C:=.inl (.inr ⟨_,_,_,_,rfl,rfl,cC h,e,q⟩)
abbrev c5:=@dY.refl
noncomputable def top(i:Nat):bA:=PySem.Challenge.pw_keyrise_k71_put_and_take.main.body.getD i (.Pass ⟨0,0,0,0⟩)
noncomputable section
abbrev Bo:bA:=top 91
abbrev Fp:bA:=top 90
abbrev By:bA:=top 87
abbrev Bz:bA:=top 86
abbrev Gi:bA:=top 82
abbrev Gh:bA:=top 81
abbrev F0:bA:=top 84
abbrev FY:bA:=top 83
abbrev FL:bA:=top 85
abbrev Gj:bA:=top 88
abbrev FN:bA:=top 89
abbrev AW:bA:=ej (top 60) 1
abbrev Ar:bA:=ej (top 60) 2
abbrev Bc:bA:=ej (top 60) 4
abbrev Ax:bA:=ej (top 48) 0
abbrev A5:bA:=ej (top 48) 1
abbrev Ay:bA:=ej (top 48) 3
abbrev Bf:bA:=ej (top 46) 0
abbrev Au:bA:=ej (top 46) 1
abbrev Bg:bA:=ej (top 46) 3
abbrev Bn:bA:=ej (top 57) 4
abbrev Bm:bA:=ej (top 57) 1
abbrev Aw:bA:=ej (top 57) 2
abbrev k6:bA:=ej (top 43) 0
abbrev Fi:bA:=top 35
abbrev FO:bA:=top 24
abbrev FQ:bA:=top 23
abbrev Fz:bA:=top 30
abbrev F4:bA:=top 29
abbrev Gd:bA:=top 28
abbrev Fn:bA:=top 34
abbrev EM:bA:=top 33
abbrev Fy:bA:=top 32
abbrev E0:bA:=top 31
abbrev Fb:bA:=top 102
abbrev Bx:bA:=top 94
abbrev BA:bA:=top 99
abbrev akT:bA:=ej (top 43) 1
abbrev As:bA:=top 18
abbrev LJ:bA:=ej (top 11) 5
abbrev Ge:bA:=top 74
abbrev Gb:bA:=top 73
abbrev Bp:bA:=top 93
abbrev Bd:bA:=top 92
abbrev Fx:bA:=top 80
abbrev FR:bA:=ej (top 78) 0
abbrev Bs:bA:=ej (top 78) 1
abbrev Bj:bA:=ej (top 78) 7
abbrev FD:bA:=ej (top 59) 0
abbrev FE:bA:=ej (top 60) 0
abbrev F5:bA:=ej (top 47) 0
abbrev Fs:bA:=ej (top 49) 0
abbrev FT:bA:=ej (top 57) 0
abbrev F6:bA:=ej (top 58) 0
abbrev FA:bA:=ej (top 61) 0
abbrev F1:bA:=top 41
abbrev Gx:bA:=top 42
abbrev Gy:bA:=top 55
abbrev Gf:bA:=top 56
abbrev F2:bA:=top 21
abbrev FH:bA:=top 15
abbrev Fo:bA:=top 16
abbrev AA:bA:=ej (top 44) 0
abbrev Bh:bA:=ej (top 45) 0
abbrev Bk:bA:=ej (top 78) 2
abbrev Bt:bA:=ej (top 78) 3
abbrev Bl:bA:=ej (top 78) 4
abbrev AS:bA:=ej (top 78) 5
abbrev akV:bA:=ej (top 78) 6
abbrev Gw:bA:=top 67
abbrev GQ:bA:=top 65
abbrev Gm:bA:=top 66
abbrev Fm:bA:=top 63
abbrev Fq:bA:=top 54
abbrev AU:bA:=ej (top 59) 1
abbrev Bu:bA:=ej (top 58) 1
abbrev AN:bA:=ej (top 61) 1
abbrev Bq:bA:=ej (top 47) 1
abbrev AJ:bA:=ej (top 49) 1
abbrev FZ:bA:=top 96
abbrev FW:bA:=top 97
abbrev Be:bA:=top 98
abbrev Gg:bA:=top 95
abbrev Gk:bA:=top 100
abbrev FX:bA:=top 101
abbrev Gv:bA:=top 71
abbrev FV:bA:=top 70
abbrev FI:bA:=top 69
abbrev FK:bA:=top 68
abbrev FJ:bA:=top 26
abbrev FC:bA:=ej (top 11) 0
abbrev AR:bA:=ej (top 11) 1
abbrev AQ:bA:=ej (top 11) 2
abbrev FP:bA:=top 25
abbrev Gl:bA:=top 17
abbrev F3:bA:=top 19
abbrev FU:bA:=top 20
abbrev EK:bA:=top 22
abbrev A7:bA:=ej (top 44) 1
abbrev Av:bA:=ej (top 45) 1
abbrev Az:bA:=ej (top 47) 2
abbrev A8:bA:=ej (top 61) 2
abbrev AI:bA:=ej (top 58) 2
abbrev A9:bA:=ej (top 59) 2
abbrev AB:bA:=ej (top 44) 3
abbrev Bi:bA:=ej (top 45) 3
abbrev Br:bA:=ej (top 47) 4
abbrev AO:bA:=ej (top 61) 4
abbrev Bv:bA:=ej (top 58) 4
abbrev AV:bA:=ej (top 59) 4
abbrev AK:bA:=ej (top 49) 5
abbrev Ba:bA:=ej (top 49) 2
abbrev Wp:bA:=ej (top 49) 3
abbrev AP:bA:=ej (top 11) 4
end
def nw:b3 ["_law_pool_here","_law_form_here","_law_word","_law_cell","_law_size","_law_text","_law_k","_law_name","_law_inner"] ["_law_pool_here","_law_form_here"] (bO Bo):=cd
def rK:b3 ["_law_one","_law_other","_law_top","_law_bottom","_law_low","_law_by","_law_rest"] ["_law_one","_law_other"] (bO Fp):=cd
def Mb:b3 ["_law_form_here","_law_word"] ["_law_form_here"] (bO By):=cd
def qD:b3 ["_law_pool_here","_law_deep","_law_cell","_law_way","_law_many","_law_names_here","_law_inner","_law_k"] ["_law_pool_here","_law_deep"] (bO Bz):=cd
def Zs:b3 ["_law_pool_here"] ["_law_pool_here"] (bO Gi):=cd
def tb:b3 ["_law_script","_law_pool_here","_law_k","_law_number"] ["_law_script"] (bO Gh):=cd
def oK:b3 ["_law_cell","_law_many","_law_some","_law_size","_law_at","_law_step","_law_number","_law_first","_law_stem","_law_k"] ["_law_cell","_law_many"] (bO F0):=cd
def pO:b3 ["_law_cell","_law_rest","_law_size","_law_number","_law_found","_law_k","_law_at"] ["_law_cell"] (bO FY):=cd
def Fv:b3 ["_law_pool_here","_law_way","_law_low","_law_cell"] ["_law_pool_here","_law_way"] (bO FL):=cd
def Ma:b3 ["_law_cell","_law_number"] ["_law_cell"] (bO Gj):=cd
def Yp:b3 ["_law_cell"] ["_law_cell"] (bO FN):=cd
def Yb:b3 ["self","value"] ["self","value"] (bO AW):=cd
def LF:b3 ["self","value","place"] ["self","value"] (bO Ar):=cd
def LN:b3 ["self","source","place"] ["self","source"] (bO Bc):=cd
def Xy:b3 ["self","value"] ["self","value"] (bO Ax):=cd
def Xe:b3 ["self","value"] ["self","value"] (bO A5):=cd
def Xz:b3 ["self","source"] ["self","source"] (bO Ay):=cd
def Yr:b3 ["self","value"] ["self","value"] (bO Bf):=cd
def Xv:b3 ["self","value"] ["self","value"] (bO Au):=cd
def Ys:b3 ["self","source"] ["self","source"] (bO Bg):=cd
def Yz:b3 ["self","source"] ["self","source"] (bO Bn):=cd
def Yy:b3 ["self","value"] ["self","value"] (bO Bm):=cd
def Xx:b3 ["self","value"] ["self","value"] (bO Aw):=cd
def Zu:b3 ["self","value"] ["self","value"] (bO k6):=cd
def LH:b3 ["source","steps"] ["source"] (bO Fi):=cd
def LS:b3 ["source","n"] ["source"] (bO FO):=cd
def AM:b3 ["source","ahead","digits"] ["source"] (bO FQ):=cd
def td:b3 ["steps","top","bottom","step","turned_over"] ["steps"] (bO Fz):=cd
def YU:b3 ["steps"] ["steps"] (bO F4):=cd
def ta:b3 ["fraction","steps","top","bottom","rest"] ["fraction"] (bO Gd):=cd
def tc:b3 ["steps","last","rows","k","step","row"] ["steps"] (bO Fn):=cd
def LC:b3 ["fraction","steps"] ["fraction"] (bO EM):=cd
def X0:b3 ["fraction"] ["fraction"] (bO Fy):=cd
def A6:b3 ["one","other","rest"] ["one","other"] (bO E0):=cd
def mC:b3 ["_law_script","_law_pool_here","_law_first","_law_form_here","_law_made_here","_law_shelf","_law_some","_law_kept","_law_k","_law_cell","_law_value_here","_law_found"] ["_law_script"] (bO Fb):=cd
def Zr:b3 ["_law_found","_law_due"] ["_law_found","_law_due"] (bO Bx):=cd
def Mc:b3 ["_law_value_here","_law_part"] ["_law_value_here"] (bO BA):=cd
def LG:b3 ["n"] ["n"] (bO As):=cd
def Zp:b3 ["form","signs"] ["form","signs"] (bO Ge):=cd
def L8:b3 ["form","source","value"] ["form","source"] (bO Gb):=cd
def pP:b3 ["_law_form_here","_law_one","_law_other","_law_word","_law_names_here","_law_bottom"] ["_law_form_here","_law_one","_law_other"] (bO Bp):=cd
def Fw:b3 ["_law_forms","_law_one","_law_other","_law_k","_law_way"] ["_law_forms","_law_one","_law_other"] (bO Bd):=cd
def XZ:b3 ["_law_script","_law_k"] ["_law_script","_law_k"] (bO Fx):=cd
def Yw:b3 ["self","form","room"] ["self","form","room"] (bO FR):=cd
def LZ:b3 ["self","value","row"] ["self","value"] (bO Bs):=cd
def LU:b3 ["self","start","end","rows"] ["self","start","end"] (bO Bj):=cd
def X7:b3 ["self","parts"] ["self","parts"] (bO FD):=cd
def Ya:b3 ["self","cases"] ["self","cases"] (bO FE):=cd
def YV:b3 ["self","low","high"] ["self","low","high"] (bO F5):=cd
def XP:b3 ["self","signs"] ["self","signs"] (bO Fs):=cd
def Yx:b3 ["self","inner"] ["self","inner"] (bO FT):=cd
def YZ:b3 ["self","inner"] ["self","inner"] (bO F6):=cd
def X1:b3 ["self","inner"] ["self","inner"] (bO FA):=cd
def YS:b3 ["value"] ["value"] (bO F1):=cd
def Z2:b3 ["text","signs"] ["text","signs"] (bO Gx):=cd
def Z3:b3 ["name"] ["name"] (bO Gy):=cd
def L9:b3 ["parts","names"] ["parts"] (bO Gf):=cd
def YT:b3 ["n","most"] ["n","most"] (bO F2):=cd
def Yo:b3 ["row"] ["row"] (bO FH):=cd
def XJ:b3 ["n","width"] ["n","width"] (bO Fo):=cd
def XM:b3 ["self","value"] ["self","value"] (bO AA):=cd
def Yt:b3 ["self","value"] ["self","value"] (bO Bh):=cd
def LV:b3 ["self","value","row"] ["self","value"] (bO Bk):=cd
def YY:b3 ["self","value"] ["self","value"] (bO Bt):=cd
def Yv:b3 ["self"] ["self"] (bO Bl):=cd
def X6:b3 ["self"] ["self"] (bO AS):=cd
def Mo:b3 ["rows","entries"] ["rows"] (bO Gw):=cd
def aaF:b3 ["rows"] ["rows"] (bO GQ):=cd
def Md:b3 ["ahead","row","shared"] ["ahead","row"] (bO Gm):=cd
def XI:b3 ["one","other"] ["one","other"] (bO Fm):=cd
def Fg:b3 ["one","other","place"] ["one","other"] (bO Fq):=cd
def X8:b3 ["self","value"] ["self","value"] (bO AU):=cd
def Y0:b3 ["self","value"] ["self","value"] (bO Bu):=cd
def X2:b3 ["self","value"] ["self","value"] (bO AN):=cd
def YW:b3 ["self","value"] ["self","value"] (bO Bq):=cd
def XQ:b3 ["self","value"] ["self","value"] (bO AJ):=cd
def LY:b3 ["_law_form_here","_law_kept","_law_value_here","_law_k"] ["_law_form_here","_law_kept","_law_value_here"] (bO FZ):=cd
def LX:b3 ["_law_form_here","_law_kept","_law_value_here","_law_at"] ["_law_form_here","_law_kept","_law_value_here"] (bO FW):=cd
def Yq:b3 ["_law_value_here"] ["_law_value_here"] (bO Be):=cd
def Zq:b3 ["_law_found","_law_due"] ["_law_found","_law_due"] (bO Gg):=cd
def pQ:b3 ["_law_shelf","_law_form_here","_law_kept","_law_value_here","_law_way","_law_there_here","_law_at","_law_handed","_law_due","_law_found","_law_good"] ["_law_shelf","_law_form_here","_law_kept","_law_value_here","_law_way"] (bO Gk):=cd
def oJ:b3 ["_law_script","_law_shelf","_law_made_here","_law_some","_law_kept","_law_rows","_law_cells","_law_start","_law_end","_law_paged","_law_page","_law_due"] ["_law_script","_law_shelf","_law_made_here","_law_some","_law_kept"] (bO FX):=cd
def Z1:b3 ["page"] ["page"] (bO Gv):=cd
def vB:b3 ["page","number","rows","place","entry"] ["page"] (bO FV):=cd
def vA:b3 ["page","at","rows","shared","others","end","rest","begun"] ["page","at","rows"] (bO FI):=cd
def Fu:b3 ["rows","shared","rest","last","left"] ["rows","shared","rest"] (bO FK):=cd
def Ft:b3 ["signs","at","source","n"] ["signs","at"] (bO FJ):=cd
def X5:b3 ["self","signs","at"] ["self","signs","at"] (bO FC):=cd
def Fl:b3 ["self","wished","sign"] ["self"] (bO AR):=cd
def X4:b3 ["self"] ["self"] (bO AQ):=cd
def AL:b3 ["source","most","n","k"] ["source","most"] (bO FP):=cd
def Zt:b3 ["n"] ["n"] (bO Gl):=cd
def xF:b3 ["n","m","digits","ahead","end"] ["n"] (bO F3):=cd
def YR:b3 ["n"] ["n"] (bO FU):=cd
def A4:b3 ["source","width","n","k"] ["source","width"] (bO EK):=cd
def Xh:b3 ["self","value"] ["self","value"] (bO A7):=cd
def Xw:b3 ["self","value"] ["self","value"] (bO Av):=cd
def XK:b3 ["self","value"] ["self","value"] (bO Az):=cd
def Xk:b3 ["self","value"] ["self","value"] (bO A8):=cd
def XO:b3 ["self","value"] ["self","value"] (bO AI):=cd
def Xl:b3 ["self","value"] ["self","value"] (bO A9):=cd
def XN:b3 ["self","source"] ["self","source"] (bO AB):=cd
def Yu:b3 ["self","source"] ["self","source"] (bO Bi):=cd
def YX:b3 ["self","source"] ["self","source"] (bO Br):=cd
def LM:b3 ["self","source","value"] ["self","source"] (bO AO):=cd
def L0:b3 ["self","source","values"] ["self","source"] (bO Bv):=cd
def X9:b3 ["self","source"] ["self","source"] (bO AV):=cd
def Fh:b3 ["self","source","text"] ["self","source"] (bO AK):=cd
def Xm:b3 ["self","text"] ["self","text"] (bO Ba):=cd
def LD:b3 ["self","value","most"] ["self","value"] (bO Wp):=cd
def X3:b3 ["self","sign"] ["self","sign"] (bO AP):=cd
structure dn(mg:ae->Option av):Prop where
 dr:mg "len"=ax
 kV:mg "range"=ax
 pa:mg "int"=ax
 J1:mg "str"=ax
 yq:mg "bool"=ax
 pz:mg "tuple"=ax
 iR:mg "isinstance"=ax
 zr:mg "min"=ax
 afD:mg "max"=ax
 wO:mg "list"=ax
 tr:mg "all"=ax
 aiX:mg "reversed"=ax
 acm:mg "enumerate"=ax
 D1:mg "zip"=ax
 Qu:mg "set"=ax
 ajd:mg "sorted"=ax
 abz:mg "abs"=ax
variable {A:Prop} {u:cX} {s:List Int} {Q:bI} {et:af}
section
open PySem c7 dE
variable {P:dI} {w:dc} {K:bS} {mg:ae->Option av} {zn:bG}
variable {f C:af}{fd:jc}{c:ey}{n:Nat}{bD:D->Bool}{has:fO->Bool}{fw:D->List Bool}
seal cH k4 gK iD k3 jy qA xJ iE vt TY xK
def cN{P:dI}{w:dc}{K:bS}{mg:ae->Option av}{zn:bG}{f:af}{e3:av}{A:dU}{o:List Env}{s:aR}{E:cB}:(oO CX P w K mg zn N q sc f e3 A o s H E).K=K:=rfl
def cO{X:bQ}:(X.m8 E).K=X.K:=rfl
def cP{X:bQ}{cl:List (ae×af)}{C:af}{s2:aR}:(Ch X sc cl C N s2 ao cm).K=X.K:=rfl
def cQ{X:bQ}:X.q7.K=X.K:=rfl
def gPrp(p:Prop):=p
theorem gPrr{p:Prop}(h:p):gPrp p=True:=eq_true h
theorem gPro{p:Prop}(h:gPrp p):p:=h
local macro_rules | `(tactic|show_term $s)=>`(tactic|exact gPro (by simp(disch:=(with_unfolding_all $s))only[↓gPrr]))
local macro_rules | `(tactic| ac_rfl)=>`(tactic| try dsimp only[cN,cO,cP,cQ])
local macro_rules | `(tactic| walk_at "g1")=>`(tactic| first
 |with_reducible exact True.intro
 |refine⟨_,I,?_⟩
 |refine⟨_,_,I,I,?_⟩
 |refine Or.inl ⟨_,_,I,I,?_⟩
 |refine Or.inr ⟨_,_,I,I,?_⟩
 |refine⟨I,?_⟩
 |refine⟨(by first|lia|decide),?_⟩)
local macro_rules | `(tactic| walk_at "g")=>`(tactic| repeat walk_at "g1")
def fl{p B:Prop}[Decidable p](ai:p->A)(ar:¬p->B):if decide p=ah then A else B:=by
 by_cases h:p
 .rw[if_pos (eT h)];exact ai h
 .rw[if_neg (by simpa using h)];exact ar h
def fh{p B:Prop}[Decidable p](h:¬p)(ar:B):if decide p=ah then A else B:=by rw[if_neg (by simpa using h)];exact ar
def hU{p B:Prop}[Decidable p](h:p)(ar:A):if decide p=ah then A else B:=by rw[if_pos (eT h)];exact ar
def gW{n:Nat}(h:n<=16000000):n<=cg:=dF h (by decide)
inductive LB(vs:List V)(H:al)(Q:bI)(E:cB):Prop where
 |mk (l:List Bool) (aX:vs=[.str (aH l)]) (ai:l.length<=16000000) (ar:Q (.str (aH (l.map (!·)))) H)
def fC{n:Nat}(h:n<=100000):n<=cg:=dF h (by decide)
def UM(l:List Bool){g7:Nat->V}(g:Bool->Bool)(h:∀i,i<l.length->g7 i=.str (aH [g (l.getD i aE)])):(List.range l.length).map g7=((l.map g).map fun b=>aH [b]).map V.str:=by
 apply List.ext_getElem?;intro i;rw[eD,eD,eD,eD];rcases g5 i l.length with z|z
 ·rw[List.getElem?_range z,cI z];have:=h i z;rw[eJ,cI z]at this;exact congrArg J this
 .rw[vz (by simpa using z),vz z];rfl
def Nm(l:List Bool):((l.map fun b=>aH [b]).map (·.length)).sum+(l.map fun b=>aH [b]).length*(ae.ofString "").length=l.length:=by
 have e:(ae.ofString "").length=0:=⋯;rw[e,Nat.mul_zero,Nat.add_zero]
 induction l with
 |nil=>rfl
 |cons b r bK=>simp only[fB,List.sum_cons,bK,dG,eb,List.length_nil];lia
def GU(h:U.length=1):∃z,U=[z]:=by
 match U,h with
 |[z],_=>exact⟨z,I⟩
def YA(F:dD K mg "turned_row" FH ["row"] f fd):aY P w K mg zn 1 "turned_row" ["row"] LB:=by
 refine F.eg Yo (fun H vs Q E aw h=>?_);obtain⟨l,rfl,aB,q⟩:=h;refine⟨_,(aJ (bt (hZ PySem.F.plainAttrs_str PySem.F.slot_str_join PySem.F.type_str_join tm cY (aj (hO ["sign"] [] I ⋯ trivial (h4 (ab 0)) (d5 (i:=0) (show(["sign"]:List ae).Nodup by decide+kernel)) gs (nv (b9 c6 (ab 0) cY) cY cY)) az)))),?_⟩;ac_rfl;refine⟨I,.inr ⟨_,I,_,I,fun D c2=>?_⟩⟩;refine G1 l.length (fun i =>.str (aH [l.getD i aE])) (fun i =>.str (aH [!l.getD i aE])) (fun U=>U.length=1) (gW aB) ?_ ?_ ?_ ?_ ?_ ?_
 .rfl
 .intro i H1 aF;show i<(aH l).cps.size;simpa [aH] using aF
 .intro H1;show(aH l).cps.size<=l.length;simp[aH]
 ·rintro i H1 x ao aF ⟨rfl,c,hc,rfl⟩;exact⟨I,Uy hc⟩
 ·intro i bE H1 aF df R bN;obtain⟨z,rfl⟩:=GU df;refine⟨_,I,I,_,I,?_⟩;revert bN;rw[s0,s1,Uz];cases l.getD i aE
  .intro bN;exact eP (bN _ (by rfl))
  .intro bN;exact da (bN _ (by rfl))
 ·refine⟨_,D,(l.map (!·)).map fun b=>aH [b],I,I,ba ?_,?_,H,.refl ?_,?_⟩
  .rw[aG];exact congrArg (fun x=>J (cX.lst x)) (UM l (!·) fun i _=>I)
  .rw[Nm,cA];lia
  .exact cE c2
  .rw[MI];exact q
inductive Ri(vs:List V)(H:al)(Q:bI)(E:cB):Prop where
 |mk (n d:Nat) (aX:vs=[.int n,.int d]) (ai:d<=16000000) (ar:Q (.str (aH (dB n d))) H)
def ZS(n d:Nat):dB n d=(List.range d).map fun i=>n.testBit (d-1-i):=by
 induction d with
 |zero=>rfl
 |succ d bK =>
  rw[dB,bK,List.range_succ_eq_map,fB,gg];congr 1;apply nu;intro i aF;show n.testBit (d-1-i)=n.testBit (d+1-1-(i+1));congr 1;lia
def Wf(n k:Nat):de.bitAnd ((n:Int)/2^k) 1=((n.testBit k).toNat:Int):=by
 rw[PyProof.Rows.bitAnd_m1]
 have e:((n:Int)/2^k)%2=((n/2^k%2:Nat):Int):=by
  rw[Int.natCast_emod,Int.natCast_ediv,Int.natCast_pow];rfl
 rw[e,Nat.testBit_eq_decide_div_mod_eq];have:n/2^k%2<2:=Nat.mod_lt _ (by decide);by_cases q:n/2^k%2=1
 .simp[q]
 ·have:n/2^k%2=0:=by lia
  simp[this]
def XT(nb:dn mg)(F:dD K mg "lower_digits" Fo ["n","width"] f fd):aY P w K mg zn 1 "lower_digits" ["n","width"] Ri:=by
 refine F.eg XJ (fun H vs Q E aw h=>?_);obtain⟨n,d,rfl,aB,q⟩:=h;refine⟨_,(aJ (bt (hZ PySem.F.plainAttrs_str PySem.F.slot_str_join PySem.F.type_str_join tm cY (aj (hO ["k"] [(0,"n")] I ⋯ ⟨I,.inl I,trivial⟩ (MB I nb.kV (aj (aO gc (ab 1) aC) (aj (k7 k1 aC) (aj (k7 k1 aC) az)))) (d5 (i:=0) (show(["k","n"]:List ae).Nodup by decide+kernel)) gs (nv (b9 c6 (aO WB (aO Ln (ab 1) (ab 0)) aC) aC) cY cY)) az)))),?_⟩;ac_rfl;refine⟨I,_,I,_,_,I,I,_,I,_,I,_,_,I,⟨by lia,by lia,by decide,by decide⟩,fun D c2=>?_⟩;have aV:(((d:Int)-1)-(-1)).toNat=d:=by lia
 refine G1 (((d:Int)-1)-(-1)).toNat (fun i =>.int ((d:Int)-1+i*(-1))) (fun i =>.str (aH [n.testBit (d-1-i)])) (fun U=>∃z,U=[z,J (.int n)]) (by rw[aV];exact gW aB) ?_ ?_ ?_ ?_ ?_ ?_
 .exact⟨_,I⟩
 .intro i H1 aF;exact aF
 .intro H1;exact cp _
 ·rintro i H1 x ao aF ⟨rfl,rfl⟩;exact⟨I,I⟩
 ·rintro i bE H1 aF ⟨z,rfl⟩ R bN;rw[aV]at aF;have gx:((d:Int)-1+(i:Int)*(-1)).toNat=d-1-i:=by lia
  refine⟨_,I,_,I,_,_,I,I,(by lia),_,_,I,I,I,_,I,?_⟩;have ag:de.bitAnd ((n:Int)/2^((d:Int)-1+(i:Int)*(-1)).toNat) 1=((n.testBit (d-1-i)).toNat:Int):=by rw[gx];exact Wf _ _
  revert bN;rw[s0,s1];cases e:n.testBit (d-1-i)
  ·rw[e]at ag;intro bN;exact fh (fun c=>absurd (ag.symm.trans (V.int.inj c)) (by decide)) (bN _ ⟨_,I⟩)
  ·rw[e]at ag;intro bN;exact hU (congrArg V.int ag) (bN _ ⟨_,I⟩)
 ·refine⟨_,D,(dB n d).map fun b=>aH [b],I,I,ba ?_,?_,H,.refl ?_,?_⟩
  .rw[aG,aV,ZS,gg,gg];rfl
  .rw[Nm,ji];lia
  .exact cE c2
  .rw[MI];exact q
inductive QZ(vs:List V)(H:al)(Q:bI)(E:cB):Prop where
 |mk (n m:Nat) (aX:vs=[.int n,.int m]) (ai:n<=m) (ar:aD m<=16000000) (bz:Q (.str (aH (dB n (aD m)))) H)
def Zb(F:dD K mg "fixed_row" F2 ["n","most"] f fd)(sT:aY P w K mg zn 1 "lower_digits" ["n","width"] Ri):aY P w K mg zn 2 "fixed_row" ["n","most"] QZ:=by
 refine F.eg YT (fun H vs Q E aw h=>?_);obtain⟨n,m,rfl,aB,ag,q⟩:=h
 refine⟨_,(aI (cw (gK.pt (lL (b9 iV (ab 0) aC) (l9 (b9 kz (ab 0) (ab 1))))) (aJ kN) cx)
  (aJ (bt (bT sT aw (aj (ab 0) (aj (yi PySem.F.plainAttrs_int PySem.F.slot_int_bit_length PySem.F.type_int_bit_length xV (ab 1)) az)))))),?_⟩
 ac_rfl;refine⟨_,I,.inl ⟨_,_,I,I,_,I,?_⟩⟩;refine fh (by lia) ⟨_,I,_,I,_,_,I,I,_,I,?_⟩;refine fh (by lia) ⟨_,I,_,I,I,_,I,I,?_⟩;rw[vP];exact⟨n,aD m,I,ag,H,.refl (c5 _),q⟩
noncomputable def gu(z:ae)(i:Int)(t e:Bool)(u:Int):List (ae×V):=[("signs",.str z),("place",.int i),("turned",.aK t),("endless",.aK e),("wished",.int u)]
noncomputable abbrev v7(z:ae)(i:Int)(t e:Bool):List (ae×V):=gu z i t e 0
structure s8(K:bS)(C:af):Prop where
 cl:fT K C
 pd:jL K C "signs"
 t6:jL K C "place"
 lj:jL K C "turned"
 afI:jL K C "endless"
 Dp:jL K C "wished"
def Oy:¬(("signs":ae)="place"):=⋯
def Oz:¬(("signs":ae)="turned"):=⋯
def acy:¬(("signs":ae)="endless"):=⋯
def OA:¬(("signs":ae)="wished"):=⋯
def OB:¬(("place":ae)="turned"):=⋯
def acz:¬(("place":ae)="endless"):=⋯
def OC:¬(("place":ae)="wished"):=⋯
def acA:¬(("turned":ae)="endless"):=⋯
def OD:¬(("turned":ae)="wished"):=⋯
def OE:¬(("endless":ae)="wished"):=⋯
def acR:(("place":ae) == "signs")=aE:=⋯
def acS:(("turned":ae) == "signs")=aE:=⋯
def acT:(("turned":ae) == "place")=aE:=⋯
def acU:(("wished":ae) == "signs")=aE:=⋯
def acV:(("wished":ae) == "place")=aE:=⋯
def acW:(("wished":ae) == "turned")=aE:=⋯
def acX:(("wished":ae) == "endless")=aE:=⋯
def BH(z:ae):fg "signs" (.str z) []=([("signs",.str z)]:List (ae×V)):=rfl
def BB(z:ae)(i:Int):fg "place" (.int i) ([("signs",.str z)]:List (ae×V))=([("signs",.str z),("place",.int i)]:List (ae×V)):=by
 simp only[fg,Oy,if_false]
def F7(z:ae)(i:Int)(t:Bool):fg "turned" (.aK t) ([("signs",.str z),("place",.int i)]:List (ae×V))=([("signs",.str z),("place",.int i),("turned",.aK t)]:List (ae×V)):=by
 simp only[fg,Oz,OB,if_false]
def L3(z:ae)(i:Int)(t e:Bool):fg "endless" (.aK e) ([("signs",.str z),("place",.int i),("turned",.aK t)]:List (ae×V))=([("signs",.str z),("place",.int i),("turned",.aK t),("endless",.aK e)]:List (ae×V)):=by
 simp only[fg,acy,acz,acA,if_false]
def Zv(z:ae)(i:Int)(t e:Bool)(u:Int):fg "wished" (.int u) ([("signs",.str z),("place",.int i),("turned",.aK t),("endless",.aK e)]:List (ae×V))=gu z i t e u:=by
 simp only[fg,OA,OC,OD,OE,if_false];rfl
def aaI(z:ae)(i j:Int)(t e:Bool)(u:Int):fg "place" (.int j) (gu z i t e u)=gu z j t e u:=by
 simp only[gu,fg,Oy,if_false,if_true]
def Z4(z:ae)(i:Int)(t hb e:Bool)(u:Int):fg "turned" (.aK hb) (gu z i t e u)=gu z i hb e u:=by
 simp only[gu,fg,Oz,OB,if_false,if_true]
def Mp(z:ae)(i:Int)(t e:Bool)(u dW:Int):fg "wished" (.int dW) (gu z i t e u)=gu z i t e dW:=by
 simp only[gu,fg,OA,OC,OD,OE,if_false,if_true]
def Gp(z:ae)(i:Int)(t e:Bool){u:Int}:(gu z i t e u).lookup ("signs":ae)=J (.str z):=by simp[gu]
def xP(z:ae)(i:Int)(t e:Bool){u:Int}:(gu z i t e u).lookup ("place":ae)=J (.int i):=by
 simp[gu,List.lookup,acR]
def Mg(z:ae)(i:Int)(t e:Bool){u:Int}:(gu z i t e u).lookup ("turned":ae)=J (.aK t):=by
 simp[gu,List.lookup,acS,acT]
def ZK(z:ae)(i:Int)(t e:Bool){u:Int}:(gu z i t e u).lookup ("wished":ae)=J (.int u):=by
 simp[gu,List.lookup,acU,acV,acW,acX]
def lJ(z:ae)(i:Int)(t e:Bool){u:Int}{m:ae}(h:(m == ("signs":ae))=aE)(ar:(m == ("place":ae))=aE)(bz:(m == ("turned":ae))=aE)
  (c0:rg ((m == ("endless":ae))=aE) rru) (es:rg ((m == ("wished":ae))=aE) rru):(gu z i t e u).lookup m=ax:=by
 simp[gu,List.lookup,h,ar,bz,c0,es]
def K6(H:al)(p C ak:af)(l:List Bool)(i:Nat)(t e:Bool):Prop:=∃u:Int,H p=J (.ins C ak (gu (aH l) ((i:Nat):Int) t e u))
inductive RZ(C:af)(vs:List V)(H:al)(Q:bI)(E:cB):Prop where
 |mk (p ak z i:_) (aX:vs=[.ref p,.str z,.int i]) (ai:H p=J (.ins C ak [])) (ar:Q .bf (upd H p (.ins C ak (v7 z i aE aE))))
def Zy(T:s8 K C)(F:dN K "__init__" "Source.__init__" FC f fd):dh P w K mg zn dA 1 f fd ["self","signs","at"] (RZ C):=by
 refine F.ok X5 (fun vs H Q E h=>?_) (fun bw A _ s H vs Q E aw h=>?_)
 .obtain⟨p,ak,z,i,rfl,_⟩:=h;rfl
 obtain⟨p,ak,z,i,rfl,aU,q⟩:=h
 refine⟨_,(aI (i1 (ab 0) (ab 1) I)
  (aI (i1 (ab 0) (ab 2) rfl)
  (aI (i1 (ab 0) jf rfl)
  (aI (i1 (ab 0) jf rfl)
  (aJ (i1 (ab 0) aC rfl)))))),?_⟩
 ac_rfl;refine⟨_,I,_,I,p,C,ak,_,I,aU,T.cl,T.pd,(by show 0<1000;decide),?_⟩;refine⟨_,I,_,I,p,C,ak,_,I,aG,T.cl,T.t6,(by show 1<1000;decide),?_⟩;refine⟨_,I,p,C,ak,_,I,aG,T.cl,T.lj,(by rw[BH,BB];show 2<1000;decide),?_⟩;refine⟨_,I,p,C,ak,_,I,aG,T.cl,T.afI,(by rw[BH,BB,F7];show 3<1000;decide),?_⟩;refine⟨_,I,p,C,ak,_,I,aG,T.cl,T.Dp,(by rw[BH,BB,F7,L3];show 4<1000;decide),?_⟩;rw[fW,fW,fW,fW,BH,BB,F7,L3,Zv];exact q
inductive QV(C:af)(vs:List V)(H:al)(Q:bI)(E:cB):Prop where
 |mk (p ak:af) (l:List Bool) (i:Nat) (t e b:Bool) (aX:vs=[.ref p]) (ai:K6 H p C ak l i t e) (ar:l.length<=16000000) (bz:l[i]?=J b) (c0:Q (.int ((xor t b).toNat:Nat)) (upd H p (.ins C ak (v7 (aH l) ((i+1:Nat):Int) t e))))
def VR(nb:dn mg)(T:s8 K C)(F:dN K "draw" "Source.draw" AR f fd):dh P w K mg zn dA 1 f fd ["self"] (QV C):=by
 refine F.ok Fl (fun vs H Q E h=>?_) (fun bw A _ s H vs Q E aw h=>?_)
 .obtain⟨p,ak,l,i,t,e,b,rfl,_⟩:=h;rfl
 obtain⟨p,ak,l,i,t,e,b,rfl,⟨u,aU⟩,aB,ag,q⟩:=h;have aF:i<l.length:=(gr.mp ag).1
 refine⟨_,(aI (bM 1 Fl.bj (d6 (ab 0) I))
  (aI (i1 (ab 0) aC rfl)
  (aI (cw (b9 iV (d6 (ab 0) rfl) (b8 dx rfl nb.dr dv (aj (d6 (ab 0) rfl) az))) (aI (bM 2 Fl.bj (oE rD rfl nb.pa oN (aj (bW bY (d6 (ab 0) rfl) (d6 (ab 0) rfl)) az)))
   (aI (i1 (ab 0) (aO el (d6 (ab 0) rfl) aC) rfl)
   (aJ (bt (nv (f6 (d6 (ab 0) rfl)) (aO gc aC (ab 2)) (ab 2)))))) cx)
  (aI (cw (iJ (f6 (d6 (ab 0) rfl))) (aJ kN) cx)
  (aJ (bt (ab 1))))))),?_⟩
 ac_rfl;refine⟨_,I,p,C,ak,_,_,I,aU,T.cl,T.Dp,ZK ..,?_⟩;refine⟨_,I,p,C,ak,_,I,aU,T.cl,T.Dp,(by show 5<1000;decide),?_⟩;rw[Mp];refine⟨_,I,p,C,ak,_,_,I,aG,T.cl,T.t6,xP ..,_,I,p,C,ak,_,_,I,aG,T.cl,T.pd,Gp ..,_,_,I,⟨by rw[dG];exact gW aB,I⟩,.inl ⟨_,_,rfl,rfl,_,rfl,?_⟩⟩;refine hU (by rw[dG];lia) ?_;refine⟨_,I,p,C,ak,_,_,I,aG,T.cl,T.pd,Gp ..,_,I,p,C,ak,_,_,I,aG,T.cl,T.t6,xP ..,.inr ⟨_,_,md b,I,I,by rw[dG];exact gW aB,cT (x1 ag),.inr ⟨_,_,I,Uv b,(by show 1<=640;decide),?_⟩⟩⟩;refine⟨_,I,p,C,ak,_,_,I,aG,T.cl,T.t6,xP ..,.inl ⟨_,_,I,I,_,I,p,C,ak,_,I,aG,T.cl,T.t6,(by show 5<1000;decide),?_⟩⟩;rw[aaI,fW];refine⟨_,I,p,C,ak,_,_,I,aG,T.cl,T.lj,Mg ..,_,I,?_⟩;cases t with
 |false =>
  refine da ⟨_,I,?_⟩;have e:(aE ^^ b)=b:=by cases b<;>rfl
  rw[e]at q;exact q
 |true =>
  refine eP ⟨_,I,_,_,I,I,?_⟩;have e:((ah ^^ b).toNat:Int)=1-(b.toNat:Int):=by cases b<;>rfl
  rw[e]at q;exact q
inductive R6(C:af)(vs:List V)(H:al)(Q:bI)(E:cB):Prop where
 |mk (p ak:af) (l:List Bool) (i:Nat) (t e:Bool) (u:Int) (aX:vs=[.ref p]) (ai:H p=J (.ins C ak (gu (aH l) ((i:Nat):Int) t e u))) (ar:Q .bf (upd H p (.ins C ak (gu (aH l) ((i:Nat):Int) (!t) e u))))
def VN(T:s8 K C)(F:dN K "turn" "Source.turn" AQ f fd):dh P w K mg zn dA 1 f fd ["self"] (R6 C):=by
 refine F.ok X4 (fun vs H Q E h=>?_) (fun bw A _ s H vs Q E aw h=>?_)
 .obtain⟨p,ak,l,i,t,e,u,rfl,_⟩:=h;rfl
 obtain⟨p,ak,l,i,t,e,u,rfl,aU,q⟩:=h;refine⟨_,(aJ (i1 (ab 0) (B1 (d6 (ab 0) I)) I)),?_⟩;ac_rfl;refine⟨_,I,p,C,ak,_,_,I,aU,T.cl,T.lj,Mg ..,t,I,_,I,p,C,ak,_,I,aU,T.cl,T.lj,(by show 5<1000;decide),?_⟩;rw[Z4];exact q
def uC:cv:=fun _ _ _ _=>False
noncomputable abbrev fi(C ak:af)(l:List Bool)(i:Nat)(t e:Bool):cX :=.ins C ak (v7 (aH l) ((i:Nat):Int) t e)
noncomputable abbrev zX(C ak:af)(l:List Bool)(i:Nat)(t e:Bool)(u:Int):cX :=.ins C ak (gu (aH l) ((i:Nat):Int) t e u)
inductive QQ(C:af)(vs:List V)(H:al)(Q:bI)(E:cB):Prop where
 |mk (p ak:af) (l:List Bool) (i n m:Nat) (t bX:Bool) (aX:vs=[.ref p,.int m]) (ai:H p=J (fi C ak l i t bX)) (ar:l.length<=16000000) (bz:n<=m) (c0:i+aD m<=l.length) (es:((l.drop i).take (aD m)).map (xor t)=dB n (aD m)) (iN:Q (.int n) (upd H p (fi C ak l (i+aD m) t bX)))
def YK(nb:dn mg)(eF:fT K C)(F:dD K mg "draw_fixed" FP ["source","most"] f fd)(hj:gn P w K mg zn 1 C "draw" ["self"] (QV C))(l6:gn P w K mg zn 1 C "refuse" ["self"] uC):aY P w K mg zn 2 "draw_fixed" ["source","most"] (QQ C):=by
 refine F.eg AL (fun H vs Q E aw h=>?_);obtain⟨p,ak,l,i,n,m,t,bX,rfl,aU,aB,aV,aF,ag,q⟩:=h
 refine⟨_,(aI (bM 2 AL.bj aC)
  (aI (ma iB.never rfl (MB rfl nb.kV (aj (aO gc (yi PySem.F.plainAttrs_int PySem.F.slot_int_bit_length PySem.F.type_int_bit_length xV (ab 1)) aC) (aj (k7 k1 aC) (aj (k7 k1 aC) az)))) (d5 (i:=3) AL.bj rfl (by exact Or.inl I))
   (aI (bM 2 AL.bj (aO el (aO lW aC (ab 2)) (jj hj eF aw (ab 0))))
   (aJ (cw (b9 kz (ab 2) (aO Ln (ab 1) (ab 3))) (aJ (ik (jj l6 eF aw (ab 0)))) cx))))
  (aJ (bt (ab 2))))),?_⟩
 ac_rfl;have alc:=vP m;refine⟨_,I,I,_,I,I,_,_,I,I,_,I,_,I,_,_,I,⟨by lia,by lia,by decide,by decide⟩,?_⟩;have hw:(((de.Int.intBits ((m:Nat):Int):Nat):Int)-1-(-1)).toNat=aD m:=by lia
 refine aaq (fun j U ao=>∃z,U=[J (.ref p),J (.int m),J (.int ((n/2^(aD m-j):Nat):Int)),z]/\ao=upd H p (fi C ak l (i+j) t bX)) ?_ ?_ ?_
 ·refine⟨ax,?_,(BF aU).symm⟩;rw[Nat.sub_zero,Nat.div_eq_of_lt (Nat.lt_of_le_of_lt aV (pT m))];rfl
 ·rintro j U ao b0 ⟨z,rfl,rfl⟩;rw[hw]at b0;obtain⟨b,gQ,gF⟩:=aaL ag b0 aF;have kO:(((de.Int.intBits ((m:Nat):Int):Nat):Int)-1+(j:Int)*(-1)).toNat=aD m-1-j:=by lia
  have aL:aD m-j=aD m-1-j+1:=by lia
  have aS:aD m-(j+1)=aD m-1-j:=by lia
  have aZ:=U4 n (aD m-1-j);refine⟨_,I,.inl ⟨_,_,I,I,.inl ⟨by decide,by decide⟩,_,rfl,p,ak,_,rfl,aG,lJ _ _ _ _ ⋯ ⋯ ⋯,?_⟩⟩;refine⟨p,ak,l,i+j,t,bX,b,I,⟨_,aG⟩,aB,gQ,.inl ⟨_,_,I,I,?_⟩⟩;refine⟨_,I,_,I,_,I,_,_,I,I,(by lia),_,_,I,I,_,I,?_⟩
  have ev:(2:Int)*((n/2^(aD m-j):Nat):Int)+(((t ^^ b).toNat:Nat):Int)=((n/2^(aD m-(j+1)):Nat):Int):=by
   rw[gF,aL,aS,aZ];lia
  refine fh ?_ ?_
  ·rw[ev,kO,aS]
   have a1:((m:Nat):Int)/2^(aD m-1-j)=((m/2^(aD m-1-j):Nat):Int):=by
    rw[Int.natCast_ediv,Int.natCast_pow];rfl
   have a2:=Nat.div_le_div_right (c:=2^(aD m-1-j)) aV;rw[a1];lia
  ·rw[<-ev];exact⟨_,I,by rw[fW];rfl⟩
 ·rintro U ao ⟨z,rfl,rfl⟩;rw[hw];refine⟨_,I,_,.ins aU (fun b u ag e=>by rw[bC ag];exact e) aG,?_⟩;have e:n/2^(aD m-aD m)=n:=by rw[Nat.sub_self,Nat.pow_zero,Nat.div_one]
  rw[e];exact q
inductive QM(vs:List V)(H:al)(Q:bI)(E:cB):Prop where
 |mk (n:Nat) (aX:vs=[.int n]) (ai:n+1<2^255) (ar:Q (.str (aH (cnt n))) H)
def U8{e:Nat}:e<8->0<(fF e).length:=by intro h;unfold fF;rw[if_neg (by lia)];decide
def G2(e:Nat):(fF e).length<=1:=by unfold fF;split<;>simp
def Vb{n:Nat}(h:2^k<=n):k<aD n:=by
 rcases g5 k (aD n)with z|z
 .exact z
 ·have:=pT n;have:=Nat.pow_le_pow_right (show 0<2 by decide) z;lia
def h7(n:Int):Prop:=0<=n/\n<2^255-1
noncomputable instance (n:Int):Decidable (h7 n):=inferInstanceAs (Decidable (_/\_))
inductive Q9(vs:List V)(H:al)(Q:bI)(E:cB):Prop where
 |mk (n:Int) (aX:vs=[.int n]) (ai:Q (.aK (decide (h7 n))) H)
def Oi:h7 (m:Int)↔aD (m+1)<=255:=by
 unfold h7;constructor
 .intro ⟨_,h⟩;exact jl (by lia)
 ·intro h;rcases g5 (m+1) (2^255)with z|z
  .omega
  .have:=Vb z;lia
def ZH(HV:hi mg "MOST_DIGITS" (.int 255))(F:dD K mg "is_count" Gl ["n"] f fd):aY P w K mg zn 1 "is_count" ["n"] Q9:=by
 refine F.eg Zt (fun H vs Q E aw h=>?_);obtain⟨n,rfl,q⟩:=h;refine⟨_,(aJ (bt (il (fM Dw (ab 0) aC) (jB (fM uc (yi PySem.F.plainAttrs_int PySem.F.slot_int_bit_length PySem.F.type_int_bit_length xV (aO el (ab 0) aC)) (mc HV)))))),?_⟩;ac_rfl;refine⟨_,I,_,_,I,I,_,I,?_⟩;refine fl (fun c=>?_) (fun c=>?_)
 ·refine⟨_,I,.inl ⟨_,_,I,I,I,_,I,I,_,_,I,I,H,.refl (c5 _),?_⟩⟩;obtain⟨m,rfl⟩:∃m:Nat,n=m:=⟨n.toNat,by lia⟩;rw[show((m:Int)+1)=((m+1:Nat):Int)from rfl,vP (m+1)]
  have e:decide (((aD (m+1):Nat):Int)<=255)=decide (h7 (m:Int)):=by
   rw[decide_eq_decide,Oi];lia
  dsimp only;rw[e];exact q
 ·refine⟨H,.refl (c5 _),?_⟩;have e:decide (h7 n)=aE:=fL fun z=>c z.1;rw[<-e];exact q
def Zc(wb:hi mg "MOST_AHEAD" (.int 7))(F:dD K mg "count_row" F3 ["n"] f fd)(ng:aY P w K mg zn 1 "is_count" ["n"] Q9)(sT:aY P w K mg zn 1 "lower_digits" ["n","width"] Ri):aY P w K mg zn 2 "count_row" ["n"] QM:=by
 refine F.eg xF (fun H vs Q E aw h=>?_);obtain⟨n,rfl,aV,q⟩:=h
 refine⟨_,(aI (cw (iJ (f6 (bT ng aw (aj (ab 0) az)))) (aJ kN) cx)
  (aI (bM 1 xF.bj (aO el (ab 0) aC))
  (aI (bM 2 xF.bj (yi PySem.F.plainAttrs_int PySem.F.slot_int_bit_length PySem.F.type_int_bit_length xV (ab 1)))
  (aI (bM 3 xF.bj (aO gc (yi PySem.F.plainAttrs_int PySem.F.slot_int_bit_length PySem.F.type_int_bit_length xV (ab 2)) aC))
  (aI (bM 4 xF.bj (nv (b9 c6 (ab 3) (mc wb)) cY cY))
  (aJ (bt (aO el (aO el (aO el (aO lW cY (ab 3)) (ab 4)) (bT sT aw (aj (ab 2) (aj (ab 3) az)))) (bT sT aw (aj (ab 1) (aj (aO gc (ab 2) aC) az))))))))))),?_⟩
 ac_rfl;have hd:aD (n+1)<=255:=jl aV;have aU:0<aD (n+1):=oH (by lia);have he:aD (aD (n+1))<=8:=jl (by lia);have bo:0<aD (aD (n+1)):=oH (by lia);have fE:=vP (n+1);have eK:=vP (aD (n+1));refine⟨_,I,_,I,_,I,?_⟩;rw[eT (Oi.mpr hd)];refine da ⟨_,I,.inl ⟨_,_,I,I,_,I,I,_,I,I,?_⟩⟩;rw[show((n:Int)+1)=((n+1:Nat):Int)from rfl,fE];refine⟨_,I,I,_,I,I,_,_,I,I,?_⟩;rw[eK];obtain⟨k,hk⟩:∃k:Nat,((aD (aD (n+1)):Nat):Int)-1=k:=⟨aD (aD (n+1))-1,by lia⟩;have r8:k=aD (aD (n+1))-1:=by lia
 dsimp only;rw[hk];have a1:(k:Int)<2^40:=by lia
 have a2 : -(2^40)<(k:Int):=by lia
 have a3:(ae.ofString "1").length*((k:Nat):Int).toNat<=cg:=by rw[s1,dG];exact fC (by show 1*_<=_;lia)
 have a4:(Txt.mul (ae.ofString "1") (k:Int)).length+(aH (fF (aD (aD (n+1))))).length<=cg:=by
  rw[s1,B2,dG,dG,List.length_replicate];have:=G2 (aD (aD (n+1)));exact fC (by lia)
 have a5:(Txt.mul (ae.ofString "1") (k:Int)++aH (fF (aD (aD (n+1))))).length+(aH (dB (aD (n+1)) k)).length<=cg:=by
  rw[s1,B2,j2,dG,dG,dP,List.length_replicate,ji];have:=G2 (aD (aD (n+1)));exact fC (by lia)
 have a6:(Txt.mul (ae.ofString "1") (k:Int)++aH (fF (aD (aD (n+1))))++aH (dB (aD (n+1)) k)).length+(aH (dB (n+1) (aD (n+1)-1))).length<=cg:=by
  rw[s1,B2,j2,j2,dG,dG,dP,dP,List.length_replicate,ji,ji];have:=G2 (aD (aD (n+1)));exact fC (by lia)
 have Oc:Txt.mul (ae.ofString "1") (k:Int)++aH (fF (aD (aD (n+1))))++aH (dB (aD (n+1)) k)++aH (dB (n+1) (aD (n+1)-1))=aH (cnt n):=by
  rw[s1,B2,j2,j2,j2];unfold cnt;rw[r8,gL,gL];rfl
 have ad:[V.int ((n:Int)+1),V.int (((aD (n+1):Nat):Int)-1)]=[.int ((n+1:Nat):Int),.int ((aD (n+1)-1:Nat):Int)]:=by
  have:((aD (n+1):Nat):Int)-1=((aD (n+1)-1:Nat):Int):=by lia
  rw[this];rfl
 refine⟨_,I,I,_,I,?_⟩;refine fl (fun c=>?_) (fun c=>?_)
 ·have yQ:(ae.ofString "")=aH (fF (aD (aD (n+1)))):=by
   have:=V.int.inj c;rw[uv];unfold fF;rw[if_pos (by lia)]
  rw[yQ];refine⟨_,I,.inr ⟨_,_,I,I,a1,a2,a3,_,I,.inr ⟨_,_,I,I,a4,_,I,_,I,_,_,I,(by lia),.inr ⟨_,_,I,I,a5,?_⟩⟩⟩⟩;refine⟨_,I,_,I,_,_,I,I,n+1,aD (n+1)-1,ad,(by lia),.inr ⟨_,_,I,I,a6,H,.refl (c5 _),?_⟩⟩;rw[Oc];exact q
 ·have yQ:(ae.ofString "0")=aH (fF (aD (aD (n+1)))):=by
   have:¬k=7:=fun z=>c (by rw[z];rfl);rw[s0];unfold fF;rw[if_neg (by lia)]
  rw[yQ];refine⟨_,I,.inr ⟨_,_,I,I,a1,a2,a3,_,I,.inr ⟨_,_,I,I,a4,_,I,_,I,_,_,I,(by lia),.inr ⟨_,_,I,I,a5,?_⟩⟩⟩⟩;refine⟨_,I,_,I,_,_,I,I,n+1,aD (n+1)-1,ad,(by lia),.inr ⟨_,_,I,I,a6,H,.refl (c5 _),?_⟩⟩;rw[Oc];exact q
def ih(n:Int):Prop := -(2^255)<n/\n<2^255-1
inductive LI(vs:List V)(H:al)(Q:bI)(E:cB):Prop where
 |mk (n:Int) (aX:vs=[.int n]) (ai:ih n) (ar:Q (.str (aH (gY n))) H)
def NT{n:Int}(h:n<0)(b : -(2^255)<n):∃m:Nat,-1-n=m/\m+1<2^255/\gY n=aE::(cnt m).map (!·):=by
 refine⟨(-1-n).toNat,by lia,by lia,?_⟩;unfold gY;rw[if_pos h]
def NM{n:Int}(h:¬n<0)(b:n<2^255-1):∃m:Nat,n=m/\m+1<2^255/\gY n=ah::cnt m:=by
 refine⟨n.toNat,by lia,by lia,?_⟩;unfold gY;rw[if_neg h]
def BX{n:Nat}(h:n+1<2^255):(cnt n).length<=269:=by
 have:=xS h;have:=jl h;lia
def NA(b:Bool)(l:List Bool):aH [b]++aH l=aH (b::l):=by rw[j2];rfl
def Y2(F:dD K mg "whole_row" FU ["n"] f fd)(l3:aY P w K mg zn 2 "count_row" ["n"] QM)(ot:aY P w K mg zn 1 "turned_row" ["row"] LB):aY P w K mg zn 3 "whole_row" ["n"] LI:=by
 refine F.eg YR (fun H vs Q E aw h=>?_);obtain⟨n,rfl,aV,q⟩:=h
 refine⟨_,(aI (cw (b9 iV (ab 0) aC) (aJ (bt (aO el cY (bT ot aw (aj (bT l3 aw (aj (aO gc (k7 k1 aC) (ab 0)) az)) az))))) cx)
  (aJ (bt (aO el cY (bT l3 aw (aj (ab 0) az)))))),?_⟩
 ac_rfl;refine⟨_,I,.inl ⟨_,_,I,I,_,I,?_⟩⟩;refine fl (fun c=>?_) (fun c=>?_)
 ·obtain⟨m,e,hm,kr⟩:=NT c aV.1;have lm:=BX hm;refine⟨_,I,_,I,_,_,I,I,m,(congrArg (fun x=>[V.int x]) e),hm,cnt m,I,(by lia),.inr ⟨_,_,I,I,(by rw[s0,dG,dG,cA];exact fC (by simp only[eb,List.length_nil];lia)),H,.refl (c5 _),?_⟩⟩;rw[s0,NA,<-kr];exact q
 ·obtain⟨m,rfl,hm,kr⟩:=NM c aV.2;have lm:=BX hm;refine⟨_,I,m,I,hm,.inr ⟨_,_,I,I,(by rw[s1,dG,dG];exact fC (by simp only[eb,List.length_nil];lia)),H,.refl (c5 _),?_⟩⟩;rw[s1,NA,<-kr];exact q
inductive QT(C:af)(vs:List V)(H:al)(Q:bI)(E:cB):Prop where
 |mk (p ak:af) (l:List Bool) (i d:Nat) (t bX:Bool) (aX:vs=[.ref p,.int d]) (ai:H p=J (fi C ak l i t bX)) (ar:l.length<=16000000) (bz:i+d<=l.length) (c0:Q (.int ((kW 1 (((l.map (xor t)).drop i).take d):Nat):Int)) (upd H p (fi C ak l (i+d) t bX)))
def get_map(h:i<l.length):∃b,l[i]?=J b/\(l.map (xor t)).getD i aE=xor t b:=by
 refine⟨l[i],cI h,?_⟩;rw[eJ,eD,cI h];rfl
def aay{b:Bool}(h:i+j<L.length)(ag:L.getD (i+j) aE=b):(L.drop i).take (j+1)=(L.drop i).take j++[b]:=by
 rw[iG,List.getElem?_drop];rw[eJ,cI h]at ag;rw[cI h];have:L[i+j]=b:=ag;rw[this];rfl
def Xd(nb:dn mg)(eF:fT K C)(F:dD K mg "draw_lower_digits" EK ["source","width"] f fd)(hj:gn P w K mg zn 1 C "draw" ["self"] (QV C)):aY P w K mg zn 2 "draw_lower_digits" ["source","width"] (QT C):=by
 refine F.eg A4 (fun H vs Q E aw h=>?_);obtain⟨p,ak,l,i,d,t,bX,rfl,aU,aB,aF,q⟩:=h
 refine⟨_,(aI (bM 2 A4.bj aC)
  (aI (ma iB.never rfl (mL rfl nb.kV (aj (ab 1) az)) (d5 (i:=3) A4.bj rfl (by exact Or.inl I))
   (aJ (bM 2 A4.bj (aO el (aO lW aC (ab 2)) (jj hj eF aw (ab 0))))))
  (aJ (bt (ab 2))))),?_⟩
 ac_rfl;refine⟨_,I,_,I,by lia,by lia,?_⟩;refine qu (fun j U ao=>∃z,U=[J (.ref p),J (.int d),J (.int ((kW 1 (((l.map (xor t)).drop i).take j):Nat):Int)),z]/\ao=upd H p (fi C ak l (i+j) t bX)) ?_ ?_ ?_
 .exact⟨ax,I,(BF aU).symm⟩
 ·rintro j U ao b0 ⟨z,rfl,rfl⟩;have Pf:j<d:=by lia
  obtain⟨b,gQ,gF⟩:=get_map (l:=l) (t:=t) (i:=i+j) (by lia);have aj9:=aay (L:=l.map (xor t)) (i:=i) (j:=j) (by rw[cA];lia) gF;refine⟨_,I,.inl ⟨_,_,I,I,.inl ⟨by decide,by decide⟩,_,rfl,p,ak,_,rfl,aG,lJ _ _ _ _ ⋯ ⋯ ⋯,?_⟩⟩;refine⟨p,ak,l,i+j,t,bX,b,I,⟨_,aG⟩,aB,gQ,.inl ⟨_,_,I,I,?_⟩⟩
  have ev:(2:Int)*((kW 1 (((l.map (xor t)).drop i).take j):Nat):Int)+(((t ^^ b).toNat:Nat):Int)=((kW 1 (((l.map (xor t)).drop i).take (j+1)):Nat):Int):=by
   rw[aj9,aaH];show _=((2*kW 1 (((l.map (xor t)).drop i).take j)+(t ^^ b).toNat:Nat):Int);lia
  rw[<-ev];exact⟨_,I,by rw[fW];rfl⟩
 ·rintro U ao ⟨z,rfl,rfl⟩;have e:((d:Nat):Int).toNat=d:=by lia
  rw[e];exact⟨_,I,_,.ins aU (fun b u ag e=>by rw[bC ag];exact e) aG,q⟩
inductive QP(C:af)(vs:List V)(H:al)(Q:bI)(E:cB):Prop where
 |mk (p ak:af) (l:List Bool) (i n:Nat) (t bX:Bool) (aX:vs=[.ref p]) (ai:K6 H p C ak l i t bX) (ar:l.length<=16000000) (bz:i<=l.length) (c0:n+1<2^255) (es:cnt n <+: (l.map (xor t)).drop i) (iN:Q (.int (n:Nat)) (upd H p (fi C ak l (i+(cnt n).length) t bX)))
def YL(wb:hi mg "MOST_AHEAD" (.int 7))(eF:fT K C)(F:dD K mg "draw_count" FQ ["source"] f fd)(hj:gn P w K mg zn 1 C "draw" ["self"] (QV C))(Ag:aY P w K mg zn 2 "draw_lower_digits" ["source","width"] (QT C)):aY P w K mg zn 3 "draw_count" ["source"] (QP C):=by show_term
 refine F.eg AM (fun H vs Q E aw h=>?_);obtain⟨p,ak,l,i,n,t,bX,rfl,⟨z3,aU⟩,aB,aF,aV,hc,q⟩:=h
 refine⟨_,(aI (bM 1 AM.bj aC)
  (aI (qC iB.never (gK.pt (oL (b9 iV (ab 1) (mc wb)) (pS (b9 c6 (jj hj eF aw (ab 0)) aC))))
   (aJ (bM 1 AM.bj (aO el (ab 1) aC))))
  (aI (bM 2 AM.bj (bT Ag aw (aj (ab 0) (aj (ab 1) az))))
  (aJ (bt (aO gc (bT Ag aw (aj (ab 0) (aj (aO gc (ab 2) aC) az))) aC)))))),?_⟩
 ac_rfl;have hd:aD (n+1)<=255:=jl aV;have alE:0<aD (n+1):=oH (by lia);have he:aD (aD (n+1))<=8:=jl (by lia);have bo:0<aD (aD (n+1)):=oH (by lia);have ca:=WW hc (by rw[cA];exact aF);have fits:=ca.fits;have cl:=N5 n;rw[cA]at fits;refine⟨fun m U ao=>∃(j:Nat)(u:Int),j<=aD (aD (n+1))-1/\m=8-j/\U=[J (.ref p),J (.int (j:Nat)),ax]/\(j≠0->u=0)/\ao=upd H p (.ins C ak (gu (aH l) ((i+j:Nat):Int) t bX u)),⟨8,0,z3,UF _,I,I,(fun z=>absurd I z),(BF aU).symm⟩,?_⟩;rintro m U ao ⟨j,u,b0,rfl,rfl,cz,rfl⟩;refine⟨_,I,.inl ⟨_,_,I,I,_,I,?_⟩⟩;have v1:kW 1 (((l.map (xor t)).drop (i+(aD (aD (n+1))-1)+(fF (aD (aD (n+1)))).length)).take (aD (aD (n+1))-1))=aD (n+1):=by rw[ca.size];exact Lk (by lia)
 have v2:kW 1 (((l.map (xor t)).drop (i+(aD (aD (n+1))-1)+(fF (aD (aD (n+1)))).length+(aD (aD (n+1))-1))).take (aD (n+1)-1))=n+1:=by rw[ca.more];exact Lk (by lia)
 have ad:[V.ref p,V.int (((aD (n+1):Nat):Int)-1)]=[.ref p,.int ((aD (n+1)-1:Nat):Int)]:=by
  have:((aD (n+1):Nat):Int)-1=((aD (n+1)-1:Nat):Int):=by lia
  rw[this]
 have Ob:((n+1:Nat):Int)-1=((n:Nat):Int):=by lia
 have ap:i+(aD (aD (n+1))-1)+(fF (aD (aD (n+1)))).length+(aD (aD (n+1))-1)+(aD (n+1)-1)=i+(cnt n).length:=by lia
 refine fl (fun c=>?_) (fun c=>?_)
 ·have aln:j<7:=by lia
  obtain⟨b,gQ,gF⟩:=get_map (l:=l) (t:=t) (i:=i+j) (by have:=U8 (e:=aD (aD (n+1)));lia);refine⟨_,I,p,ak,_,I,aG,lJ _ _ _ _ ⋯ ⋯ ⋯,p,ak,l,i+j,t,bX,b,I,⟨_,aG⟩,aB,gQ,I,_,I,?_⟩;by_cases adZ:j<aD (aD (n+1))-1
  ·have o:=ca.ones j adZ;rw[gF]at o;rw[o];refine hU I ⟨fun b2 H'=>∃bU,bU<8-j/\∃(j':Nat)(u:Int),j'<=aD (aD (n+1))-1/\bU=8-j'/\b2=[J (.ref p),J (.int (j':Nat)),ax]/\(j'≠0->u=0)/\H'=upd H p (.ins C ak (gu (aH l) ((i+j':Nat):Int) t bX u)),fun _ _ h=>h,?_⟩;exact⟨_,I,.inl ⟨_,_,I,I,8-(j+1),by lia,j+1,0,by lia,rfl,rfl,(fun _=>rfl),by rw[fW];rfl⟩⟩
  ·have gx:j=aD (aD (n+1))-1:=by lia
   have o:=ca.zero (by lia);rw[<-gx,gF]at o;rw[o];refine fh (by intro z;cases z) ?_;have qL:(fF (aD (aD (n+1)))).length=1:=by unfold fF;rw[if_neg (by lia)];rfl
   have ex:upd (upd H p (.ins C ak (gu (aH l) ((i+j:Nat):Int) t bX u))) p (.ins C ak (v7 (aH l) ((i+j+1:Nat):Int) t bX))=upd H p (fi C ak l (i+(aD (aD (n+1))-1)+(fF (aD (aD (n+1)))).length) t bX):=by
    rw[fW,qL,<-gx]
   rw[ex,gx];refine⟨_,I,_,I,p,ak,l,i+(aD (aD (n+1))-1)+(fF (aD (aD (n+1)))).length,aD (aD (n+1))-1,t,bX,I,aG,aB,(by lia),?_⟩;rw[v1];refine⟨_,I,_,I,_,_,I,I,p,ak,l,_,aD (n+1)-1,t,bX,ad,aG,aB,(by lia),_,_,I,I,?_⟩;rw[v2,fW,fW,ap];refine⟨_,.ins aU (fun b u ag e=>by rw[bC ag];exact e) aG,?_⟩;dsimp only;rw[Ob];exact q
 ·have gx:j=aD (aD (n+1))-1:=by lia
  have qL:(fF (aD (aD (n+1)))).length=0:=by unfold fF;rw[if_pos (by lia)];rfl
  have adY:j≠0:=by lia
  rw[cz adY]
  have ex:upd H p (fi C ak l (i+j) t bX)=upd H p (fi C ak l (i+(aD (aD (n+1))-1)+(fF (aD (aD (n+1)))).length) t bX):=by
   rw[qL,<-gx];rfl
  rw[ex,gx];refine⟨_,I,_,I,p,ak,l,i+(aD (aD (n+1))-1)+(fF (aD (aD (n+1)))).length,aD (aD (n+1))-1,t,bX,I,aG,aB,(by lia),?_⟩;rw[v1];refine⟨_,I,_,I,_,_,I,I,p,ak,l,_,aD (n+1)-1,t,bX,ad,aG,aB,(by lia),_,_,I,I,?_⟩;rw[v2,fW,fW,ap];refine⟨_,.ins aU (fun b u ag e=>by rw[bC ag];exact e) aG,?_⟩;dsimp only;rw[Ob];exact q
inductive QU(C:af)(vs:List V)(H:al)(Q:bI)(E:cB):Prop where
 |mk (p ak:af) (l:List Bool) (i:Nat) (n:Int) (t bX:Bool) (aX:vs=[.ref p]) (ai:H p=J (fi C ak l i t bX)) (ar:l.length<=16000000) (bz:i<=l.length) (c0:ih n) (es:gY n <+: (l.map (xor t)).drop i) (iN:Q (.int n) (upd H p (fi C ak l (i+(gY n).length) t bX)))
def BQ{b:Bool}(h:(b::r) <+: L.drop i):i<L.length/\L.getD i aE=b/\r <+: L.drop (i+1):=by
 obtain⟨u,e⟩:=h
 have aB:i<L.length:=by
  rcases g5 i L.length with z|z
  .exact z
  .rw[List.drop_eq_nil_of_le z]at e;cases e
 rw[nq aB]at e;have aL:b=L[i]:=(List.cons.inj e).1;refine⟨aB,?_,u,(List.cons.inj e).2⟩;rw[eJ,cI aB,aL];rfl
def YJ(eF:fT K C)(F:dD K mg "draw_whole" FO ["source"] f fd)(hj:gn P w K mg zn 1 C "draw" ["self"] (QV C))(l7:gn P w K mg zn 1 C "turn" ["self"] (R6 C))(pK:aY P w K mg zn 3 "draw_count" ["source"] (QP C)):aY P w K mg zn 4 "draw_whole" ["source"] (QU C):=by
 refine F.eg LS (fun H vs Q E aw h=>?_);obtain⟨p,ak,l,i,n,t,bX,rfl,aU,aB,aF,aV,hc,q⟩:=h
 refine⟨_,(aI (cw (b9 c6 (jj hj eF aw (ab 0)) aC) (aJ (bt (bT pK aw (aj (ab 0) az)))) cx)
  (aI (ik (jj l7 eF aw (ab 0)))
  (aI (bM 1 LS.bj (aO gc (k7 k1 aC) (bT pK aw (aj (ab 0) az))))
  (aI (ik (jj l7 eF aw (ab 0)))
  (aJ (bt (ab 1))))))),?_⟩
 ac_rfl;have nm:∀(z:ae)(i:Int)(t e:Bool){u:Int},(gu z i t e u).lookup ("draw":ae)=ax:=fun _ _ _ _=>lJ _ _ _ _ ⋯ ⋯ ⋯;have ub:∀(z:ae)(i:Int)(t e:Bool){u:Int},(gu z i t e u).lookup ("turn":ae)=ax:=fun _ _ _ _=>lJ _ _ _ _ ⋯ ⋯ ⋯;by_cases c:n<0
 ·obtain⟨m,e,hm,kr⟩:=NT c aV.1;rw[kr]at hc;obtain⟨ai,ar,bz⟩:=BQ hc;rw[cA]at ai;obtain⟨b,gQ,gF⟩:=get_map (l:=l) (t:=t) ai;rw[ar]at gF;refine⟨_,I,p,ak,_,I,aU,nm ..,p,ak,l,i,t,bX,b,I,⟨_,aU⟩,aB,gQ,I,_,I,?_⟩;rw[<-gF];refine fh (by intro z;cases z) ?_;refine⟨_,I,p,ak,_,I,aG,ub ..,p,ak,l,_,_,_,_,I,aG,?_⟩;rw[fW];refine⟨_,I,_,I,p,ak,l,i+1,m,(!t),bX,I,⟨_,aG⟩,aB,(by lia),hm,?_,?_⟩
  .rw[<-L6,<-List.map_drop];exact LO bz
  rw[fW];refine⟨_,_,I,I,?_⟩;refine⟨_,I,p,ak,_,I,aG,ub ..,p,ak,l,_,_,_,_,I,aG,?_⟩;rw[fW,Bool.not_not];refine⟨_,I,_,.ins aU (fun b u ag e=>by rw[bC ag];exact e) aG,?_⟩;have bX:(-1:Int)-(m:Int)=n:=by lia
  have h1:i+1+(cnt m).length=i+(gY n).length:=by rw[kr,eb,cA];lia
  dsimp only;rw[bX,h1];exact q
 ·obtain⟨m,rfl,hm,kr⟩:=NM c aV.2;rw[kr]at hc;obtain⟨ai,ar,bz⟩:=BQ hc;rw[cA]at ai;obtain⟨b,gQ,gF⟩:=get_map (l:=l) (t:=t) ai;rw[ar]at gF;refine⟨_,I,p,ak,_,I,aU,nm ..,p,ak,l,i,t,bX,b,I,⟨_,aU⟩,aB,gQ,I,_,I,?_⟩;rw[<-gF];refine hU I ?_;refine⟨_,I,p,ak,l,i+1,m,t,bX,I,⟨_,aG⟩,aB,(by lia),hm,bz,?_⟩;rw[fW];refine⟨_,.ins aU (fun b u ag e=>by rw[bC ag];exact e) aG,?_⟩;have h1:i+1+(cnt m).length=i+(gY (m:Int)).length:=by rw[kr,eb];lia
  rw[h1];exact q
def nR(l:List Int):(l.map V.int).length=l.length:=cA ..
def w4{n:Nat}(h:n<=100001):n<=cg:=dF h (by decide)
def qG{r:af}(hs:dY H ao)(aw:H r=ax):dY H (upd ao r o):=fun b u e=>by rw[bC (fe e aw)];exact hs b u e
inductive R0(vs:List V)(H:al)(Q:bI)(E:cB):Prop where
 |mk (t:af) (p q:Int) (aX:vs=[.ref t]) (ai:H t=J (.tup [.int p,.int q])) (ar:0<=q) (bz:(fx p q).length<=100000) (c0:(∀x∈fx p q,x.natAbs<2^1000)) (es:∀r,H r=ax->Q (.ref r) (upd H r (.lst ((fx p q).map .int))))
def Zx(F:dD K mg "steps_of" Gd ["fraction"] f fd):aY P w K mg zn 1 "steps_of" ["fraction"] R0:=by
 refine F.eg ta (fun H vs Q E aw h=>?_);obtain⟨t,p,q,rfl,bc,bo,aB,ag,fZ⟩:=h
 refine⟨_,(aI (bM 1 ta.bj (hB az))
  (aI (bM 2 ta.bj (bW bY (ab 0) aC))
  (aI (bM 3 ta.bj (bW bY (ab 0) aC))
  (aI (qC iB.never (b9 sx (ab 3) aC)
   (aI (ik (hZ PySem.F.plainAttrs_list PySem.F.slot_list_append PySem.F.type_list_append qt (ab 1) (aj (aO vI (ab 2) (ab 3)) az)))
   (aI (bM 4 ta.bj (aO dX (ab 2) (ab 3)))
   (aI (bM 2 ta.bj (ab 3))
   (aJ (bM 3 ta.bj (ab 4)))))))
  (aJ (bt (ab 1))))))),?_⟩
 ac_rfl;have a0:ed [V.int p,V.int q] 0=J (.int p):=cT (j:=0) rfl;have a1:ed [V.int p,V.int q] 1=J (.int q):=cT (j:=1) rfl;refine⟨UF _,fun r fH=>?_⟩;have C8:=cE (o:=cX.lst []) fH t _ bc;refine⟨_,I,x0 C8 a0 ⟨_,I,x0 C8 a1 ?_⟩⟩;refine⟨fun m U ao=>∃(d:List Int)(x y:Int)(z:Option V),d++fx x y=fx p q/\0<=y/\m=y.toNat/\U=[J (.ref t),J (.ref r),J (.int x),J (.int y),z]/\ao=upd H r (.lst (d.map .int)),⟨q.toNat,[],p,q,ax,I,bo,I,I,I⟩,?_⟩;rintro m U ao ⟨d,x,y,z,hd,aW,rfl,rfl,rfl⟩;refine⟨_,I,I,_,I,?_⟩;rw[ye];by_cases tX:y=0
 ·subst tX;rw[rO,List.append_nil]at hd;subst hd;refine da ⟨_,I,_,.new fH (cE fH) aG trivial,fZ r fH⟩
 ·have kS:0<y:=by lia
  rw[ni kS]at hd;have IF:x/y∈fx p q:=by rw[<-hd];exact nr _ (eA ..)
  have c1:=congrArg List.length hd;rw[dP,eb]at c1;have eG:(y == 0)=aE:=by simpa using tX
  rw[eG];have cf:=ib x kS;have h5:=hY x tX;refine eP ⟨fun b2 H'=>∃bU,bU<y.toNat/\∃(d:List Int)(x y:Int)(z:Option V),d++fx x y=fx p q/\0<=y/\bU=y.toNat/\b2=[J (.ref t),J (.ref r),J (.int x),J (.int y),z]/\H'=upd H r (.lst (d.map .int)),fun _ _ h=>h,?_⟩;refine⟨_,I,.inl ⟨I,_,ba aG⟩,_,I,_,I,_,_,I,I,⟨kS,.inr (dF (U5 kS (ag _ IF)) (Nat.add_le_add_left (by decide) _))⟩,?_⟩;refine⟨_,_,_,I,I,aG,(by rw[nR];exact fK (show d.length<100001 by lia) (w4 (by decide))),?_⟩;refine⟨_,I,_,I,_,_,I,I,kS,_,I,_,I,?_⟩;refine⟨(x%y).toNat,by lia,d++[x/y],y,x%y,_,?_,h5,rfl,rfl,?_⟩
  .rw[gL];exact hd
  .rw[fW,fP];rfl
inductive QD(vs:List V)(H:al)(Q:bI)(E:cB):Prop where
 |mk (a:af) (s:List Int) (aX:vs=[.ref a]) (ai:H a=J (.lst (s.map .int))) (ar:s.length<=100000) (bz:Q (.aK (qN s)) H)
def ZL(h:s.length<2):qN s=decide (s.length=1):=by unfold qN;rw[if_pos h]
def aam(h:¬s.length<2):qN s=(s.tail.all (fun x=>decide (0<x))&&decide (1<s.getLastD 0)):=by unfold qN;rw[if_neg h]
def GN(h:s≠[]):ed (s.map V.int) (-1)=J (.int (s.getLastD 0)):=by
 rw[List.getLastD_eq_getLast?,List.getLast?_eq_some_getLast h,Option.getD_some]
 conv=>lhs;rw[<-List.dropLast_concat_getLast h,fP]
 exact NF _ _
def Zd(nb:dn mg)(F:dD K mg "are_steps" F4 ["steps"] f fd):aY P w K mg zn 1 "are_steps" ["steps"] QD:=by
 refine F.eg YU (fun H vs Q E aw h=>?_);obtain⟨a,s,rfl,aM,aB,q⟩:=h
 refine⟨_,(aI (cw (b9 iV (b8 dx I nb.dr dv (aj (ab 0) az)) aC) (aJ (bt (fM c6 (b8 dx I nb.dr dv (aj (ab 0) az)) aC))) cx)
  (aJ (bt (il (b8 (tj rfl) rfl nb.tr tq (aj (hO ["step"] [] rfl ⋯ trivial (h4 (lK lX (ab 0) (kL aC) mB)) (d5 (i:=0) (show(["step"]:List ae).Nodup by decide+kernel)) gs (fM kz (ab 0) aC)) az)) (jB (fM kz (bW bY (ab 0) (k7 k1 aC)) aC)))))),?_⟩
 ac_rfl;refine⟨_,I,_,_,I,.inl ⟨_,ba aM,I⟩,.inl ⟨_,_,I,I,_,I,?_⟩⟩;rw[nR];refine fl (fun c=>?_) (fun c=>?_)
 ·refine⟨_,I,_,_,I,.inl ⟨_,ba aM,I⟩,I,H,.refl (c5 _),?_⟩
  have e:decide (V.int ((s.map V.int).length:Nat)=V.int 1)=qN s:=by
   rw[ZL (by lia),nR,ye];apply Bool.eq_iff_iff.mpr;simp;lia
  rw[e];exact q
 ·have hs:s≠[]:=by intro e;subst e;simp at c
  refine .inl ⟨_,I,_,I,.inl ⟨a,_,I,ba aM,fun p aU=>⟨_,I,⟨_,ba aG⟩,fun D c2=>?_⟩⟩⟩;rw[GK,<-List.map_drop]at c2 ⊢;have kA:=cE (o:=cX.lst ((s.drop 1).map V.int)) aU;refine BK (xs:=(s.drop 1).map V.int) (fun x=>match x with|.int i =>.aK (decide (0<i))|_=>x) (fun U=>U.length=1) (by rw[nR,ie];exact fC (by lia)) rfl c2 (ba aG) ?_ ?_
  ·rintro x aq bE H1 df eo R bN;obtain⟨i,_,rfl⟩:=List.mem_map.mp aq;obtain⟨z,rfl⟩:=GU df;exact⟨_,I,_,_,I,I,bN _ I⟩
  ·rw[gg];have lr:=kA.trans (cE (o:=cX.lst ((s.drop 1).map fun i=>V.aK (decide (0<i)))) c2);refine⟨D,(s.drop 1).map fun i=>decide (0<i),I,ba (by rw[aG,gg];rfl),_,I,?_⟩
   have dp:qN s=(((s.drop 1).map fun i=>decide (0<i)).all id&&decide (1<s.getLastD 0)):=by
    rw[aam (by lia),<-List.drop_one,List.all_map];rfl
   cases f9:((s.drop 1).map fun i=>decide (0<i)).all id with
   |false =>
    rw[f9,Bool.false_and]at dp;rw[dp]at q;exact da ⟨H,.refl lr,q⟩
   |true =>
    rw[f9,Bool.true_and]at dp;rw[dp]at q;exact eP ⟨_,I,_,I,xz (lr _ _ aM) (GN hs) ⟨_,_,I,I,H,.refl lr,q⟩⟩
inductive Q2(vs:List V)(H:al)(Q:bI)(E:cB):Prop where
 |mk (a:af) (s:List Int) (aX:vs=[.ref a]) (ai:H a=J (.lst (s.map .int))) (ar:s.length<=1000) (bz:(∀x∈s,x.natAbs<2^1000)) (c0:Good s) (es:∀r,H r=ax->Q (.ref r) (upd H r (.tup [.int (c8 s).1,.int (c8 s).2])))
def abe(aB:s.length<=1000)(ag:∀x∈s,x.natAbs<2^1000):de.Int.intBits (c8 s).1<=2^20/\de.Int.intBits (c8 s).2<=2^20:=by
 obtain⟨ai,ar⟩:=MM ag
 have k:(1000+1)*s.length+1<=2^20:=by
  have:(1000+1)*s.length<=1001*1000:=Nat.mul_le_mul_left _ aB;lia
 exact⟨dF (N8 ai) k,dF (N8 ar) k⟩
def Us{x:V}(h:((s.take (s.length-1)).map V.int)[((s.take (s.length-1)).map V.int).length-1-i]?=J x)(aF:i<s.length-1):∃y,x=.int y/\s.drop (s.length-1-(i+1))=y::s.drop (s.length-1-i)/\y∈s:=by
 have ai:s.length-1-1-i<s.length-1:=Nat.lt_of_le_of_lt (Nat.sub_le ..) (Nat.sub_lt (Nat.lt_of_le_of_lt (UF _) aF) Nat.one_pos);rw[nR,hN,Nat.min_eq_left (Nat.sub_le ..),eD,List.getElem?_take_of_lt ai]at h;have hk:s.length-1-1-i<s.length:=fK ai (Nat.sub_le ..);rw[cI hk]at h;refine⟨_,(gq h).symm,?_,List.getElem_mem hk⟩;have aL:s.length-1-(i+1)=s.length-1-1-i:=by rw[Nat.sub_sub (s.length-1) 1 i,Nat.add_comm 1 i]
 have aS:s.length-1-i=s.length-1-1-i+1:=by rw[<-aL];exact(Nat.sub_add_cancel (Nat.sub_pos_of_lt aF)).symm
 rw[aL,aS];exact nq hk
def abk(h:s≠[]):s.drop (s.length-1)=[s.getLastD 0]:=by
 rw[List.getLastD_eq_getLast?,List.getLast?_eq_some_getLast h,Option.getD_some]
 conv=>lhs;rw[<-List.dropLast_concat_getLast h]
 rw[dP,k5,Nat.add_sub_cancel,List.drop_left]
def Yh(nb:dn mg)(F:dD K mg "fraction_of" Fz ["steps"] f fd)(uS:aY P w K mg zn 1 "are_steps" ["steps"] QD):aY P w K mg zn 2 "fraction_of" ["steps"] Q2:=by
 refine F.eg td (fun H vs Q E aw h=>?_);obtain⟨a,s,rfl,aM,aB,ag,bb,q⟩:=h
 refine⟨_,(aI (cw (iJ (f6 (bT uS aw (aj (ab 0) az)))) (aJ kN) cx)
  (aI (bM 1 td.bj (bW bY (ab 0) (k7 k1 aC)))
  (aI (bM 2 td.bj aC)
  (aI (ma iB.never rfl (Ww rfl nb.aiX (lK lX (ab 0) mB (kL (k7 k1 aC)))) (d5 (i:=3) td.bj rfl (by exact Or.inl I))
   (aI (bM 4 td.bj (ab 1))
   (aI (bM 1 td.bj (aO el (aO Ha (ab 3) (ab 1)) (ab 2)))
   (aJ (bM 2 td.bj (ab 4))))))
  (aJ (bt (jm (aj (ab 1) (aj (ab 2) az))))))))),?_⟩
 ac_rfl;have hs:=bb.ne;have aV:0<s.length:=List.length_pos_iff.mpr hs;refine⟨_,I,a,s,I,aM,by lia,_,rfl,?_⟩;rw[(ML s).mpr bb];refine da ⟨_,I,_,I,xz aM (GN hs) ?_⟩;refine⟨_,I,_,I,_,I,.inl ⟨a,_,I,ba aM,fun p aU=>?_⟩⟩;rw[abp,<-List.map_take,nR];have kA:=cE (o:=cX.lst ((s.take (s.length-1)).map V.int)) aU;refine⟨p,_,I,ba aG,?_⟩;have c1:((s.take (s.length-1)).map V.int).length=s.length-1:=by rw[nR,hN];lia
 refine V8 (fun i U ao=>ao=upd H p (.lst ((s.take (s.length-1)).map V.int))/\∃di dg,U=[J (.ref a),J (.int (c8 (s.drop (s.length-1-i))).1),J (.int (c8 (s.drop (s.length-1-i))).2),di,dg]) ?_ ?_ ?_ ?_
 ·refine⟨I,ax,ax,?_⟩;rw[Nat.sub_zero,abk hs];show _=[_,J (V.int (s.getLastD 0*1+0)),J (V.int 1),_,_];rw[Int.mul_one,Int.add_zero];rfl
 .rintro i U ao aF ⟨rfl,_⟩;exact ba aG
 ·rintro i x U ao aF aq ⟨rfl,di,dg,rfl⟩;rw[c1]at aF;obtain⟨y,rfl,kq,aW⟩:=Us aq aF;have hE:=abe (s:=s.drop (s.length-1-i)) (by rw[ie];lia) fun x aq=>ag x (List.mem_of_mem_drop aq);refine⟨_,I,_,I,_,I,_,_,I,I,⟨dF (N7 (ag y aW)) (by decide),hE.1⟩,_,I,.inl ⟨_,_,I,I,_,I,I,J (.int y),J (.int (c8 (s.drop (s.length-1-i))).1),?_⟩⟩;rw[kq];rfl
 ·rintro U ao ⟨rfl,di,dg,rfl⟩;rw[c1,Nat.sub_self,List.drop_zero];refine⟨_,I,_,I,(by show 2<=cg;decide),fun r fH=>?_⟩;exact⟨_,.new (kA.free fH) (kA.trans (cE fH)) aG trivial,q r (kA.free fH)⟩
noncomputable instance (n:Int):Decidable (ih n):=inferInstanceAs (Decidable (_/\_))
def nj(s:List Int):Prop:=(∀x∈s.take 1,ih x)/\∀x∈s.drop 1,h7 (x-1)
noncomputable instance (s:List Int):Decidable (nj s):=inferInstanceAs (Decidable (_/\_))
inductive Q7(vs:List V)(H:al)(Q:bI)(E:cB):Prop where
 |mk (n:Int) (aX:vs=[.int n]) (ai:Q (.aK (decide (ih n))) H)
def XA(F:dD K mg "has_whole_row" As ["n"] f fd)(ng:aY P w K mg zn 1 "is_count" ["n"] Q9):aY P w K mg zn 2 "has_whole_row" ["n"] Q7:=by
 refine F.eg LG (fun H vs Q E aw h=>?_);obtain⟨n,rfl,q⟩:=h;refine⟨_,(aJ (bt (bT ng aw (aj (nv (b9 Dw (ab 0) aC) (ab 0) (aO gc (k7 k1 aC) (ab 0))) az)))),?_⟩;ac_rfl;refine⟨_,I,_,_,I,I,_,I,?_⟩;refine fl (fun c=>?_) (fun c=>?_)
 ·refine⟨_,I,_,I,H,.refl (c5 _),?_⟩;have e:decide (h7 n)=decide (ih n):=decide_eq_decide.mpr (by unfold h7 ih;lia);rw[e];exact q
 ·refine⟨_,I,_,I,_,_,I,I,_,I,H,.refl (c5 _),?_⟩;have e:decide (h7 (-1-n))=decide (ih n):=decide_eq_decide.mpr (by unfold h7 ih;lia);rw[e];exact q
inductive QI(vs:List V)(H:al)(Q:bI)(E:cB):Prop where
 |mk (p q:Int) (aX:vs=[.int p,.int q]) (ai:0<=q) (ar:Q (.int (e3 p q)) H)
def Xo(F:dD K mg "common_divisor" E0 ["one","other"] f fd):aY P w K mg zn 1 "common_divisor" ["one","other"] QI:=by
 refine F.eg A6 (fun H vs Q E aw h=>?_);obtain⟨p,q,rfl,bo,fZ⟩:=h
 refine⟨_,(aI (qC iB.never (b9 sx (ab 1) aC)
   (aI (bM 2 A6.bj (aO dX (ab 0) (ab 1)))
   (aI (bM 0 A6.bj (ab 1))
   (aJ (bM 1 A6.bj (ab 2))))))
  (aJ (bt (ab 0)))),?_⟩
 ac_rfl;refine⟨fun m U ao=>∃(x y:Int)(z:Option V),e3 x y=e3 p q/\0<=y/\m=y.toNat/\U=[J (.int x),J (.int y),z]/\ao=H,⟨q.toNat,p,q,ax,I,bo,I,I,I⟩,?_⟩;rintro m U ao ⟨x,y,z,hd,aW,rfl,rfl,rfl⟩;refine⟨_,I,I,_,I,?_⟩;rw[ye];by_cases tX:y=0
 ·subst tX;rw[yf]at hd;subst hd;exact da ⟨_,I,ao,.refl (c5 _),fZ⟩
 ·have kS:0<y:=by lia
  rw[Ca kS]at hd;have eG:(y == 0)=aE:=by simpa using tX
  rw[eG];have cf:=ib x kS;have h5:=hY x tX;refine eP ⟨fun b2 H'=>∃bU,bU<y.toNat/\∃(x y:Int)(z:Option V),e3 x y=e3 p q/\0<=y/\bU=y.toNat/\b2=[J (.int x),J (.int y),z]/\H'=ao,fun _ _ h=>h,?_⟩;refine⟨_,I,_,I,_,_,I,I,kS,_,I,_,I,?_⟩;exact⟨(x%y).toNat,by lia,y,x%y,_,hd,h5,rfl,rfl,rfl⟩
inductive Rb(vs:List V)(H:al)(Q:bI)(E:cB):Prop where
 |mk (t:af) (p q:Int) (aX:vs=[.ref t]) (ai:H t=J (.tup [.int p,.int q])) (ar:Q (.aK (decide (0<q/\e3 p q=1))) H)
def Yg(F:dD K mg "is_fraction" Fy ["fraction"] f fd)(Eg:aY P w K mg zn 1 "common_divisor" ["one","other"] QI):aY P w K mg zn 2 "is_fraction" ["fraction"] Rb:=by
 refine F.eg X0 (fun H vs Q E aw h=>?_);obtain⟨t,p,q,rfl,bc,fZ⟩:=h;refine⟨_,(aJ (bt (il (fM kz (bW bY (ab 0) aC) aC) (jB (fM c6 (bT Eg aw (aj (bW bY (ab 0) aC) (aj (bW bY (ab 0) aC) az))) aC))))),?_⟩;ac_rfl;have a0:ed [V.int p,V.int q] 0=J (.int p):=cT (j:=0) rfl;have a1:ed [V.int p,V.int q] 1=J (.int q):=cT (j:=1) rfl;refine⟨_,I,x0 bc a1 ⟨_,_,I,I,_,I,?_⟩⟩;refine fl (fun c=>?_) (fun c=>?_)
 ·refine⟨_,I,x0 bc a0 ⟨_,I,x0 bc a1 ⟨p,q,I,Int.le_of_lt c,I,H,.refl (c5 _),?_⟩⟩⟩;have e:decide (V.int (e3 p q)=V.int 1)=decide (0<q/\e3 p q=1):=decide_eq_decide.mpr ⟨fun z=>⟨c,V.int.inj z⟩,fun z=>congrArg V.int z.2⟩;rw[e];exact fZ
 ·refine⟨H,.refl (c5 _),?_⟩;rw[fL (fun z=>c z.1)]at fZ;exact fZ
inductive Q4(vs:List V)(H:al)(Q:bI)(E:cB):Prop where
 |mk (t:af) (p q:Int) (aX:vs=[.ref t]) (ai:H t=J (.tup [.int p,.int q])) (ar:(0<q->(fx p q).length<=100000/\∀x∈fx p q,x.natAbs<2^1000)) (bz:Q (.aK (decide (0<q/\e3 p q=1/\nj (fx p q)))) H)
def Xf(nb:dn mg)(F:dD K mg "has_fraction_row" EM ["fraction"] f fd)(Ek:aY P w K mg zn 2 "is_fraction" ["fraction"] Rb)(rx:aY P w K mg zn 1 "steps_of" ["fraction"] R0)(sR:aY P w K mg zn 2 "has_whole_row" ["n"] Q7)(ng:aY P w K mg zn 1 "is_count" ["n"] Q9):aY P w K mg zn 3 "has_fraction_row" ["fraction"] Q4:=by
 refine F.eg LC (fun H vs Q E aw h=>?_);obtain⟨t,p,q,rfl,bc,ag,fZ⟩:=h
 refine⟨_,(aI (cw (iJ (f6 (bT Ek aw (aj (ab 0) az)))) (aJ (bt jf)) cx)
  (aI (bM 1 LC.bj (bT rx aw (aj (ab 0) az)))
  (aJ (bt (il (bT sR aw (aj (bW bY (ab 1) aC) az)) (jB (b8 (tj rfl) rfl nb.tr tq (aj (hO ["step"] [] rfl ⋯ trivial (h4 (lK lX (ab 1) (kL aC) mB)) (d5 (i:=0) (show(["step"]:List ae).Nodup by decide+kernel)) gs (bT ng aw (aj (aO gc (ab 0) aC) az))) az)))))))),?_⟩
 ac_rfl;refine⟨_,I,t,p,q,I,bc,_,I,?_⟩;by_cases aA:0<q/\e3 p q=1
 ·rw[eT aA];obtain⟨aB,bV⟩:=ag aA.1;refine da ⟨_,I,t,p,q,I,bc,Int.le_of_lt aA.1,aB,bV,fun r fH=>?_⟩;have kA:=cE (o:=cX.lst ((fx p q).map V.int)) fH;obtain⟨a,aZ,he⟩:∃a aZ,fx p q=a::aZ:=⟨_,_,ni aA.1⟩;rw[he]at fZ kA aB ⊢;have a0:ed ((a::aZ).map V.int) 0=J (.int a):=cT (j:=0) rfl;refine⟨_,I,xz aG a0 ⟨a,I,_,I,?_⟩⟩;refine fl (fun c=>?_) (fun c=>?_)
  ·refine .inl ⟨_,I,_,I,.inl ⟨r,_,I,ba aG,fun g bb=>⟨_,I,⟨_,ba aG⟩,fun D c2=>?_⟩⟩⟩;rw[GK,<-List.map_drop]at c2 ⊢;have lr:=kA.trans (cE (o:=cX.lst (((a::aZ).drop 1).map V.int)) bb);refine BK (xs:=((a::aZ).drop 1).map V.int) (fun x=>match x with|.int i =>.aK (decide (h7 (i-1)))|_=>x) (fun U=>U.length=1) (by rw[nR,ie];exact fC (by lia)) rfl c2 (ba aG) ?_ ?_
   ·rintro x aq bE H1 df eo R bN;obtain⟨i,_,rfl⟩:=List.mem_map.mp aq;obtain⟨z,rfl⟩:=GU df;exact⟨_,I,_,_,I,I,_,I,bN _ I⟩
   ·rw[gg];have sG:=lr.trans (cE (o:=cX.lst (((a::aZ).drop 1).map fun i=>V.aK (decide (h7 (i-1))))) c2);refine⟨D,((a::aZ).drop 1).map fun i=>decide (h7 (i-1)),I,ba (by rw[aG,gg];rfl),H,.refl sG,?_⟩
    have e:(((a::aZ).drop 1).map fun i=>decide (h7 (i-1))).all id=decide (0<q/\e3 p q=1/\nj (a::aZ)):=by
     rw[List.all_map];apply Bool.eq_iff_iff.mpr;rw[ig,kn];constructor
     ·intro h;refine⟨aA.1,aA.2,fun x aq=>?_,fun x aq=>hX (h x aq)⟩;rw[ft.mp aq];exact c
     ·intro h x aq;exact eT (h.2.2.2 x aq)
    rw[e];exact fZ
  ·refine⟨H,.refl kA,?_⟩;rw[fL (fun z=>c (z.2.2.1 a (ft.mpr rfl)))]at fZ;exact fZ
 ·rw[fL aA];refine eP ⟨H,.refl (c5 _),?_⟩;rw[fL (fun z=>aA ⟨z.1,z.2.1⟩)]at fZ;exact fZ
inductive RM(vs:List V)(H:al)(Q:bI)(E:cB):Prop where
 |mk (a:af) (s:List Int) (aX:vs=[.ref a]) (ai:H a=J (.lst (s.map .int))) (ar:s≠[]) (bz:s.length<=10000) (c0:nj s) (es:Q (.str (aH (jP s))) H)
def aaK{x:Int}{b:Bool}(h:if k=0 then ih x else h7 (x-1)):(iz k x b).length<=271:=by
 unfold iz;rw[cA,dP,k5];by_cases hk:k=0
 ·rw[if_pos hk]at h ⊢;have:=Mk h.1 h.2;lia
 ·rw[if_neg hk]at h ⊢;have:=BX (n:=(x-1).toNat) (by unfold h7 at h;lia);lia
def nj.at{x:Int}(h:nj s)(aq:s[i]?=J x):if i=0 then ih x else h7 (x-1):=by
 match s,i,aq with
 |a::r,0,aq=>cases aq;exact h.1 x (ft.mpr I)
 |a::r,i+1,aq=>exact h.2 x (eY aq)
def Vo{l:List (List Bool)}(h:∀p∈l,p.length<=271):((l.map aH).map (·.length)).sum<=271*l.length:=by
 induction l with
 |nil=>exact UF _
 |cons p r bK =>
  rw[fB,fB,List.sum_cons,eb,dG];have:=h p (eA ..);have:=bK fun q bo=>h q (dw _ bo);lia
def BG(x:List Bool)(b:Bool):aH x++aH [b]=aH (x++[b]):=by rw[j2]
def XS(nb:dn mg)(F:dD K mg "row_of_steps" Fn ["steps"] f fd)(ry:aY P w K mg zn 3 "whole_row" ["n"] LI)(l3:aY P w K mg zn 2 "count_row" ["n"] QM)(ot:aY P w K mg zn 1 "turned_row" ["row"] LB):aY P w K mg zn 4 "row_of_steps" ["steps"] RM:=by show_term
 refine F.eg tc (fun H vs Q E aw h=>?_);obtain⟨a,s,rfl,aM,mY,aB,bN,q⟩:=h
 refine⟨_,(aI (bM 1 tc.bj (aO gc (b8 dx I nb.dr dv (aj (ab 0) az)) aC))
  (aI (bM 2 tc.bj (hB az))
  (aI (ma iB.never rfl (VC rfl nb.acm (ab 0)) (oM rfl (jk (d5 (i:=3) tc.bj rfl (by exact Or.inl I)) (jk (d5 (i:=4) tc.bj rfl (by exact Or.inl I)) oy)))
   (aI (bM 5 tc.bj (nv (b9 c6 (ab 3) aC) (bT ry aw (aj (ab 4) az)) (bT l3 aw (aj (aO gc (ab 4) aC) az))))
   (aI (bM 5 tc.bj (aO el (ab 5) (nv (b9 c6 (ab 3) (ab 1)) cY cY)))
   (aJ (ik (hZ PySem.F.plainAttrs_list PySem.F.slot_list_append PySem.F.type_list_append qt (ab 2) (aj (nv (b9 c6 (aO dX (ab 3) aC) aC) (bT ot aw (aj (ab 5) az)) (ab 5)) az)))))))
  (aJ (bt (hZ PySem.F.plainAttrs_str PySem.F.slot_str_join PySem.F.type_str_join tm cY (aj (ab 2) az))))))),?_⟩
 ac_rfl;refine⟨_,I,_,_,I,.inl ⟨_,ba aM,I⟩,_,_,I,I,UF _,fun r fH=>?_⟩;have sB:=cE (o:=cX.lst []) fH;refine⟨_,I,a,_,I,ba (sB _ _ aM),?_⟩;refine UX (xs:=s.map V.int) (fun i U ao=>dY H ao/\ao r=J (.lst (((hu 0 s).take i).map (fun p=>V.str (aH p))))/\∃di dg gS,U=[J (.ref a),J (.int ((s.length:Nat)-1:Int)),J (.ref r),di,dg,gS]) ?_ ?_ ?_ ?_
 .exact⟨sB,aG,ax,ax,ax,by dsimp only;rw[nR];rfl⟩
 .rintro i U ao aF ⟨hs,_⟩;exact ba (hs _ _ aM)
 ·rintro i akm U ao T aq cc ⟨hs,hQ,di,dg,gS,rfl⟩
  obtain⟨x,sf,rfl⟩:∃x,s[i]?=J x/\akm=.int x:=by
   rw[eD]at aq;cases h:s[i]? with
   |none=>rw[h]at aq;cases aq
   |some y=>rw[h]at aq;exact⟨y,I,(gq aq).symm⟩
  have aF:i<s.length:=(gr.mp sf).1;have gy:=bN.at sf;have y3:=NO (k:=0) sf;rw[Nat.zero_add]at y3;have ff:=hs.trans (cE (o:=cX.tup [V.int ((i:Nat):Int),V.int x]) cc);have nB:=cE (o:=cX.tup [V.int ((i:Nat):Int),V.int x]) cc _ _ hQ;refine⟨T,_,I,cC aG,I,_,_,I,_,_,I,I,?_⟩;refine⟨_,I,I,_,I,?_⟩;by_cases yW:i=0
  ·rw[if_pos yW]at gy;have eV:decide (V.int ((i:Nat):Int)=V.int 0)=ah:=eT (congrArg V.int (by lia));rw[eV];refine eP ⟨_,I,x,I,gy,_,I,_,I,_,I,I,_,I,?_⟩;obtain⟨fJ,rR⟩:∃fJ,fJ=gY x:=⟨_,rfl⟩;have ex:(if i=0 then gY x else cnt (x-1).toNat)=fJ:=by rw[if_pos yW,rR]
   have zp:fJ.length<=270:=by rw[rR];exact Mk gy.1 gy.2
   rw[<-rR];have nQ:(fJ++[!decide (i+1=s.length)]).length<=271:=by rw[dP,k5];lia
   refine fl (fun iK=>?_) (fun iK=>?_)
   ·
    have h1:i+1=s.length:=by have:=V.int.inj iK;lia
    have eG:[!decide (i+1=s.length)]=[aE]:=by rw[eT h1];rfl
    refine .inr ⟨_,_,I,I,(by rw[s0,dG,dG];exact fC (by rw[k5];lia)),?_⟩;rw[s0,BG,<-eG];refine⟨_,I,.inl ⟨I,_,ba nB⟩,_,I,_,_,I,I,(by show(0:Int)<2;decide),I,_,I,?_⟩;have oW:∀z:List V,z=((hu 0 s).take i).map (fun p=>V.str (aH p))->z.length<cg:=fun z bV=>by rw[bV,cA,hN];exact fK (show min i (hu 0 s).length<100001 by lia) (w4 (by decide))
    have dp:∀p:List Bool,p=iz i x (decide (i+1=s.length))->((hu 0 s).take i).map (fun p=>V.str (aH p))++[V.str (aH p)]=((hu 0 s).take (i+1)).map (fun p=>V.str (aH p)):=fun p aU=>by rw[iG,y3,fP,aU];rfl
    refine fl (fun hP=>?_) (fun hP=>?_)
    ·have aN:odd i=ah:=eT (by have:=V.int.inj hP;lia);refine⟨_,I,_,I,by lia,?_⟩;refine⟨_,_,_,I,I,nB,oW _ I,?_⟩;rw[dp _ (by unfold iz;rw[aN,ex];exact nu fun b _=>by cases b<;>rfl)];exact⟨qG ff fH,aG,_,_,_,I⟩
    ·have aN:odd i=aE:=fL (fun z=>hP (congrArg V.int (by lia)));refine⟨_,I,?_⟩;refine⟨_,_,_,I,I,nB,oW _ I,?_⟩;rw[dp _ (by unfold iz;rw[aN,ex,vK])];exact⟨qG ff fH,aG,_,_,_,I⟩
   ·have h1:¬i+1=s.length:=fun z=>iK (congrArg V.int (by lia));have eG:[!decide (i+1=s.length)]=[ah]:=by rw[fL h1];rfl
    refine .inr ⟨_,_,I,I,(by rw[s1,dG,dG];exact fC (by rw[k5];lia)),?_⟩;rw[s1,BG,<-eG];refine⟨_,I,.inl ⟨I,_,ba nB⟩,_,I,_,_,I,I,(by show(0:Int)<2;decide),I,_,I,?_⟩;have oW:∀z:List V,z=((hu 0 s).take i).map (fun p=>V.str (aH p))->z.length<cg:=fun z bV=>by rw[bV,cA,hN];exact fK (show min i (hu 0 s).length<100001 by lia) (w4 (by decide))
    have dp:∀p:List Bool,p=iz i x (decide (i+1=s.length))->((hu 0 s).take i).map (fun p=>V.str (aH p))++[V.str (aH p)]=((hu 0 s).take (i+1)).map (fun p=>V.str (aH p)):=fun p aU=>by rw[iG,y3,fP,aU];rfl
    refine fl (fun hP=>?_) (fun hP=>?_)
    ·have aN:odd i=ah:=eT (by have:=V.int.inj hP;lia);refine⟨_,I,_,I,by lia,?_⟩;refine⟨_,_,_,I,I,nB,oW _ I,?_⟩;rw[dp _ (by unfold iz;rw[aN,ex];exact nu fun b _=>by cases b<;>rfl)];exact⟨qG ff fH,aG,_,_,_,I⟩
    ·have aN:odd i=aE:=fL (fun z=>hP (congrArg V.int (by lia)));refine⟨_,I,?_⟩;refine⟨_,_,_,I,I,nB,oW _ I,?_⟩;rw[dp _ (by unfold iz;rw[aN,ex,vK])];exact⟨qG ff fH,aG,_,_,_,I⟩
  ·rw[if_neg yW]at gy;have eV:decide (V.int ((i:Nat):Int)=V.int 0)=aE:=fL (fun z=>yW (by have:=V.int.inj z;lia));rw[eV];have ald:=gy.1;have p6:=gy.2;refine da ⟨_,I,_,_,I,I,(x-1).toNat,(congrArg (fun y=>[V.int y]) (by lia)),(by lia),_,I,_,I,_,I,I,_,I,?_⟩;obtain⟨fJ,rR⟩:∃fJ,fJ=cnt (x-1).toNat:=⟨_,rfl⟩;have ex:(if i=0 then gY x else cnt (x-1).toNat)=fJ:=by rw[if_neg yW,rR]
   have zp:fJ.length<=270:=by rw[rR];have:=BX (n:=(x-1).toNat) (by lia);lia
   rw[<-rR];have nQ:(fJ++[!decide (i+1=s.length)]).length<=271:=by rw[dP,k5];lia
   refine fl (fun iK=>?_) (fun iK=>?_)
   ·
    have h1:i+1=s.length:=by have:=V.int.inj iK;lia
    have eG:[!decide (i+1=s.length)]=[aE]:=by rw[eT h1];rfl
    refine .inr ⟨_,_,I,I,(by rw[s0,dG,dG];exact fC (by rw[k5];lia)),?_⟩;rw[s0,BG,<-eG];refine⟨_,I,.inl ⟨I,_,ba nB⟩,_,I,_,_,I,I,(by show(0:Int)<2;decide),I,_,I,?_⟩;have oW:∀z:List V,z=((hu 0 s).take i).map (fun p=>V.str (aH p))->z.length<cg:=fun z bV=>by rw[bV,cA,hN];exact fK (show min i (hu 0 s).length<100001 by lia) (w4 (by decide))
    have dp:∀p:List Bool,p=iz i x (decide (i+1=s.length))->((hu 0 s).take i).map (fun p=>V.str (aH p))++[V.str (aH p)]=((hu 0 s).take (i+1)).map (fun p=>V.str (aH p)):=fun p aU=>by rw[iG,y3,fP,aU];rfl
    refine fl (fun hP=>?_) (fun hP=>?_)
    ·have aN:odd i=ah:=eT (by have:=V.int.inj hP;lia);refine⟨_,I,_,I,by lia,?_⟩;refine⟨_,_,_,I,I,nB,oW _ I,?_⟩;rw[dp _ (by unfold iz;rw[aN,ex];exact nu fun b _=>by cases b<;>rfl)];exact⟨qG ff fH,aG,_,_,_,I⟩
    ·have aN:odd i=aE:=fL (fun z=>hP (congrArg V.int (by lia)));refine⟨_,I,?_⟩;refine⟨_,_,_,I,I,nB,oW _ I,?_⟩;rw[dp _ (by unfold iz;rw[aN,ex,vK])];exact⟨qG ff fH,aG,_,_,_,I⟩
   ·have h1:¬i+1=s.length:=fun z=>iK (congrArg V.int (by lia));have eG:[!decide (i+1=s.length)]=[ah]:=by rw[fL h1];rfl
    refine .inr ⟨_,_,I,I,(by rw[s1,dG,dG];exact fC (by rw[k5];lia)),?_⟩;rw[s1,BG,<-eG];refine⟨_,I,.inl ⟨I,_,ba nB⟩,_,I,_,_,I,I,(by show(0:Int)<2;decide),I,_,I,?_⟩;have oW:∀z:List V,z=((hu 0 s).take i).map (fun p=>V.str (aH p))->z.length<cg:=fun z bV=>by rw[bV,cA,hN];exact fK (show min i (hu 0 s).length<100001 by lia) (w4 (by decide))
    have dp:∀p:List Bool,p=iz i x (decide (i+1=s.length))->((hu 0 s).take i).map (fun p=>V.str (aH p))++[V.str (aH p)]=((hu 0 s).take (i+1)).map (fun p=>V.str (aH p)):=fun p aU=>by rw[iG,y3,fP,aU];rfl
    refine fl (fun hP=>?_) (fun hP=>?_)
    ·have aN:odd i=ah:=eT (by have:=V.int.inj hP;lia);refine⟨_,I,_,I,by lia,?_⟩;refine⟨_,_,_,I,I,nB,oW _ I,?_⟩;rw[dp _ (by unfold iz;rw[aN,ex];exact nu fun b _=>by cases b<;>rfl)];exact⟨qG ff fH,aG,_,_,_,I⟩
    ·have aN:odd i=aE:=fL (fun z=>hP (congrArg V.int (by lia)));refine⟨_,I,?_⟩;refine⟨_,_,_,I,I,nB,oW _ I,?_⟩;rw[dp _ (by unfold iz;rw[aN,ex,vK])];exact⟨qG ff fH,aG,_,_,_,I⟩
 ·rintro U ao ⟨hs,hQ,di,dg,gS,rfl⟩;have jo:(hu 0 s).take (s.map V.int).length=hu 0 s:=by rw[nR,<-Gn 0 s,List.take_length]
  rw[jo]at hQ;obtain⟨a0,DD,rfl⟩:=List.exists_cons_of_ne_nil mY
  have c1:∀p∈hu 0 (a0::DD),p.length<=271:=fun p aU=>by
   obtain⟨i,aF,rfl⟩:=List.mem_iff_getElem.mp aU;have tQ:i<(a0::DD).length:=by rw[<-Gn 0 (a0::DD)];exact aF
   have bb:=NO (k:=0) (cI tQ);rw[cI aF,Nat.zero_add]at bb;rw[gq bb];exact aaK (bN.at (cI tQ))
  refine⟨I,_,I,_,r,(hu 0 (a0::DD)).map aH,I,I,ba (by rw[hQ,gg];rfl),?_,H,.refl hs,?_⟩
  ·have:=Vo c1;have eV:(ae.ofString "").length=0:=⋯;rw[eV,Nat.mul_zero,Nat.add_zero];rw[Gn]at this;lia
  .rw[rC,VH];exact q
inductive QJ(K:bS)(vs:List V)(H:al)(Q:bI)(E:cB):Prop where
 |mk (a:af) (ns:List Int) (k:Nat) (aX:vs=[.ref a,.int k]) (ai:cZ K H a (ns.map V.int)) (ar:ns.length<=63) (bz:Q (.int (ns.getD k 0)) H)
def Yf(nb:dn mg)(F:dD K mg "_law_cell_at" Fx ["_law_script","_law_k"] f fd):aY P w K mg zn 1 "_law_cell_at" ["_law_script","_law_k"] (QJ K):=by
 refine F.eg XZ (fun H vs Q E aw h=>?_);obtain⟨a,ns,k,rfl,df,aB,q⟩:=h
 refine⟨_,(aI (cw (b9 iV (ab 1) (b8 dx I nb.dr dv (aj (ab 0) az))) (aJ (bt (bW bY (ab 0) (ab 1)))) cx)
  (aJ (bt aC))),?_⟩
 ac_rfl;refine⟨_,I,_,I,_,_,I,.inl ⟨_,df,I⟩,.inl ⟨_,_,I,I,_,I,?_⟩⟩;rw[cA];refine fl (fun c=>?_) (fun c=>?_)
 ·have hk:k<ns.length:=by lia
  refine⟨_,I,_,I,.inl (.inl ⟨_,_,_,_,I,I,df,cT (by rw[eD,cI hk];rfl),H,.refl (c5 _),?_⟩)⟩;have e:ns.getD k 0=ns[k]:=by rw[eJ,cI hk];rfl
  rw[<-e];exact q
 ·have e:ns.getD k 0=0:=by rw[eJ,vz (by lia)];rfl
  rw[e]at q;exact⟨H,.refl (c5 _),q⟩
def B9:1<=cg:=by decide
inductive Rk(vs:List V)(H:al)(Q:bI)(E:cB):Prop where
 |mk (t s:ae) (aX:vs=[.str t,.str s]) (ai:t.length<=1000) (ar:Q (.aK (js t s)) H)
def aab(nb:dn mg)(F:dD K mg "made_of" Gx ["text","signs"] f fd):aY P w K mg zn 1 "made_of" ["text","signs"] Rk:=by
 refine F.eg Z2 (fun H vs Q E aw h=>?_);obtain⟨t,cu,rfl,bc,q⟩:=h;refine⟨_,(aJ (bt (b8 (tj I) I nb.tr tq (aj (hO ["sign"] [(1,"signs")] I ⋯ ⟨I,.inl I,trivial⟩ (h4 (ab 0)) (d5 (i:=0) (show(["sign","signs"]:List ae).Nodup by decide+kernel)) gs (G9 aaV (ab 0) (ab 1) (by with_unfolding_all rfl))) az)))),?_⟩;ac_rfl;refine .inr ⟨_,I,t,I,fun D c2=>?_⟩;refine BW (fun c =>.aK (decide (c∈cu.cps.toList))) (fun U=>∃z,U=[z,J (.str cu)]) (fC (by show t.length<=_;lia)) ⟨_,I⟩ c2 ?_ ?_
 ·rintro c hc bE H1 ⟨z,rfl⟩ hs R bN;refine⟨_,I,_,I,_,_,I,I,?_⟩;rw[StrLaws.found_one];exact bN _ ⟨_,I⟩
 ·refine⟨D,t.cps.toList.map fun c=>decide (c∈cu.cps.toList),I,?_,H,.refl (cE c2),?_⟩
  .rw[gg];exact ba aG
  .rw[List.all_map];exact q
inductive Rd(vs:List V)(H:al)(Q:bI)(E:cB):Prop where
 |mk (n:ae) (aX:vs=[.str n]) (ai:n.length<=1000) (ar:Q (.aK (isName n)) H)
def aac(nb:dn mg)(HU:hi mg "LONGEST_NAME" (.int 12))(HZ:hi mg "SMALL_LETTERS" (.str kG))(F:dD K mg "is_name" Gy ["name"] f fd)(oq:aY P w K mg zn 1 "made_of" ["text","signs"] Rk):aY P w K mg zn 2 "is_name" ["name"] Rd:=by
 refine F.eg Z3 (fun H vs Q E aw h=>?_);obtain⟨n,rfl,aV,q⟩:=h;refine⟨_,(aJ (bt (il (fM iV aC (b8 dx I nb.dr dv (aj (ab 0) az))) (il (fM uc (b8 dx I nb.dr dv (aj (ab 0) az)) (mc HU)) (jB (bT oq aw (aj (ab 0) (aj (mc HZ) az)))))))),?_⟩;ac_rfl;have ln:n.length<=cg:=fC (by lia);unfold isName at q;refine⟨_,I,_,_,I,⟨ln,I⟩,.inl ⟨_,_,I,I,_,I,?_⟩⟩;refine fl (fun eE=>?_) (fun eE=>?_)
 ·refine⟨_,I,_,_,I,⟨ln,I⟩,_,_,I,I,_,I,?_⟩;refine fl (fun iK=>?_) (fun iK=>?_)
  ·refine⟨_,I,n,kG,I,aV,H,.refl (c5 _),?_⟩;rw[eT ⟨by lia,by lia⟩,Bool.true_and]at q;exact q
  ·rw[fL (fun z=>iK (by lia)),Bool.false_and]at q;exact⟨H,.refl (c5 _),q⟩
 ·rw[fL (fun z=>eE (by lia)),Bool.false_and]at q;exact⟨H,.refl (c5 _),q⟩
structure Parts(H:al)(p:af)(aQ:List (af×ae×af)):Prop where
 l:H p=J (.lst (aQ.map fun x=>V.ref x.1))
 t:∀x,x∈aQ->H x.1=J (.tup [.str x.2.1,.ref x.2.2])
 n:aQ.length<=30
 b:∀x,x∈aQ->x.2.1.length<=100
noncomputable def hJ(aQ:List (af×ae×af)):List ae:=aQ.map fun x=>x.2.1
noncomputable def i3(aQ:List (af×ae×af)):List af:=aQ.map fun x=>x.2.2
def Parts.same{aQ:List (af×ae×af)}(h:Parts H p aQ)(s:dY H H'):Parts H' p aQ:=⟨s _ _ h.l,fun x aq=>s _ _ (h.t x aq),h.n,h.b⟩
inductive Ro(vs:List V)(H:al)(Q:bI)(E:cB):Prop where
 |mk (p aQ:_) (aX:vs=[.ref p]) (ai:Parts H p aQ) (ar:lP (hJ aQ)=ah) (bz:∀D,H D=ax->Q (.ref D) (upd H D (.lst ((hJ aQ).map V.str))))
def ZB(nb:dn mg)(HW:hi mg "MOST_PARTS" (.int 20))(F:dD K mg "names_of" Gf ["parts"] f fd)(El:aY P w K mg zn 2 "is_name" ["name"] Rd):aY P w K mg zn 3 "names_of" ["parts"] Ro:=by
 refine F.eg L9 (fun H vs Q E aw h=>?_);obtain⟨p,aQ,rfl,cV,bb,q⟩:=h
 refine⟨_,(aI (pR (i:=1)  ["part"] [] L9.bj I I I ⋯ trivial (h4 (ab 0)) (d5 (i:=0) (show(["part"]:List ae).Nodup by decide+kernel)) gs (bW bY (ab 0) aC))
  (aI (cw (gK.pt (lL (b9 c6 (b8 dx rfl nb.dr dv (aj (ab 1) az)) aC) (l9 (b9 kz (b8 dx rfl nb.dr dv (aj (ab 1) az)) (mc HW))))) (aJ kN) cx)
  (aI (cw (b9 iV (MC rfl rfl nb.dr rfl nb.Qu (ab 1)) (b8 dx rfl nb.dr dv (aj (ab 1) az))) (aJ kN) cx)
  (aI (cw (iJ (f6 (b8 (tj rfl) rfl nb.tr tq (aj (hO ["name"] [] rfl ⋯ trivial (h4 (ab 1)) (d5 (i:=0) (show(["name"]:List ae).Nodup by decide+kernel)) gs (bT El aw (aj (ab 0) az))) az)))) (aJ kN) cx)
  (aJ (bt (ab 1))))))),?_⟩
 ac_rfl;refine .inl ⟨_,I,p,I,⟨_,ba cV.l⟩,fun D c2=>?_⟩;refine xR (K:=K) (a:=p) (xs:=aQ.map fun x=>V.ref x.1) (fun i=>V.str ((hJ aQ).getD i ae.empty)) (fun U=>∃z,U=[z]) (by rw[cA];exact fC (by have:=cV.n;lia)) ⟨_,I⟩ c2 (ba cV.l) ?_ ?_
 ·rintro i x aq bE H1 ⟨z,rfl⟩ eo R bN;rw[eD]at aq;obtain⟨y,aW,rfl⟩:=Uf.mp aq;have hm:=eY aW;have e:(hJ aQ).getD i ae.empty=y.2.1:=by unfold hJ;rw[eJ,eD,aW];rfl
  rw[e]at bN;exact⟨_,I,x0 (eo _ _ (cV.t y hm)) (cT (j:=0) I) (bN _ ⟨_,I⟩)⟩
 have bX:(List.range (aQ.map fun x=>V.ref x.1).length).map (fun i=>V.str ((hJ aQ).getD i ae.empty))=(hJ aQ).map V.str:=by
  have aX:=Me (hJ aQ);rw[show(aQ.map fun x=>V.ref x.1).length=(hJ aQ).length by unfold hJ;rw[cA,cA]];exact aX
 rw[bX];have alp:(hJ aQ).length<=30:=by unfold hJ;rw[cA];exact cV.n
 have wh:cZ K (upd H D (.lst ((hJ aQ).map V.str))) D ((hJ aQ).map V.str):=ba aG;have eB:=WT (hJ aQ);unfold lP at bb;refine⟨_,I,_,_,I,.inl ⟨_,wh,I⟩,I,_,I,?_⟩;rw[cA];simp only[g4,kn]at bb;obtain⟨⟨aX,qO,hd⟩,f9⟩:=bb;refine fh (fun z=>aX (by have:=V.int.inj z;lia)) ⟨_,I,_,_,I,.inl ⟨_,wh,I⟩,_,_,I,I,_,I,fh (by rw[cA];lia) ?_⟩;refine⟨_,I,_,_,Zo wh,(by unfold scanBound;lia),_,I,_,_,I,.inl ⟨_,wh,I⟩,.inl ⟨_,_,I,I,_,I,fh (by rw[cA];show ¬(((Cj (hJ aQ):Nat):Int)<_);lia) ?_⟩⟩;refine .inl ⟨_,I,D,I,⟨_,wh⟩,fun gC hR=>?_⟩;have kt:upd H D (.lst ((hJ aQ).map V.str)) D=J (.lst ((hJ aQ).map V.str)):=aG;refine BK (K:=K) (a:=D) (xs:=(hJ aQ).map V.str) (fun x=>match x with|.str n =>.aK (isName n)|_ =>.bf) (fun U=>∃z,U=[z]) (by rw[cA];exact fC (by lia)) ⟨_,rfl⟩ hR wh ?_ ?_
 ·rintro x aq bE H1 ⟨z,rfl⟩ eo R bN;obtain⟨n,aV,rfl⟩:=List.mem_map.mp aq;obtain⟨y,aW,rfl⟩:=List.mem_map.mp aV;have:=cV.b y aW;exact⟨_,I,_,I,by lia,bN _ ⟨_,rfl⟩⟩
 ·rw[gg];refine⟨gC,(hJ aQ).map isName,I,?_,_,I,?_⟩
  .rw[gg];exact ba aG
  rw[List.all_map,show(id ∘ isName)=isName from rfl,f9];exact da ⟨_,I,_,.new (o:=cX.lst ((hJ aQ).map V.str)) c2 ((cE c2).trans (cE hR)) (by rw[bC (fun z=>by rw[<-z,kt]at hR;cases hR)];exact aG) trivial,q D c2⟩
structure vy(K:bS)(C:af):Prop where
 cl:fT K C
 wX:jL K C "low"
 Dm:jL K C "high"
structure s6(K:bS)(C:af):Prop where
 cl:fT K C
 pd:jL K C "signs"
structure oB(K:bS)(C:af):Prop where
 cl:fT K C
 sq:jL K C "names"
 lV:jL K C "forms"
def afo:¬(("low":ae)="high"):=⋯
def af4:¬(("names":ae)="forms"):=⋯
def Vz(v:V):fg "low" v []=([("low",v)]:List (ae×V)):=rfl
def UC(v w:V):fg "high" w ([("low",v)]:List (ae×V))=([("low",v),("high",w)]:List (ae×V)):=by simp only[fg,afo,if_false]
def Z5(v:V):fg "signs" v []=([("signs",v)]:List (ae×V)):=rfl
def Mz(v:V):fg "names" v []=([("names",v)]:List (ae×V)):=rfl
def MA(v w:V):fg "forms" w ([("names",v)]:List (ae×V))=([("names",v),("forms",w)]:List (ae×V)):=by simp only[fg,af4,if_false]
def ix(k:ae)(v:V)(r:List (ae×V)):((k,v)::r).lookup k=J v:=by simp[List.lookup]
def qe(k jS:ae)(v w:V)(h:(jS == k)=aE):([(k,v),(jS,w)]:List (ae×V)).lookup jS=J w:=by simp[List.lookup,h]
def Iv:(("high":ae) == "low")=aE:=⋯
def tD:(("forms":ae) == "names")=aE:=⋯
noncomputable def Sf(a b:Int):List (ae×V):=[("low",.int a),("high",.int b)]
noncomputable def PS(s:ae):List (ae×V):=[("signs",.str s)]
noncomputable def DW(c9 dz:af):List (ae×V):=[("names",.ref c9),("forms",.ref dz)]
inductive RX(C:af)(vs:List V)(H:al)(Q:bI)(E:cB):Prop where
 |mk (p ak:af) (a b:Int) (aX:vs=[.ref p,.int a,.int b]) (ai:H p=J (.ins C ak [])) (ar:a<=b) (bz:Q .bf (upd H p (.ins C ak (Sf a b))))
def Y3(T:vy K C)(F:dN K "__init__" "Span.__init__" F5 f fd):dh P w K mg zn dA 1 f fd ["self","low","high"] (RX C):=by
 refine F.ok YV (fun vs H Q E h=>?_) (fun bw A _ s H vs Q E aw h=>?_)
 .obtain⟨_,_,_,_,rfl,_⟩:=h;rfl
 obtain⟨p,ak,a,b,rfl,aU,ala,q⟩:=h
 refine⟨_,(aI (cw (b9 kz (ab 1) (ab 2)) (aJ kN) cx)
  (aI (i1 (ab 0) (ab 1) rfl)
  (aJ (i1 (ab 0) (ab 2) rfl)))),?_⟩
 ac_rfl;refine⟨_,I,_,I,_,_,I,I,_,I,fh (by lia) ?_⟩;refine⟨_,I,_,I,p,C,ak,_,I,aU,T.cl,T.wX,(by show 0<1000;decide),?_⟩;rw[Vz];refine⟨_,I,_,I,p,C,ak,_,I,aG,T.cl,T.Dm,(by show 1<1000;decide),?_⟩;rw[UC,fW];exact q
inductive Rh(C:af)(vs:List V)(H:al)(Q:bI)(E:cB):Prop where
 |mk (p ak:af) (s:ae) (aX:vs=[.ref p,.str s]) (ai:H p=J (.ins C ak [])) (ar:s.length<=1000) (bz:oU s=ah) (c0:Q .bf (upd H p (.ins C ak (PS s))))
def ZC(nb:dn mg)(HY:hi mg "MOST_SIGNS" (.int 60))(HT:hi mg "LETTERS_AND_FIGURES" (.str qx))(T:s6 K C)(F:dN K "__init__" "Letters.__init__" Fs f fd)(oq:aY P w K mg zn 1 "made_of" ["text","signs"] Rk):dh P w K mg zn dA 2 f fd ["self","signs"] (Rh C):=by
 refine F.ok XP (fun vs H Q E h=>?_) (fun bw A _ s H vs Q E aw h=>?_)
 .obtain⟨_,_,_,rfl,_⟩:=h;rfl
 obtain⟨p,ak,t,rfl,aU,bc,bb,q⟩:=h
 refine⟨_,(aI (cw (gK.pt (lL (b9 c6 (ab 1) cY) (l9 (b9 kz (b8 dx I nb.dr dv (aj (ab 1) az)) (mc HY))))) (aJ kN) cx)
  (aI (cw (b9 iV (MC rfl rfl nb.dr rfl nb.Qu (ab 1)) (b8 dx rfl nb.dr dv (aj (ab 1) az))) (aJ kN) cx)
  (aI (cw (iJ (f6 (bT oq aw (aj (ab 1) (aj (mc HT) az))))) (aJ kN) cx)
  (aJ (i1 (ab 0) (ab 1) rfl))))),?_⟩
 ac_rfl;have ln:t.length<=cg:=fC (by lia);have eB:=WS t;unfold oU at bb;simp only[g4,kn]at bb;obtain⟨⟨aX,CE,hd⟩,f9⟩:=bb;refine⟨_,I,I,_,I,fh (fun z=>aX ((Vq t).mp (V.str.inj z))) ⟨_,I,_,_,I,⟨ln,I⟩,_,_,I,I,_,I,fh (by lia) ?_⟩⟩;refine⟨_,I,_,_,ZX t,(by unfold scanBound;show t.length+1<_;lia),_,I,_,_,I,⟨ln,I⟩,.inl ⟨_,_,I,I,_,I,fh (by show ¬(((Ck t:Nat):Int)<_);lia) ?_⟩⟩;refine⟨_,I,t,qx,I,by lia,_,rfl,?_⟩;rw[f9];refine da ⟨_,I,_,I,p,C,ak,_,I,aU,T.cl,T.pd,(by show 0<1000;decide),?_⟩;rw[Z5];exact q
def Parts.keep{o C ak:af}{fs:List (ae×V)}{aQ:List (af×ae×af)}(h:Parts H p aQ)(aN:H o=J (.ins C ak fs))(s:∀b u,b≠o->H b=J u->H' b=J u):Parts H' p aQ :=
 ⟨s _ _ (fun z=>by have:=h.l;rw[z,aN]at this;cases this) h.l,fun x aq=>s _ _ (fun z=>by have:=h.t x aq;rw[z,aN]at this;cases this) (h.t x aq),h.n,h.b⟩
inductive R7(C:af)(vs:List V)(H:al)(Q:bI)(E:cB):Prop where
 |mk (o ak p:af) (aQ:List (af×ae×af)) (aX:vs=[.ref o,.ref p]) (ai:H o=J (.ins C ak [])) (ar:Parts H p aQ) (bz:lP (hJ aQ)=ah) (c0:∀c9 dz,H c9=ax->H dz=ax->c9≠dz->Q .bf (upd (upd (upd H c9 (.lst ((hJ aQ).map V.str))) dz (.lst ((i3 aQ).map V.ref))) o (.ins C ak (DW c9 dz))))
def Zz(nb:dn mg)(T:oB K C)(F:dN K "__init__" "Record.__init__" FD f fd)(u2:aY P w K mg zn 3 "names_of" ["parts"] Ro):dh P w K mg zn dA 4 f fd ["self","parts"] (R7 C):=by
 refine F.ok X7 (fun vs H Q E h=>?_) (fun bw A _ s H vs Q E aw h=>?_)
 .obtain⟨_,_,_,_,rfl,_⟩:=h;rfl
 obtain⟨o,ak,p,aQ,rfl,aN,cV,bb,q⟩:=h
 refine⟨_,(aI (i1 (ab 0) (bT u2 aw (aj (ab 1) az)) I)
  (aJ (i1 (ab 0) (hO ["part"] [] rfl ⋯ trivial (h4 (ab 1)) (d5 (i:=0) (show(["part"]:List ae).Nodup by decide+kernel)) gs (bW bY (ab 0) aC)) rfl))),?_⟩
 ac_rfl;refine⟨_,I,p,aQ,I,cV,bb,fun c9 ai=>?_⟩;have e0:c9≠o:=(fe aN ai).symm;refine⟨_,I,o,C,ak,_,I,(by rw[bC (ei e0)];exact aN),T.cl,T.sq,(by show 0<1000;decide),?_⟩;rw[Mz];have iT:∀b u,b≠o->H b=J u->upd (upd H c9 (.lst ((hJ aQ).map V.str))) o (.ins C ak [("names",.ref c9)]) b=J u:=fun b u nb e=>by rw[bC nb,bC (fe e ai)];exact e
 have tH:=cV.keep aN iT;refine .inl ⟨_,I,p,I,⟨_,ba tH.l⟩,fun dz ar=>?_⟩;have dS:dz≠o:=fun z=>by rw[z,aG]at ar;cases ar
 have zt:c9≠dz:=fun z=>by rw[bC dS,<-z,aG]at ar;cases ar
 have qO:H dz=ax:=by rw[bC dS,bC (ei zt)]at ar;exact ar
 refine xR (K:=K) (a:=p) (xs:=aQ.map fun x=>V.ref x.1) (fun i=>V.ref ((i3 aQ).getD i 0)) (fun U=>∃z,U=[z]) (by rw[cA];exact fC (by have:=cV.n;lia)) ⟨_,I⟩ ar (ba tH.l) ?_ ?_
 ·rintro i x aq bE H1 ⟨z,rfl⟩ eo R bN;rw[eD]at aq;obtain⟨y,aW,rfl⟩:=Uf.mp aq;have hm:=eY aW;have e:(i3 aQ).getD i 0=y.2.2:=by unfold i3;rw[eJ,eD,aW];rfl
  rw[e]at bN;exact⟨_,I,x0 (eo _ _ (tH.t y hm)) (cT (j:=1) I) (bN _ ⟨_,I⟩)⟩
 have bX:(List.range (aQ.map fun x=>V.ref x.1).length).map (fun i=>V.ref ((i3 aQ).getD i 0))=(i3 aQ).map V.ref:=by
  apply List.ext_getElem
  .unfold i3;simp
  ·intro i g1 g2;have g3:i<aQ.length:=by simpa [i3] using g2
   have v9:i<(i3 aQ).length:=by simpa using g2
   rw[ko,ko,List.getElem_range,eJ,cI v9];rfl
 rw[bX];refine⟨_,I,o,C,ak,_,I,(by rw[bC (ei dS)];exact aG),T.cl,T.lV,(by show 1<1000;decide),?_⟩;rw[MA,BL (ei dS),fW];exact q c9 dz ai qO zt
def ZJ(nb:dn mg)(T:oB K C)(F:dN K "__init__" "Choice.__init__" FE f fd)(u2:aY P w K mg zn 3 "names_of" ["parts"] Ro):dh P w K mg zn dA 4 f fd ["self","cases"] (R7 C):=by
 refine F.ok Ya (fun vs H Q E h=>?_) (fun bw A _ s H vs Q E aw h=>?_)
 .obtain⟨_,_,_,_,rfl,_⟩:=h;rfl
 obtain⟨o,ak,p,aQ,rfl,aN,cV,bb,q⟩:=h
 refine⟨_,(aI (i1 (ab 0) (bT u2 aw (aj (ab 1) az)) I)
  (aJ (i1 (ab 0) (hO ["case"] [] rfl ⋯ trivial (h4 (ab 1)) (d5 (i:=0) (show(["case"]:List ae).Nodup by decide+kernel)) gs (bW bY (ab 0) aC)) rfl))),?_⟩
 ac_rfl;refine⟨_,I,p,aQ,I,cV,bb,fun c9 ai=>?_⟩;have e0:c9≠o:=(fe aN ai).symm;refine⟨_,I,o,C,ak,_,I,(by rw[bC (ei e0)];exact aN),T.cl,T.sq,(by show 0<1000;decide),?_⟩;rw[Mz];have iT:∀b u,b≠o->H b=J u->upd (upd H c9 (.lst ((hJ aQ).map V.str))) o (.ins C ak [("names",.ref c9)]) b=J u:=fun b u nb e=>by rw[bC nb,bC (fe e ai)];exact e
 have tH:=cV.keep aN iT;refine .inl ⟨_,I,p,I,⟨_,ba tH.l⟩,fun dz ar=>?_⟩;have dS:dz≠o:=fun z=>by rw[z,aG]at ar;cases ar
 have zt:c9≠dz:=fun z=>by rw[bC dS,<-z,aG]at ar;cases ar
 have qO:H dz=ax:=by rw[bC dS,bC (ei zt)]at ar;exact ar
 refine xR (K:=K) (a:=p) (xs:=aQ.map fun x=>V.ref x.1) (fun i=>V.ref ((i3 aQ).getD i 0)) (fun U=>∃z,U=[z]) (by rw[cA];exact fC (by have:=cV.n;lia)) ⟨_,I⟩ ar (ba tH.l) ?_ ?_
 ·rintro i x aq bE H1 ⟨z,rfl⟩ eo R bN;rw[eD]at aq;obtain⟨y,aW,rfl⟩:=Uf.mp aq;have hm:=eY aW;have e:(i3 aQ).getD i 0=y.2.2:=by unfold i3;rw[eJ,eD,aW];rfl
  rw[e]at bN;exact⟨_,I,x0 (eo _ _ (tH.t y hm)) (cT (j:=1) I) (bN _ ⟨_,I⟩)⟩
 have bX:(List.range (aQ.map fun x=>V.ref x.1).length).map (fun i=>V.ref ((i3 aQ).getD i 0))=(i3 aQ).map V.ref:=by
  apply List.ext_getElem
  .unfold i3;simp
  ·intro i g1 g2;have g3:i<aQ.length:=by simpa [i3] using g2
   have v9:i<(i3 aQ).length:=by simpa using g2
   rw[ko,ko,List.getElem_range,eJ,cI v9];rfl
 rw[bX];refine⟨_,I,o,C,ak,_,I,(by rw[bC (ei dS)];exact aG),T.cl,T.lV,(by show 1<1000;decide),?_⟩;rw[MA,BL (ei dS),fW];exact q c9 dz ai qO zt
structure k2(K:bS)(C:af):Prop where
 cl:fT K C
 nX:jL K C "inner"
inductive Rv(C:af)(vs:List V)(H:al)(Q:bI)(E:cB):Prop where
 |mk (p ak w:_) (aX:vs=[.ref p,.ref w]) (ai:H p=J (.ins C ak [])) (ar:Q .bf (upd H p (.ins C ak [("inner",.ref w)])))
def YD(T:k2 K C)(F:dN K "__init__" "Maybe.__init__" FT f fd):dh P w K mg zn dA 1 f fd ["self","inner"] (Rv C):=by
 refine F.ok Yx (fun vs H Q E h=>?_) (fun bw A _ s H vs Q E aw h=>?_)
 .obtain⟨_,_,_,rfl,_⟩:=h;rfl
 obtain⟨p,ak,w,rfl,aU,q⟩:=h;exact⟨_,(aJ (i1 (ab 0) (ab 1) I)),_,I,_,I,p,C,ak,_,I,aU,T.cl,T.nX,(by show 0<1000;decide),q⟩
def Y5(T:k2 K C)(F:dN K "__init__" "Many.__init__" F6 f fd):dh P w K mg zn dA 1 f fd ["self","inner"] (Rv C):=by
 refine F.ok YZ (fun vs H Q E h=>?_) (fun bw A _ s H vs Q E aw h=>?_)
 .obtain⟨_,_,_,rfl,_⟩:=h;rfl
 obtain⟨p,ak,w,rfl,aU,q⟩:=h;exact⟨_,(aJ (i1 (ab 0) (ab 1) I)),_,I,_,I,p,C,ak,_,I,aU,T.cl,T.nX,(by show 0<1000;decide),q⟩
def Yd(T:k2 K C)(F:dN K "__init__" "Turned.__init__" FA f fd):dh P w K mg zn dA 1 f fd ["self","inner"] (Rv C):=by
 refine F.ok X1 (fun vs H Q E h=>?_) (fun bw A _ s H vs Q E aw h=>?_)
 .obtain⟨_,_,_,rfl,_⟩:=h;rfl
 obtain⟨p,ak,w,rfl,aU,q⟩:=h;exact⟨_,(aJ (i1 (ab 0) (ab 1) I)),_,I,_,I,p,C,ak,_,I,aU,T.cl,T.nX,(by show 0<1000;decide),q⟩
noncomputable def isNum:D->Bool
 |.int _=>ah
 |_=>aE
noncomputable def yp(bD:D->Bool):Fin 4->D->Bool
 |0,.bf=>ah
 |1,.aK _=>ah
 |2,.int i=>decide (ih i)
 |3,d=>bD d
 |_,_=>aE
noncomputable def nT(g:D->Bool):D->Bool
 |.tup []=>ah
 |.tup [x]=>g x
 |_=>aE
noncomputable def t5(g:D->Bool):D->Bool
 |.lst ds=>decide (ds.length<=60)&&ds.all g
 |_=>aE
noncomputable def Jq(k:Fin 3)(g:D->Bool)(d:D):Bool:=if k=0 then nT g d else if k=1 then t5 g d else g d
noncomputable def aje(a b:Int):D->Bool
 |.int i=>decide (a<=i/\i<=b)
 |_=>aE
noncomputable def afi(s:ae):D->Bool
 |.str t=>decide (t.length<=200)&&js t s
 |_=>aE
noncomputable def Ka(g:List D->Bool):D->Bool
 |.tup ds=>g ds
 |_=>aE
noncomputable def ts(g:ae->D->Bool):D->Bool
 |.tup [.str n,x]=>g n x
 |_=>aE
mutual
noncomputable def bJ(bD:D->Bool):bH->D->Bool
 |.bare k,d=>yp bD k d
 |.sp a b,d=>aje a b d
 |.le s,d=>afi s d
 |.one k f,d=>Jq k (bJ bD f) d
 |.two k ns fs,d=>if k=0 then Ka (eL bD fs) d else ts (jC bD fs ns) d
noncomputable def eL(bD:D->Bool):List bH->List D->Bool
 |[],ds=>ds.isEmpty
 |f::fs,ds=>match ds with|[]=>aE|d::ds=>bJ bD f d&&eL bD fs ds
noncomputable def jC(bD:D->Bool):List bH->List ae->ae->D->Bool
 |[],_,_,_=>aE
 |f::fs,ns,n,x=>if ns.head?=J n then bJ bD f x else jC bD fs ns.tail n x
end
inductive Rf(vs:List V)(H:al)(Q:bI)(E:cB):Prop where
 |mk (v:V) (d:D) (aX:vs=[v]) (ai:dj H d v) (ar:Q (.aK (isNum d)) H)
inductive Q6(vs:List V)(H:al)(Q:bI)(E:cB):Prop where
 |mk (n:Int) (aX:vs=[.int n]) (ai:Q (.aK (decide (ih n))) H)
def Xn(F:dD K mg "has_whole_row" As ["n"] f fd)(ng:aY P w K mg zn 1 "is_count" ["n"] Q9):aY P w K mg zn 2 "has_whole_row" ["n"] Q6:=by
 refine F.eg LG (fun H vs Q E aw h=>?_);obtain⟨n,rfl,q⟩:=h;refine⟨_,(aJ (bt (bT ng aw (aj (nv (b9 Dw (ab 0) aC) (ab 0) (aO gc (k7 k1 aC) (ab 0))) az)))),?_⟩;ac_rfl;refine⟨_,I,_,_,I,I,_,I,?_⟩;refine fl (fun c=>?_) (fun c=>?_)
 ·refine⟨_,I,_,I,H,.refl (c5 _),?_⟩;have e:decide (h7 n)=decide (ih n):=decide_eq_decide.mpr (by unfold h7 ih;lia);rw[e];exact q
 ·refine⟨_,I,_,I,_,_,I,I,_,I,H,.refl (c5 _),?_⟩;have e:decide (h7 (-1-n))=decide (ih n):=decide_eq_decide.mpr (by unfold h7 ih;lia);rw[e];exact q
def YI(nb:dn mg)(F:dD K mg "is_number" F1 ["value"] f fd):aY P w K mg zn 1 "is_number" ["value"] Rf:=by
 refine F.eg YS (fun H vs Q E aw h=>?_);obtain⟨v,d,rfl,hd,q⟩:=h;refine⟨_,(aJ (bt (il (b8 i0 I nb.iR iH (aj (ab 0) (aj (iv (v :=.ty "int") I nb.pa oN I) az))) (jB (B1 (b8 i0 I nb.iR iH (aj (ab 0) (aj (iv (v :=.ty "bool") I nb.yq Zip I) az)))))))),?_⟩;ac_rfl;refine⟨_,I,.inl ⟨_,_,_,_,I,hd.ty,ek K d (by decide),_,I,?_⟩⟩;cases d with
 |int i=>exact eP ⟨_,I,.inl ⟨_,_,_,_,I,hd.ty,ek K _ (by decide),_,I,H,.refl (c5 _),q⟩⟩
 |aK b=>exact eP ⟨_,I,.inl ⟨_,_,_,_,I,hd.ty,ek K _ (by decide),_,I,H,.refl (c5 _),q⟩⟩
 |_=>exact da ⟨H,.refl (c5 _),q⟩
inductive QY(has:fO->Bool)(bD:D->Bool)(c:ey)(n:Nat)(i:fO)(vs:List V)(H:al)(Q:bI)(E:cB):Prop where
 |mk (o:af) (f:bH) (v:V) (d:D) (aX:vs=[.ref o,v]) (ai:slot f=i) (ar:b6 c [] H f o) (bz:ll has f) (c0:bc f<=n) (es:dj H d v) (iN:bJ bD f d=ah) (mR:Q (.aK ah) H)
def x6(bD:D->Bool)(k:Fin 4)(d:D):bJ bD (.bare k) d=yp bD k d:=by rw[bJ]
def b6.fits{c:ey}(f:bH){o:af}(h:b6 c X H f o):∃ak fs,H o=J (.ins (fX c (slot f)) ak fs)/\fs.lookup (ae.ofString "fits")=ax :=
 b6.ins (m:=ae.ofString "fits") ⋯ ⋯ ⋯ ⋯ ⋯ ⋯ f h
theorem BR(bD:D->Bool):∀(fs:List bH)(ds:List D),ds.length≠fs.length->eL bD fs ds=aE
 |[],ds,h=>by
  cases ds with
  |nil=>exact absurd I h
  |cons d ds=>rw[eL];rfl
 |f::fs,[],h=>by rw[eL]
 |f::fs,d::ds,h=>by
  rw[eL];show(bJ bD f d&&eL bD fs ds)=aE;rw[BR bD fs ds (fun e=>h (by rw[eb,eb,e])),Bool.and_false]
theorem BS(bD:D->Bool):∀(fs:List bH)(ds:List D),ds.length=fs.length->eL bD fs ds=(List.range fs.length).all fun i=>bJ bD (fs.getD i (.bare 0)) (ds.getD i .bf)
 |[],ds,h=>by
  obtain rfl:ds=[]:=List.length_eq_zero_iff.mp h;rw[eL];rfl
 |f::fs,[],h=>by cases h
 |f::fs,d::ds,h=>by
  rw[eL];show(bJ bD f d&&eL bD fs ds)=_;rw[BS bD fs ds (by simpa using h),eb,List.range_succ_eq_map,List.all_cons,List.all_map];rfl
def aao(F:dN K "fits" "Nothing.fits" AA f fd):dh P w K mg zn dA 1 f fd ["self","value"] (QY has bD c n (.b 0)):=by
 refine F.fo XM (fun H vs Q E aw h=>?_);obtain⟨o,bl,v,d,rfl,hs,dk,aP,dq,hd,aA,q⟩:=h;have:=ny hs;subst this;rw[x6]at aA;cases d with
 |bf =>
  obtain rfl:v=.bf:=hd;exact⟨_,(aJ (bt (fM B8 (ab 1) pV))),_,I,I,H,.refl (c5 _),q⟩
 |_=>cases aA
def US(F:dN K "fits" "Truth.fits" Bh f fd):dh P w K mg zn dA 1 f fd ["self","value"] (QY has bD c n (.b 1)):=by
 refine F.fo Yt (fun H vs Q E aw h=>?_);obtain⟨o,bl,v,d,rfl,hs,dk,aP,dq,hd,aA,q⟩:=h;have:=ny hs;subst this;rw[x6]at aA;cases d with
 |aK b =>
  obtain rfl:v=.aK b:=hd;refine⟨_,(aJ (bt (Lx (fM Lo (ab 1) jf) (jB (fM Lo (ab 1) jf))))),_,I,aE,I,I,?_⟩;cases b with
  |false=>exact⟨ah,I,eP ⟨H,.refl (c5 _),q⟩⟩
  |true=>exact⟨aE,I,da ⟨_,I,ah,I,I,H,.refl (c5 _),q⟩⟩
 |_=>cases aA
def UR(F:dN K "fits" "Whole.fits" Bf f fd)(nh:aY P w K mg zn 1 "is_number" ["value"] Rf)(sR:aY P w K mg zn 2 "has_whole_row" ["n"] Q6):dh P w K mg zn dA 3 f fd ["self","value"] (QY has bD c n (.b 2)):=by
 refine F.fo Yr (fun H vs Q E aw h=>?_);obtain⟨o,bl,v,d,rfl,hs,dk,aP,dq,hd,aA,q⟩:=h;have:=ny hs;subst this;rw[x6]at aA;cases d with
 |int i =>
  obtain rfl:v=.int i:=hd;have aA:decide (ih i)=ah:=aA;refine⟨_,(aJ (bt (il (bT nh aw (aj (ab 1) az)) (jB (bT sR aw (aj (ab 1) az)))))),_,I,_,.int i,I,I,ah,I,eP ⟨_,I,i,I,H,.refl (c5 _),?_⟩⟩;rw[aA];exact q
 |_=>cases aA
def V4(T:vy K c.s)(F:dN K "fits" "Span.fits" Bq f fd)(nh:aY P w K mg zn 1 "is_number" ["value"] Rf):dh P w K mg zn dA 2 f fd ["self","value"] (QY has bD c n .s):=by
 refine F.fo YW (fun H vs Q E aw h=>?_);obtain⟨o,bl,v,d,rfl,hs,dk,aP,dq,hd,aA,q⟩:=h;obtain⟨a,b,rfl⟩:=G5 hs;obtain⟨_,ak,aN⟩:=dk;rw[bJ]at aA;cases d with
 |int i =>
  obtain rfl:v=.int i:=hd;have aA:=hX (show decide (a<=i/\i<=b)=ah from aA);refine⟨_,(aJ (bt (il (bT nh aw (aj (ab 1) az)) (il (fM uc (d6 (ab 0) I) (ab 1)) (jB (fM uc (ab 1) (d6 (ab 0) I))))))),_,I,_,.int i,I,I,ah,I,eP ⟨_,I,o,c.s,ak,_,_,I,aN,T.cl,T.wX,ix ..,_,I,_,_,I,I,_,I,hU aA.1 ⟨_,I,_,I,o,c.s,ak,_,_,I,aN,T.cl,T.Dm,qe _ _ _ _ Iv,_,_,I,I,H,.refl (c5 _),?_⟩⟩⟩;dsimp only;rw[eT aA.2];exact q
 |_=>cases aA
def aap(nb:dn mg)(p3:hi mg "LONGEST_TEXT" (.int 200))(T:s6 K c.l)(F:dN K "fits" "Letters.fits" AJ f fd)(oq:aY P w K mg zn 1 "made_of" ["text","signs"] Rk):dh P w K mg zn dA 2 f fd ["self","value"] (QY has bD c n .l):=by
 refine F.fo XQ (fun H vs Q E aw h=>?_);obtain⟨o,bl,v,d,rfl,hs,dk,aP,dq,hd,aA,q⟩:=h;obtain⟨cu,rfl⟩:=G6 hs;obtain⟨_,ak,aN⟩:=dk;rw[bJ]at aA;refine⟨_,(aJ (bt (il (b8 i0 I nb.iR iH (aj (ab 1) (aj (iv (v :=.ty "str") I nb.J1 Hq I) az))) (il (fM uc (b8 dx I nb.dr dv (aj (ab 1) az)) (mc p3)) (jB (bT oq aw (aj (ab 1) (aj (d6 (ab 0) I) az)))))))),_,I,.inl ⟨_,_,_,_,I,hd.ty,ek K d (by decide),_,I,?_⟩⟩;cases d with
 |str t =>
  obtain⟨rfl,C9⟩:=hd;have aA:(decide (t.length<=200)&&js t cu)=ah:=aA;rw[g4,kn]at aA;refine eP ⟨_,I,_,_,I,⟨gW C9,I⟩,_,_,I,I,_,I,hU (by lia) ⟨_,I,_,I,o,c.l,ak,_,_,I,aN,T.cl,T.pd,ix ..,t,cu,I,by lia,H,.refl (c5 _),?_⟩⟩;rw[aA.2];exact q
 |_=>cases aA
set_option tactic.hygienic true in
def UT(nb:dn mg)(T:k2 K (c.o 0))(F:dN K "fits" "Maybe.fits" Bm f fd)(lA:hy P w K mg zn (2*n+4) "fits" ["self","value"] (fX c) (QY has bD c n)):dh P w K mg zn dA (2*n+4+1) f fd ["self","value"] (QY has bD c (n+1) (.o 0)):=by
 refine F.fo Yy (fun H vs Q E aw h=>?_);obtain⟨o,bl,v,d,rfl,hs,dk,aP,dq,hd,aA,q⟩:=h;obtain⟨g,rfl⟩:=qv hs;obtain⟨_,ak,i,aN,fY⟩:=dk;have i5:bc g<=n:=by rw[bc]at dq;lia
 rw[bJ]at aA;have aA:nT (bJ bD g) d=ah:=aA;obtain⟨gM,gO,fk,li⟩:=b6.fits g fY
 refine⟨_,(aI (cw (gK.pt (lL (iJ (f6 (b8 i0 I nb.iR iH (aj (ab 1) (aj (iv (v :=.ty "tuple") I nb.pz oG I) az))))) (l9 (b9 kz (b8 dx I nb.dr dv (aj (ab 1) az)) aC)))) (aJ (bt jf)) cx)
  (aJ (bt (Lx (fM c6 (b8 dx rfl nb.dr dv (aj (ab 1) az)) aC) (jB (ij lA aw (d6 (ab 0) rfl) (aj (bW bY (ab 1) aC) az))))))),_,rfl,.inl ⟨_,_,_,_,rfl,hd.ty,ek K d (by decide),_,rfl,?_⟩⟩
 unfold nT at aA;split at aA
 ·obtain⟨a,vs,rfl,cL,rfl,jR⟩:=hd;exact da ⟨_,I,_,_,I,.inr ⟨_,cC cL,I⟩,_,_,I,I,_,I,fh (by decide) ⟨_,I,_,_,I,.inr ⟨_,cC cL,I⟩,I,_,I,hU I ⟨H,.refl (c5 _),q⟩⟩⟩
 ·rename_i x _;obtain⟨a,vs,rfl,cL,⟨y,r,rfl,aq,rfl⟩,jR⟩:=hd;refine da ⟨_,I,_,_,I,.inr ⟨_,cC cL,I⟩,_,_,I,I,_,I,fh (by show ¬((1:Int)<1);decide) ⟨_,I,_,_,I,.inr ⟨_,cC cL,I⟩,I,_,I,fh (fun z=>nomatch z) ?_⟩⟩;exact⟨_,I,o,c.o 0,ak,_,_,I,aN,T.cl,T.nX,ix ..,i,slot g,gM,gO,I,fk,li,_,I,x0 cL (cT (j:=0) I) ⟨i,g,y,x,I,I,fY,aP.one,i5,aq,aA,H,.refl (c5 _),q⟩⟩
 .cases aA
def abb(T:k2 K (c.o 2))(F:dN K "fits" "Turned.fits" AN f fd)(lA:hy P w K mg zn (2*n+4) "fits" ["self","value"] (fX c) (QY has bD c n)):dh P w K mg zn dA (2*n+4+1) f fd ["self","value"] (QY has bD c (n+1) (.o 2)):=by
 refine F.fo X2 (fun H vs Q E aw h=>?_);obtain⟨o,bl,v,d,rfl,hs,dk,aP,dq,hd,aA,q⟩:=h;obtain⟨g,rfl⟩:=qv hs;obtain⟨_,ak,i,aN,fY⟩:=dk;have i5:bc g<=n:=by rw[bc]at dq;lia
 rw[bJ]at aA;obtain⟨gM,gO,fk,li⟩:=b6.fits g fY;exact⟨_,(aJ (bt (ij lA aw (d6 (ab 0) I) (aj (ab 1) az)))),_,rfl,o,c.o 2,ak,_,_,rfl,aN,T.cl,T.nX,ix ..,i,slot g,gM,gO,rfl,fk,li,_,rfl,i,g,v,d,rfl,rfl,fY,aP.one,i5,hd,aA,H,.refl (c5 _),q⟩
def V5(nb:dn mg)(p4:hi mg "MOST_VALUES" (.int 60))(T:k2 K (c.o 1))(F:dN K "fits" "Many.fits" Bu f fd)(lA:hy P w K mg zn (2*n+4) "fits" ["self","value"] (fX c) (QY has bD c n)):dh P w K mg zn dA (2*n+4+1) f fd ["self","value"] (QY has bD c (n+1) (.o 1)):=by
 refine F.fo Y0 (fun H vs Q E aw h=>?_);obtain⟨o,bl,v,d,rfl,hs,dk,aP,dq,hd,aA,q⟩:=h;obtain⟨g,rfl⟩:=qv hs;obtain⟨_,ak,i,aN,fY⟩:=dk;have i5:bc g<=n:=by rw[bc]at dq;lia
 rw[bJ]at aA;have aA:t5 (bJ bD g) d=ah:=aA;obtain⟨gM,gO,fk,li⟩:=b6.fits g fY
 refine⟨_,(aI (cw (gK.pt (lL (iJ (f6 (b8 i0 I nb.iR iH (aj (ab 1) (aj (iv (v :=.ty "list") I nb.wO vO I) az))))) (l9 (b9 kz (b8 dx I nb.dr dv (aj (ab 1) az)) (mc p4))))) (aJ (bt jf)) cx)
  (aJ (bt (b8 (tj rfl) rfl nb.tr tq (aj (hO ["part"] [(0,"self")] rfl ⋯ ⟨rfl,.inl rfl,trivial⟩ (h4 (ab 1)) (d5 (i:=0) (show(["part","self"]:List ae).Nodup by decide+kernel)) gs (ij lA aw (d6 (ab 1) rfl) (aj (ab 0) az))) az))))),_,rfl,.inl ⟨_,_,_,_,rfl,hd.ty,ek K d (by decide),_,rfl,?_⟩⟩
 cases d with
 | lst ds =>
  obtain⟨a,vs,rfl,cL,eB,jR⟩:=hd;have c1:=cj.len ds eB;have aA:(decide (ds.length<=60)&&ds.all (bJ bD g))=ah:=aA;rw[g4,kn,ig]at aA;refine da ⟨_,I,_,_,I,.inl ⟨_,ba cL,I⟩,_,_,I,I,_,I,fh (by lia) (.inl ⟨_,I,a,I,⟨_,ba cL⟩,fun c3 ec=>?_⟩)⟩;refine BK (K:=K) (a:=a) (xs:=vs) (fun _=>V.aK ah) (fun U=>∃z,U=[z,J (.ref o)]) (fC (by lia)) ⟨_,I⟩ ec (ba cL) ?_ ?_
  ·rintro x aq bE H1 ⟨z,rfl⟩ eo R bN;obtain⟨k,hk,rfl⟩:=List.mem_iff_getElem.mp aq;obtain⟨j6,mm,I6⟩:=cj.get ds eB (cI hk);exact⟨_,I,o,c.o 1,ak,_,_,I,eo _ _ aN,T.cl,T.nX,ix ..,i,slot g,gM,gO,I,eo _ _ fk,li,_,I,i,g,_,j6,I,I,b6.keep (fun b u _ e=>eo b u e) g fY,aP.one,i5,dj.same eo j6 I6,aA.2 j6 (eY mm),bN _ ⟨_,I⟩⟩
  ·refine⟨c3,List.replicate vs.length ah,I,ba (by rw[aG,List.map_replicate,List.map_const']),H,.refl (cE ec),?_⟩;rw[show(List.replicate vs.length ah).all id=ah by simp];exact q
 |_=>cases aA
def abc(nb:dn mg)(T:oB K (c.t 0))(F:dN K "fits" "Record.fits" AU f fd)(lA:hy P w K mg zn (2*n+4) "fits" ["self","value"] (fX c) (QY has bD c n)):dh P w K mg zn dA (2*n+4+1) f fd ["self","value"] (QY has bD c (n+1) (.t 0)):=by
 refine F.fo X8 (fun H vs Q E aw h=>?_);obtain⟨o,bl,v,d,rfl,hs,dk,aP,dq,hd,aA,q⟩:=h;obtain⟨ns,fs,rfl⟩:=vG hs;obtain⟨_,ak,a1,a2,os,aN,_,_,ai,ar,fY⟩:=dk;obtain⟨h2,kQ,i6⟩:=aP.two;have i5:gV fs<=n:=by rw[bc]at dq;lia
 have q0:=e8.len fs fY;have CY:=(qH h2).1;rw[bJ]at aA;have aA:Ka (eL bD fs) d=ah:=aA
 refine⟨_,(aI (cw (gK.pt (lL (iJ (f6 (b8 i0 I nb.iR iH (aj (ab 1) (aj (iv (v :=.ty "tuple") I nb.pz oG I) az))))) (l9 (b9 sx (b8 dx I nb.dr dv (aj (ab 1) az)) (b8 dx I nb.dr dv (aj (d6 (ab 0) I) az)))))) (aJ (bt jf)) cx)
  (aJ (bt (b8 (tj rfl) rfl nb.tr tq (aj (hO ["form","part"] [] rfl ⋯ trivial (NN rfl nb.D1 (aj (d6 (ab 0) rfl) (aj (ab 1) az))) (oM rfl (jk (d5 (i:=0) (show(["form","part"]:List ae).Nodup by decide+kernel)) (jk (d5 (i:=1) (show(["form","part"]:List ae).Nodup by decide+kernel)) oy))) gs (ij lA aw (ab 0) (aj (ab 1) az))) az))))),_,rfl,.inl ⟨_,_,_,_,rfl,hd.ty,ek K d (by decide),_,rfl,?_⟩⟩
 cases d with
 | tup ds =>
  obtain⟨a,vs,rfl,cL,eB,jR⟩:=hd;have q5:=cj.len ds eB;have aA:eL bD fs ds=ah:=aA
  have eE:ds.length=fs.length:=by
   by_cases z:ds.length=fs.length
   .exact z
   .rw[BR bD fs ds z]at aA;cases aA
  rw[BS bD fs ds eE,ig]at aA;refine da ⟨_,I,_,_,I,.inr ⟨_,cC cL,I⟩,_,I,o,c.t 0,ak,_,_,I,aN,T.cl,T.lV,qe _ _ _ _ tD,_,_,I,.inl ⟨_,ba ar,I⟩,I,_,I,ze (by rw[cA,q5,q0,eE]) ?_⟩;refine⟨_,I,o,c.t 0,ak,_,_,I,aN,T.cl,T.lV,qe _ _ _ _ tD,_,I,a2,a,_,_,I,ba ar,cC cL,fun c3 ec=>?_⟩;refine MT (fun k=>V.aK ah) (fun U=>∃di dg,U=[di,dg]) (by rw[cA];lia) ⟨_,_,I⟩ ec (ba ar) (cC cL) ?_ ?_
  ·rintro k x y aq aW bE H1 jM ⟨di,dg,rfl⟩ eo oV R bN;rw[eD]at aq;obtain⟨ud,IM,rfl⟩:=Uf.mp aq;obtain⟨bl,tO,yH⟩:=e8.get fs fY IM;obtain⟨j6,mm,q6⟩:=cj.get ds eB aW;obtain⟨o6,yV⟩:=i6.get tO;have hk:k<fs.length:=(gr.mp tO).1;have yR:=aA k (List.mem_range.mpr hk);rw[eJ,tO,eJ,mm]at yR;have ux:=eo.trans (cE (o:=cX.tup [V.ref ud,y]) oV);obtain⟨gM,gO,fk,li⟩:=b6.fits bl (b6.keep (fun b u _ e=>ux b u e) bl yH);exact⟨jM,_,I,cC aG,I,_,_,I,_,_,I,I,_,I,ud,slot bl,gM,gO,I,fk,li,_,I,ud,bl,y,j6,I,I,b6.keep (fun b u _ e=>ux b u e) bl yH,o6,by lia,dj.same ux j6 q6,yR,bN _ _ ⟨_,_,rfl⟩ (c5 _)⟩
  ·intro H' ka jQ
   have e:(List.range (min (os.map V.ref).length vs.length)).map (fun k=>V.aK ah)=(List.replicate fs.length ah).map V.aK:=by
    rw[cA,q5,q0,eE,Nat.min_self,List.map_const',kK,List.map_replicate]
   rw[e]at jQ;refine⟨c3,_,I,ba jQ,H,.refl ka,?_⟩;rw[show(List.replicate fs.length ah).all id=ah by simp];exact q
 |_=>cases aA
noncomputable def Cd(fw:D->List Bool):Fin 4->D->List Bool
 |1,.aK b=>[b]
 |2,.int i=>gY i
 |3,d=>fw d
 |_,_=>[]
noncomputable def Je(g:D->List Bool):D->List Bool
 |.tup [x]=>ah::g x
 |_=>[aE]
noncomputable def afC(g:D->List Bool):D->List Bool
 |.lst ds=>(ds.map fun d=>ah::g d).flatten++[aE]
 |_=>[]
noncomputable def Dy(k:Fin 3)(g:D->List Bool)(d:D):List Bool:=if k=0 then Je g d else if k=1 then afC g d else(g d).map (!·)
noncomputable def ajf(a b:Int):D->List Bool
 |.int i=>dB (i-a).toNat (aD (b-a).toNat)
 |_=>[]
noncomputable def zm(s:ae):D->List Bool
 |.str t=>(t.cps.toList.map fun c=>ah::dB (s.cps.toList.idxOf c) (aD (s.length-1))).flatten++[aE]
 |_=>[]
noncomputable def ake(g:List D->List Bool):D->List Bool
 |.tup ds=>g ds
 |_=>[]
noncomputable def abG(g:ae->D->List Bool):D->List Bool
 |.tup [.str n,x]=>g n x
 |_=>[]
mutual
noncomputable def aT(fw:D->List Bool):bH->D->List Bool
 |.bare k,d=>Cd fw k d
 |.sp a b,d=>ajf a b d
 |.le s,d=>zm s d
 |.one k f,d=>Dy k (aT fw f) d
 |.two k ns fs,d=>if k=0 then ake (gk fw fs) d else abG (kX fw fs ns 0 (fs.length-1)) d
noncomputable def gk(fw:D->List Bool):List bH->List D->List Bool
 |[],_=>[]
 |f::fs,ds=>match ds with|[]=>[]|d::ds=>aT fw f d++gk fw fs ds
noncomputable def kX(fw:D->List Bool):List bH->List ae->Nat->Nat->ae->D->List Bool
 |[],_,_,_,_,_=>[]
 |f::fs,ns,k,m,n,x=>if ns.head?=J n then dB k (aD m)++aT fw f x else kX fw fs ns.tail (k+1) m n x
end
inductive Se(has:fO->Bool)(bD:D->Bool)(fw:D->List Bool)(c:ey)(n:Nat)(i:fO)(vs:List V)(H:al)(Q:bI)(E:cB):Prop where
 |mk (o:af) (f:bH) (v:V) (d:D) (aX:vs=[.ref o,v]) (ai:slot f=i) (ar:b6 c [] H f o) (bz:ll has f) (c0:bc f<=n) (es:dj H d v) (iN:bJ bD f d=ah) (mR:(aT fw f d).length<=15000000) (mS:Q (.str (aH (aT fw f d))) H)
def b6.written{c:ey}(f:bH){o:af}(h:b6 c X H f o):∃ak fs,H o=J (.ins (fX c (slot f)) ak fs)/\fs.lookup (ae.ofString "written")=ax :=
 b6.ins (m:=ae.ofString "written") ⋯ ⋯ ⋯ ⋯ ⋯ ⋯ f h
def vN:ae.ofString "1"=aH [ah]:=⋯
def BZ:ae.ofString "0"=aH [aE]:=⋯
def Xi(F:dN K "written" "Nothing.written" A7 f fd):dh P w K mg zn dA 1 f fd ["self","value"] (Se has bD fw c n (.b 0)):=by
 refine F.fo Xh (fun H vs Q E aw h=>?_);obtain⟨o,bl,v,d,rfl,hs,dk,aP,dq,hd,aA,aB,q⟩:=h;have:=ny hs;subst this;rw[aT]at q;refine⟨_,(aJ (bt cY)),H,.refl (c5 _),?_⟩;cases d<;>exact q
def XC(F:dN K "written" "Truth.written" Av f fd):dh P w K mg zn dA 1 f fd ["self","value"] (Se has bD fw c n (.b 1)):=by
 refine F.fo Xw (fun H vs Q E aw h=>?_);obtain⟨o,bl,v,d,rfl,hs,dk,aP,dq,hd,aA,aB,q⟩:=h;have:=ny hs;subst this;rw[aT]at q;rw[bJ]at aA;cases d with
 |aK b =>
  obtain rfl:v=.aK b:=hd;refine⟨_,(aJ (bt (nv (f6 (ab 1)) cY cY))),_,I,?_⟩;refine⟨b,I,?_⟩;cases b with
  |true=>exact eP ⟨H,.refl (c5 _),q⟩
  |false=>exact da ⟨H,.refl (c5 _),q⟩
 |_=>cases aA
def Xp(F:dN K "written" "Whole.written" Au f fd)(ry:aY P w K mg zn 3 "whole_row" ["n"] LI):dh P w K mg zn dA 4 f fd ["self","value"] (Se has bD fw c n (.b 2)):=by
 refine F.fo Xv (fun H vs Q E aw h=>?_);obtain⟨o,bl,v,d,rfl,hs,dk,aP,dq,hd,aA,aB,q⟩:=h;have:=ny hs;subst this;rw[aT]at q;rw[bJ]at aA;cases d with
 |int i =>
  obtain rfl:v=.int i:=hd;exact⟨_,(aJ (bt (bT ry aw (aj (ab 1) az)))),_,I,i,I,hX aA,H,.refl (c5 _),q⟩
 |_=>cases aA
def XD(T:vy K c.s)(F:dN K "written" "Span.written" Az f fd)(om:aY P w K mg zn 2 "fixed_row" ["n","most"] QZ):dh P w K mg zn dA 3 f fd ["self","value"] (Se has bD fw c n .s):=by
 refine F.fo XK (fun H vs Q E aw h=>?_);obtain⟨o,bl,v,d,rfl,hs,dk,aP,dq,hd,aA,aB,q⟩:=h;obtain⟨a,b,rfl⟩:=G5 hs;obtain⟨_,ak,aN⟩:=dk;rw[aT]at q aB;rw[bJ]at aA;cases d with
 |int i =>
  obtain rfl:v=.int i:=hd;have aA:a<=i/\i<=b:=hX aA;have aB:(dB (i-a).toNat (aD (b-a).toNat)).length<=15000000:=aB;rw[ji]at aB;have aL:((i-a).toNat:Int)=i-a:=Int.toNat_of_nonneg (by lia);have aS:((b-a).toNat:Int)=b-a:=Int.toNat_of_nonneg (by lia);refine⟨_,(aJ (bt (bT om aw (aj (aO gc (ab 1) (d6 (ab 0) I)) (aj (aO gc (d6 (ab 0) I) (d6 (ab 0) I)) az))))),?_⟩;ac_rfl;refine⟨_,I,_,I,o,c.s,ak,_,_,I,aN,T.cl,T.wX,ix ..,_,_,I,I,_,I,o,c.s,ak,_,_,I,aN,T.cl,T.Dm,qe _ _ _ _ Iv,_,I,o,c.s,ak,_,_,I,aN,T.cl,T.wX,ix ..,_,_,I,I,(i-a).toNat,(b-a).toNat,by rw[aL,aS];rfl,by lia,by lia,H,.refl (c5 _),q⟩
 |_=>cases aA
def XE(nb:dn mg)(T:k2 K (c.o 0))(F:dN K "written" "Maybe.written" Aw f fd)(lC:hy P w K mg zn (2*n+4) "written" ["self","value"] (fX c) (Se has bD fw c n)):dh P w K mg zn dA (2*n+4+1) f fd ["self","value"] (Se has bD fw c (n+1) (.o 0)):=by
 refine F.fo Xx (fun H vs Q E aw h=>?_);obtain⟨o,bl,v,d,rfl,hs,dk,aP,dq,hd,aA,aB,q⟩:=h;obtain⟨g,rfl⟩:=qv hs;obtain⟨_,ak,i,aN,fY⟩:=dk;have i6:=aP.one;have i5:bc g<=n:=by rw[bc]at dq;lia
 rw[bJ]at aA;rw[aT]at q aB;have aA:nT (bJ bD g) d=ah:=aA;have q:Q (.str (aH (Je (aT fw g) d))) H:=q;have aB:(Je (aT fw g) d).length<=15000000:=aB;obtain⟨gM,gO,fk,li⟩:=b6.written g fY;cases d with
 | tup ds =>
  obtain⟨a,vs,rfl,cL,eB,jR⟩:=hd;have c1:=cj.len ds eB;refine⟨_,(aJ (bt (nv (b9 c6 (b8 dx I nb.dr dv (aj (ab 1) az)) aC) cY (aO el cY (ij lC aw (d6 (ab 0) I) (aj (bW bY (ab 1) aC) az)))))),?_⟩;ac_rfl;refine⟨_,I,_,_,I,.inr ⟨_,cC cL,I⟩,I,_,I,?_⟩;cases ds with
  |nil =>
   obtain rfl:vs=[]:=eB;exact eP ⟨H,.refl (c5 _),q⟩
  | cons x r =>
   cases r with
   |cons y r=>cases aA
   |nil =>
    obtain⟨y,r,rfl,aq,d1⟩:=eB;obtain rfl:r=[]:=d1;have aB:(ah::aT fw g x).length<=15000000:=aB;rw[eb]at aB;refine da ⟨_,I,o,c.o 0,ak,_,_,I,aN,T.cl,T.nX,ix ..,i,slot g,gM,gO,I,fk,li,?_⟩;refine⟨_,I,x0 cL (cT (j:=0) I) ⟨i,g,y,x,I,I,fY,i6,i5,aq,aA,by lia,.inr ⟨_,_,rfl,rfl,gW ?_,H,.refl (c5 _),?_⟩⟩⟩
    .rw[vN,dG,dG];simp only[eb,List.length_nil];lia
    .rw[vN,j2];exact q
 |_=>cases aA
def Xq(T:k2 K (c.o 2))(F:dN K "written" "Turned.written" A8 f fd)(ot:aY P w K mg zn 1 "turned_row" ["row"] LB)(lC:hy P w K mg zn (2*n+4) "written" ["self","value"] (fX c) (Se has bD fw c n)):dh P w K mg zn dA (2*n+4+1) f fd ["self","value"] (Se has bD fw c (n+1) (.o 2)):=by
 refine F.fo Xk (fun H vs Q E aw h=>?_);obtain⟨o,bl,v,d,rfl,hs,dk,aP,dq,hd,aA,aB,q⟩:=h;obtain⟨g,rfl⟩:=qv hs;obtain⟨_,ak,i,aN,fY⟩:=dk;have i6:=aP.one;have i5:bc g<=n:=by rw[bc]at dq;lia
 rw[bJ]at aA;rw[aT]at q aB;have aA:bJ bD g d=ah:=aA;have q:Q (.str (aH ((aT fw g d).map (!·)))) H:=q;have aB:((aT fw g d).map (!·)).length<=15000000:=aB;rw[cA]at aB;obtain⟨gM,gO,fk,li⟩:=b6.written g fY;refine⟨_,(aJ (bt (bT ot aw (aj (ij lC aw (d6 (ab 0) I) (aj (ab 1) az)) az)))),?_⟩;ac_rfl;refine⟨_,I,o,c.o 2,ak,_,_,I,aN,T.cl,T.nX,ix ..,i,slot g,gM,gO,I,fk,li,?_⟩;exact⟨_,I,i,g,v,d,I,I,fY,i6,i5,hd,aA,aB,_,I,by lia,H,.refl (c5 _),q⟩
def GS{ls:List (List Bool)}(h:l∈ls):l.length<=ls.flatten.length:=by
 induction ls with
 |nil=>cases h
 |cons a r bK =>
  rw[lH,dP];rcases dd.mp h with rfl|h
  .omega
  .have:=bK h;lia
def GR(ls:List (List Bool)):((ls.map aH).map (·.length)).sum+(ls.map aH).length*(ae.ofString "").length=ls.flatten.length:=by
 have e:(ae.ofString "").length=0:=⋯;rw[e,Nat.mul_zero,Nat.add_zero,gg,List.length_flatten];congr 1;exact nu fun l _=>dG l
theorem Gz(fw:D->List Bool):∀(fs:List bH)(ds:List D),ds.length=fs.length->gk fw fs ds=((List.range fs.length).map fun i=>aT fw (fs.getD i (.bare 0)) (ds.getD i .bf)).flatten
 |[],ds,h=>by rw[gk];rfl
 |f::fs,[],h=>by cases h
 |f::fs,d::ds,h=>by
  rw[gk];show aT fw f d++gk fw fs ds=_;rw[Gz fw fs ds (by simpa using h),eb,List.range_succ_eq_map,fB,lH,gg];rfl
def XW(nb:dn mg)(T:k2 K (c.o 1))(F:dN K "written" "Many.written" AI f fd)(lC:hy P w K mg zn (2*n+4) "written" ["self","value"] (fX c) (Se has bD fw c n)):dh P w K mg zn dA (2*n+4+1) f fd ["self","value"] (Se has bD fw c (n+1) (.o 1)):=by
 refine F.fo XO (fun H vs Q E aw h=>?_);obtain⟨o,bl,v,d,rfl,hs,dk,aP,dq,hd,aA,aB,q⟩:=h;obtain⟨g,rfl⟩:=qv hs;obtain⟨_,ak,i,aN,fY⟩:=dk;have i6:=aP.one;have i5:bc g<=n:=by rw[bc]at dq;lia
 rw[bJ]at aA;rw[aT]at q aB;have aA:t5 (bJ bD g) d=ah:=aA;obtain⟨gM,gO,fk,li⟩:=b6.written g fY;cases d with
 | lst ds =>
  obtain⟨a,vs,rfl,cL,eB,jR⟩:=hd;have c1:=cj.len ds eB;have aA:(decide (ds.length<=60)&&ds.all (bJ bD g))=ah:=aA;obtain⟨CE,f9⟩:=nt.mp aA;have f9:=ig.mp f9;have q:Q (.str (aH ((ds.map fun d=>ah::aT fw g d).flatten++[aE]))) H:=q;have aB:((ds.map fun d=>ah::aT fw g d).flatten++[aE]).length<=15000000:=aB;rw[dP]at aB;refine⟨_,(aJ (bt (aO el (hZ PySem.F.plainAttrs_str PySem.F.slot_str_join PySem.F.type_str_join tm cY (aj (hO ["part"] [(0,"self")] I ⋯ ⟨I,.inl I,trivial⟩ (h4 (ab 1)) (d5 (i:=0) (show(["part","self"]:List ae).Nodup by decide+kernel)) gs (aO el cY (ij lC aw (d6 (ab 1) rfl) (aj (ab 0) az)))) az)) cY))),?_⟩;ac_rfl;refine⟨I,.inl ⟨_,I,a,I,⟨_,ba cL⟩,fun c3 ec=>?_⟩⟩;refine xR (K:=K) (a:=a) (xs:=vs) (fun k=>V.str (aH (ah::aT fw g (ds.getD k .bf)))) (fun U=>∃z,U=[z,J (.ref o)]) (fC (by lia)) ⟨_,I⟩ ec (ba cL) ?_ ?_
  ·rintro k x aq bE H1 ⟨z,rfl⟩ eo R bN;obtain⟨j6,mm,I6⟩:=cj.get ds eB aq;have e:ds.getD k .bf=j6:=by rw[eJ,mm];rfl
   rw[e]at bN;have hm:j6∈ds:=eY mm;have aU:=GS (List.mem_map_of_mem (f:=fun d=>ah::aT fw g d) hm);rw[eb]at aU;refine⟨_,I,o,c.o 1,ak,_,_,I,eo _ _ aN,T.cl,T.nX,ix ..,i,slot g,gM,gO,I,eo _ _ fk,li,?_⟩;refine⟨_,I,i,g,x,j6,I,I,b6.keep (fun b u _ e=>eo b u e) g fY,i6,i5,dj.same eo j6 I6,f9 _ hm,by lia,.inr ⟨_,_,rfl,rfl,gW ?_,?_⟩⟩
   .rw[vN,dG,dG];simp only[eb,List.length_nil];lia
   .rw[vN,j2];exact bN _ ⟨_,I⟩
  ·have e:(List.range vs.length).map (fun k=>V.str (aH (ah::aT fw g (ds.getD k .bf))))=((ds.map fun d=>ah::aT fw g d).map aH).map V.str:=by
    rw[c1];apply List.ext_getElem
    .simp
    ·intro k ai ar;have bz:k<ds.length:=by simpa using ar
     rw[ko,ko,ko,ko,List.getElem_range,eJ,cI bz];rfl
   rw[e];refine⟨_,c3,_,I,I,ba aG,by rw[GR];lia,.inr ⟨_,_,rfl,rfl,gW ?_,H,.refl (cE ec),?_⟩⟩
   .rw[rC,BZ,dG,dG];lia
   .rw[rC,BZ,j2];exact q
 |_=>cases aA
def Xr(nb:dn mg)(T:oB K (c.t 0))(F:dN K "written" "Record.written" A9 f fd)(lC:hy P w K mg zn (2*n+4) "written" ["self","value"] (fX c) (Se has bD fw c n)):dh P w K mg zn dA (2*n+4+1) f fd ["self","value"] (Se has bD fw c (n+1) (.t 0)):=by
 refine F.fo Xl (fun H vs Q E aw h=>?_);obtain⟨o,bl,v,d,rfl,hs,dk,aP,dq,hd,aA,aB,q⟩:=h;obtain⟨ns,fs,rfl⟩:=vG hs;obtain⟨_,ak,a1,a2,os,aN,_,_,ai,ar,fY⟩:=dk;obtain⟨h2,kQ,i6⟩:=aP.two;have i5:gV fs<=n:=by rw[bc]at dq;lia
 have q0:=e8.len fs fY;have CY:=(qH h2).1;rw[bJ]at aA;rw[aT]at q aB;have aA:Ka (eL bD fs) d=ah:=aA;cases d with
 | tup ds =>
  obtain⟨a,vs,rfl,cL,eB,jR⟩:=hd;have q5:=cj.len ds eB;have aA:eL bD fs ds=ah:=aA;have eE:ds.length=fs.length:=Classical.byContradiction fun aV=>by rw[BR bD fs ds aV]at aA;cases aA
  rw[BS bD fs ds eE]at aA;have f9:=ig.mp aA;have q:Q (.str (aH (gk fw fs ds))) H:=q;have aB:(gk fw fs ds).length<=15000000:=aB;rw[Gz fw fs ds eE]at q aB;refine⟨_,(aJ (bt (hZ PySem.F.plainAttrs_str PySem.F.slot_str_join PySem.F.type_str_join tm cY (aj (hO ["form","part"] [] I ⋯ trivial (NN I nb.D1 (aj (d6 (ab 0) I) (aj (ab 1) az))) (oM I (jk (d5 (i:=0) (show(["form","part"]:List ae).Nodup by decide+kernel)) (jk (d5 (i:=1) (show(["form","part"]:List ae).Nodup by decide+kernel)) oy))) gs (ij lC aw (ab 0) (aj (ab 1) az))) az)))),?_⟩;ac_rfl;refine⟨I,_,I,o,c.t 0,ak,_,_,I,aN,T.cl,T.lV,qe _ _ _ _ tD,_,I,a2,a,_,_,I,ba ar,cC cL,fun c3 ec=>?_⟩;refine MT (fun k=>V.str (aH (aT fw (fs.getD k (.bare 0)) (ds.getD k .bf)))) (fun U=>∃di dg,U=[di,dg]) (by rw[cA];lia) ⟨_,_,I⟩ ec (ba ar) (cC cL) ?_ ?_
  ·rintro k x y aq aW bE H1 jM ⟨di,dg,rfl⟩ eo oV R bN;rw[eD]at aq;obtain⟨ud,IM,rfl⟩:=Uf.mp aq;obtain⟨bl,tO,yH⟩:=e8.get fs fY IM;obtain⟨j6,mm,q6⟩:=cj.get ds eB aW;obtain⟨o6,yV⟩:=i6.get tO;have aL:fs.getD k (.bare 0)=bl:=by rw[eJ,tO];rfl
   have aS:ds.getD k .bf=j6:=by rw[eJ,mm];rfl
   have hk:k∈List.range fs.length:=List.mem_range.mpr (gr.mp tO).1;have yR:=f9 k hk;have aU:=GS (List.mem_map_of_mem (f:=fun i=>aT fw (fs.getD i (.bare 0)) (ds.getD i .bf)) hk);rw[aL,aS]at bN yR aU;have ux:=eo.trans (cE (o:=cX.tup [V.ref ud,y]) oV);obtain⟨gM,gO,fk,li⟩:=b6.written bl (b6.keep (fun b u _ e=>ux b u e) bl yH);refine⟨jM,_,I,cC aG,I,_,_,I,_,_,I,I,?_⟩;refine⟨_,I,ud,slot bl,gM,gO,I,fk,li,?_⟩;exact⟨_,I,ud,bl,y,j6,I,I,b6.keep (fun b u _ e=>ux b u e) bl yH,o6,by lia,dj.same ux j6 q6,yR,by lia,bN _ _ ⟨_,_,rfl⟩ (c5 _)⟩
  ·intro H' ka jQ
   have e:(List.range (min (os.map V.ref).length vs.length)).map (fun k=>V.str (aH (aT fw (fs.getD k (.bare 0)) (ds.getD k .bf))))=(((List.range fs.length).map fun k=>aT fw (fs.getD k (.bare 0)) (ds.getD k .bf)).map aH).map V.str:=by
    rw[cA,q5,q0,eE,Nat.min_self,gg,gg];rfl
   rw[e]at jQ;refine⟨_,c3,_,I,I,ba jQ,by rw[GR];lia,H,.refl ka,?_⟩;rw[rC];exact q
 |_=>cases aA
noncomputable def sees(l:List Bool)(t:Bool)(j:Nat):List Bool:=(l.map (xor t)).drop j
def tk{s:List Bool}(h:(r++s) <+: sees l t j):s <+: sees l t (j+r.length):=by
 obtain⟨z,h⟩:=h;refine⟨z,?_⟩;unfold sees at h ⊢;rw[<-List.drop_drop,<-h,gL,List.drop_left]
def qw{s:List Bool}(h:(r++s) <+: sees l t j):r <+: sees l t j:=(List.prefix_append r s).trans h
def tg{b:Bool}(h:(b::r) <+: sees l t j):∃j3,l[j]?=J j3/\xor t j3=b:=by
 obtain⟨z,h⟩:=h;have aX:(sees l t j)[0]?=J b:=by rw[<-h];rfl
 unfold sees at aX;rw[List.getElem?_drop,Nat.add_zero,eD]at aX;obtain⟨j3,aL,aS⟩:=Uf.mp aX;exact⟨j3,aL,aS⟩
def rL(h:r <+: sees l t j)(b0:j<=l.length):j+r.length<=l.length:=by
 have:=h.length_le;unfold sees at this;rw[ie,cA]at this;lia
def aaD(h:(r.map (!·)) <+: sees l t j):r <+: sees l (!t) j:=by
 obtain⟨z,h⟩:=h;refine⟨z.map (!·),?_⟩;unfold sees at h ⊢;have:=congrArg (List.map (!·)) h;rw[fP,gg,List.map_drop,gg]at this;have e:(fun x:Bool=>!x) ∘ (fun x=>!x)=id:=by funext x;cases x<;>rfl
 have aS:(fun x:Bool=>!x) ∘ (xor t)=xor (!t):=by funext x;cases x<;>cases t<;>rfl
 rw[e,List.map_id,aS]at this;exact this
def Gu(h:r <+: sees l t j):((l.drop j).take r.length).map (xor t)=r:=by
 obtain⟨z,h⟩:=h;unfold sees at h;rw[List.map_take,List.map_drop,<-h,List.take_left]
def b6.draw{c:ey}(f:bH){o:af}(h:b6 c X H f o):∃ak fs,H o=J (.ins (fX c (slot f)) ak fs)/\fs.lookup (ae.ofString "draw")=ax :=
 b6.ins (m:=ae.ofString "draw") ⋯ ⋯ ⋯ ⋯ ⋯ ⋯ f h
def d4.alloc{X:cS}(m:d4 p H H')(e:H' p=J o)(h:∀x,x∈X->∃o,H x=J o):∀x,x∈X->∃o,H' x=J o:=fun x aq=>by
 by_cases z:x=p
 .exact⟨o,by rw[z];exact e⟩
 ·obtain⟨u,cz⟩:=h x aq;exact⟨u,m.k x u z cz⟩
def b6.iU{c:ey}(m:d4 p H H')(f:bH){o:af}(h:b6 c [p] H f o):b6 c [p] H' f o:=b6.keep (fun b u n e=>m.k b u (fun z=>n (ft.mpr z)) e) f h
inductive QO(has:fO->Bool)(bD:D->Bool)(fw:D->List Bool)(c:ey)(C:af)(n:Nat)(i:fO)(vs:List V)(H:al)(Q:bI)(E:cB):Prop where
 |mk (o p ak:af) (f:bH) (d:D) (l:List Bool) (j:Nat) (t e:Bool) (X:cS) (aX:vs=[.ref o,.ref p]) (ai:slot f=i) (ar:b6 c [p] H f o) (bz:ll has f) (c0:bc f<=n) (es:H p=J (fi C ak l j t e)) (iN:l.length<=16000000) (mR:j<=l.length) (mS:p∈X) (mT:(∀x,x∈X->∃o,H x=J o)) (CD:bJ bD f d=ah) (yE:aT fw f d <+: sees l t j) (mQ:∀v H',d4 p H H'->b5 X H' d v->H' p=J (fi C ak l (j+(aT fw f d).length) t e)->Q v H')
def d4.step{C ak:af}{j':Nat}{e t' e':Bool}(h:H p=J (fi C ak l j t e)):d4 p H (upd H p (fi C ak l j' t' e')):=d4.move h
def aar(F:dN K "draw" "Nothing.draw" AB f fd):dh P w K mg zn dA 1 f fd ["self","source"] (QO has bD fw c C n (.b 0)):=by
 refine F.fo XN (fun H vs Q E aw h=>?_);obtain⟨o,p,ak,bl,d,l,j,t,e,X,rfl,hs,dk,aP,dq,df,aB,b0,eR,ef,aA,d1,q⟩:=h;have:=ny hs;subst this;rw[aT]at q;rw[bJ]at aA;cases d with
 |bf=>exact⟨_,(aJ (bt pV)),H,.refl (c5 _),q _ _ (d4.refl _ _) I df⟩
 |_=>cases aA
def U2(eF:fT K C)(F:dN K "draw" "Truth.draw" Bi f fd)(hj:gn P w K mg zn 1 C "draw" ["self"] (QV C)):dh P w K mg zn dA 3 f fd ["self","source"] (QO has bD fw c C n (.b 1)):=by
 refine F.fo Yu (fun H vs Q E aw h=>?_);obtain⟨o,p,ak,bl,d,l,j,t,e,X,rfl,hs,dk,aP,dq,df,aB,b0,eR,ef,aA,d1,q⟩:=h;have:=ny hs;subst this;rw[aT]at q d1;rw[bJ]at aA;cases d with
 |aK b =>
  have d1:[b] <+: sees l t j:=d1;obtain⟨j3,gQ,gF⟩:=tg d1;refine⟨_,(aJ (bt (fM c6 (jj hj eF aw (ab 1)) aC))),?_⟩;ac_rfl;refine⟨_,I,p,ak,_,I,df,lJ _ _ _ _ ⋯ ⋯ ⋯,?_⟩;refine⟨p,ak,l,j,t,e,j3,I,⟨_,df⟩,aB,gQ,?_⟩;have M:=d4.step (j':=j+1) (t':=t) (e':=e) df;rw[gF];refine⟨I,_,M.sub aG,?_⟩;have gw:decide (V.int ((b.toNat:Nat):Int)=V.int 1)=b:=by cases b<;>rfl
  rw[gw];exact q _ _ M I aG
 |_=>cases aA
def Wb(T:vy K c.s)(F:dN K "draw" "Span.draw" Br f fd)(oj:aY P w K mg zn 2 "draw_fixed" ["source","most"] (QQ C)):dh P w K mg zn dA 4 f fd ["self","source"] (QO has bD fw c C n .s):=by
 refine F.fo YX (fun H vs Q E aw h=>?_);obtain⟨o,p,ak,bl,d,l,j,t,e,X,rfl,hs,dk,aP,dq,df,aB,b0,eR,ef,aA,d1,q⟩:=h;obtain⟨a,b,rfl⟩:=G5 hs;obtain⟨_,kp,aN⟩:=dk;rw[aT]at q d1;rw[bJ]at aA;cases d with
 |int v =>
  have aA:a<=v/\v<=b:=hX aA;have d1:dB (v-a).toNat (aD (b-a).toNat) <+: sees l t j:=d1;have q:∀(w:V)(H':al),d4 p H H'->b5 X H' (.int v) w->H' p=J (fi C ak l (j+(dB (v-a).toNat (aD (b-a).toNat)).length) t e)->Q w H':=q;rw[ji]at q;have aL:((v-a).toNat:Int)=v-a:=Int.toNat_of_nonneg (by lia);have aS:((b-a).toNat:Int)=b-a:=Int.toNat_of_nonneg (by lia);have o3:=rL d1 b0;have m3:=Gu d1;rw[ji]at o3 m3;have M:=d4.step (j':=j+aD (b-a).toNat) (t':=t) (e':=e) df;refine⟨_,(aJ (bt (aO el (d6 (ab 0) I) (bT oj aw (aj (ab 1) (aj (aO gc (d6 (ab 0) I) (d6 (ab 0) I)) az)))))),?_⟩;ac_rfl;refine⟨_,I,o,c.s,kp,_,_,I,aN,T.cl,T.wX,ix ..,_,I,_,I,o,c.s,kp,_,_,I,aN,T.cl,T.Dm,qe _ _ _ _ Iv,_,I,o,c.s,kp,_,_,I,aN,T.cl,T.wX,ix ..,_,_,I,I,p,ak,l,j,(v-a).toNat,(b-a).toNat,t,e,by rw[aS];rfl,df,aB,by lia,o3,m3,.inl ⟨_,_,rfl,rfl,_,M.sub aG,?_⟩⟩;exact q _ _ M (by show V.int _=V.int _;congr 1;lia) aG
 |_=>cases aA
def abl(eF:fT K C)(T:k2 K (c.o 2))(F:dN K "draw" "Turned.draw" AO f fd)(l7:gn P w K mg zn 1 C "turn" ["self"] (R6 C))(l0:hy P w K mg zn (2*n+4) "draw" ["self","source"] (fX c) (QO has bD fw c C n)):dh P w K mg zn dA (2*n+4+1) f fd ["self","source"] (QO has bD fw c C (n+1) (.o 2)):=by
 refine F.fo LM (fun H vs Q E aw h=>?_);obtain⟨o,p,ak,bl,d,l,j,t,e,X,rfl,hs,dk,aP,dq,df,aB,b0,eR,ef,aA,d1,q⟩:=h;obtain⟨g,rfl⟩:=qv hs;obtain⟨nY,kp,i,aN,fY⟩:=dk;have i6:=aP.one;have i5:bc g<=n:=by rw[bc]at dq;lia
 rw[bJ]at aA;rw[aT]at q d1;have aA:bJ bD g d=ah:=aA;have d1:(aT fw g d).map (!·) <+: sees l t j:=d1;have q:∀(w:V)(H':al),d4 p H H'->b5 X H' d w->H' p=J (fi C ak l (j+((aT fw g d).map (!·)).length) t e)->Q w H':=q;rw[cA]at q;have op:o≠p:=fun z=>nY (ft.mpr z);have gD:=d4.step (j':=j) (t':=!t) (e':=e) df;have rX:=b6.iU gD g fY;obtain⟨gM,gO,fk,li⟩:=b6.draw g rX
 refine⟨_,(aI (ik (jj l7 eF aw (ab 1)))
  (aI (bM 2 LM.bj (ij l0 aw (d6 (ab 0) rfl) (aj (ab 1) az)))
  (aI (ik (jj l7 eF aw (ab 1)))
  (aJ (bt (ab 2)))))),?_⟩
 ac_rfl;refine⟨_,I,p,ak,_,I,df,lJ _ _ _ _ ⋯ ⋯ ⋯,p,ak,l,j,t,e,0,I,df,?_⟩;refine⟨_,I,o,c.o 2,kp,_,_,I,gD.k _ _ op aN,T.cl,T.nX,ix ..,i,slot g,gM,gO,I,fk,li,?_⟩;refine⟨_,I,i,p,ak,g,d,l,j,!t,e,X,I,I,rX,i6,i5,aG,aB,b0,eR,d4.alloc gD aG ef,aA,aaD d1,fun v ao M2 dH g8=>?_⟩;have h9:=d4.step (j':=j+(aT fw g d).length) (t':=t) (e':=e) g8;refine⟨_,I,p,ak,_,I,g8,lJ _ _ _ _ ⋯ ⋯ ⋯,p,ak,l,_,!t,e,0,I,g8,?_⟩;rw[Bool.not_not];have M:=(gD.trans M2).trans h9;exact⟨_,I,_,M.sub aG,q _ _ M (b5.keep (fun b u n e=>h9.k b u (fun z=>n (by rw[z];exact eR)) e) d dH) aG⟩
def d4.Qt{lv:af}(aX:H lv=ax)(m:d4 p H H1)(ai:H1 lv=J (.lst vs)):d4 p H (upd H1 lv (.lst ws)) :=
 ⟨fun b u n e=>by rw[bC (fun z=>by rw[z,aX]at e;cases e)];exact m.k b u n e,fun cl=>vw ai (m.c cl)⟩
def BE(ds:List α)(k:Nat)(f:α->List Bool):(ds.map f).flatten=((ds.take k).map f).flatten++((ds.drop k).map f).flatten:=by
 rw[<-List.flatten_append,<-fP,List.take_append_drop]
def Wc(nb:dn mg)(p4:hi mg "MOST_VALUES" (.int 60))(eF:fT K C)(T:k2 K (c.o 1))(F:dN K "draw" "Many.draw" Bv f fd)(hj:gn P w K mg zn 1 C "draw" ["self"] (QV C))(l6:gn P w K mg zn 1 C "refuse" ["self"] uC)(l0:hy P w K mg zn (2*n+4) "draw" ["self","source"] (fX c) (QO has bD fw c C n)):dh P w K mg zn dA (2*n+4+1) f fd ["self","source"] (QO has bD fw c C (n+1) (.o 1)):=by show_term
 refine F.fo L0 (fun H vs Q E aw h=>?_);obtain⟨o,p,ak,bl,d,l,j,t,e,X,rfl,hs,dk,aP,dq,df,aB,b0,eR,ef,aA,d1,q⟩:=h;obtain⟨g,rfl⟩:=qv hs;obtain⟨nY,kp,i,aN,fY⟩:=dk;have i6:=aP.one;have i5:bc g<=n:=by rw[bc]at dq;lia
 rw[bJ]at aA;rw[aT]at q d1;have aA:t5 (bJ bD g) d=ah:=aA;cases d with
 | lst ds =>
  have aA:(decide (ds.length<=60)&&ds.all (bJ bD g))=ah:=aA;obtain⟨CE,f9⟩:=nt.mp aA;have CE:=hX CE;have f9:=ig.mp f9;have d1:((ds.map fun d=>ah::aT fw g d).flatten++[aE]) <+: sees l t j:=d1;have q:∀(w:V)(H':al),d4 p H H'->b5 X H' (.lst ds) w->H' p=J (fi C ak l (j+((ds.map fun d=>ah::aT fw g d).flatten++[aE]).length) t e)->Q w H':=q;have op:o≠p:=fun z=>nY (ft.mpr z)
  refine⟨_,(aI (bM 2 L0.bj (hB az))
  (aI (qC iB.never (b9 c6 (jj hj eF aw (ab 1)) aC)
   (aI (cw (b9 c6 (b8 dx rfl nb.dr dv (aj (ab 2) az)) (mc p4)) (aJ (ik (jj l6 eF aw (ab 1)))) cx)
   (aJ (ik (hZ PySem.F.plainAttrs_list PySem.F.slot_list_append PySem.F.type_list_append qt (ab 2) (aj (ij l0 aw (d6 (ab 0) rfl) (aj (ab 1) az)) az))))))
  (aJ (bt (ab 2))))),?_⟩
  ac_rfl;refine⟨UF _,fun lv tS=>?_⟩;have nQ:p≠lv:=fun z=>by rw[<-z,df]at tS;cases tS
  have afa:lv∉X:=fun z=>by obtain⟨u,cz⟩:=ef lv z;rw[tS]at cz;cases cz
  have xG:d4 p H (upd H lv (.lst [])):=⟨fun b u _ e=>cE tS b u e,fun cl=>vv cl tS trivial⟩;refine⟨fun m U ao=>∃(k:Nat)(vs:List V),k<=ds.length/\m=ds.length-k/\U=[J (.ref o),J (.ref p),J (.ref lv)]/\d4 p H ao/\ao lv=J (.lst vs)/\bx (cS.j4 lv X) ao (ds.take k) vs/\ao p=J (fi C ak l (j+(((ds.take k).map fun d=>ah::aT fw g d).flatten).length) t e),⟨ds.length,0,[],UF _,I,I,xG,aG,I,cE tS _ _ df⟩,?_⟩;rintro m U ao ⟨k,vs,hk,rfl,rfl,M2,gb,dH,g8⟩;have jq:=d1;rw[BE ds k,gL]at jq;have jq:=tk jq;have nO:=rL (qw (by have:=d1;rw[BE ds k,gL]at this;exact this)) b0;generalize yX:j+(((ds.take k).map fun d=>ah::aT fw g d).flatten).length=ky at g8 jq nO;refine⟨_,I,p,ak,_,I,g8,lJ _ _ _ _ ⋯ ⋯ ⋯,?_⟩;have h9:=d4.step (j':=ky+1) (t':=t) (e':=e) g8;have jR:=cj.len _ (bx.at _ dH);rcases g5 k ds.length with z|z
  ·have kq:ds.drop k=ds[k]::ds.drop (k+1):=nq z;rw[kq,fB,lH,List.cons_append,List.cons_append]at jq;obtain⟨j3,gQ,gF⟩:=tg jq;refine⟨p,ak,l,ky,t,e,j3,I,⟨_,g8⟩,aB,gQ,?_⟩;rw[gF];refine⟨I,_,I,eP ⟨_,fun _ _ h=>h,?_⟩⟩;have p9:=h9.k _ _ (ei nQ) gb;have qU:bx (cS.j4 lv X) _ (ds.take k) vs:=bx.keep (fun b u nb e=>h9.k b u (fun z=>nb (cS.dT (by rw[z];exact eR))) e) _ dH;have qy:=M2.trans h9;have tI:upd ao p (fi C ak l (ky+1) t e) p=_:=aG;generalize upd ao p (fi C ak l (ky+1) t e)=bp at h9 p9 qU qy tI ⊢;have m3:(ds.take k).length=k:=by rw[hN];lia
   refine⟨_,I,_,_,I,.inl ⟨_,ba p9,I⟩,I,_,I,fh (by intro z;have:=V.int.inj z;lia) ?_⟩;have OT:=b6.iU qy g fY;obtain⟨gM,gO,fk,li⟩:=b6.draw g OT
   have IW:(aT fw g ds[k]++(((ds.drop (k+1)).map fun d=>ah::aT fw g d).flatten++[aE])) <+: sees l t (ky+1):=by
    rw[<-gL];exact tk (r:=[ah]) jq
   have qY:=rL (qw (r:=[ah]) jq) nO;rw[k5]at qY;refine⟨_,I,.inl ⟨I,_,ba p9⟩,?_⟩;refine⟨_,I,o,c.o 1,kp,_,_,I,qy.k _ _ op aN,T.cl,T.nX,ix ..,i,slot g,gM,gO,I,fk,li,?_⟩;refine⟨_,I,i,p,ak,g,ds[k],l,ky+1,t,e,cS.j4 lv X,I,I,OT,i6,i5,tI,aB,qY,cS.dT eR,?_,f9 _ (List.getElem_mem z),qw IW,fun v gJ qz nL yK=>?_⟩
   ·intro x aq;rcases aq with rfl|aq
    .exact⟨_,p9⟩
    .exact d4.alloc qy tI ef x aq
   have Pl:=qz.k _ _ (ei nQ) p9;have TV:=qy.trans qz;refine⟨lv,_,_,I,I,Pl,fK (show vs.length<100000 by lia) (by decide),?_⟩;refine⟨ds.length-(k+1),by lia,k+1,vs++[v],by lia,rfl,rfl,d4.Qt tS TV Pl,aG,?_,?_⟩
   ·rw[<-List.take_append_getElem z];refine bx.keep (fun b u nb e=>by rw[bC (fun z=>nb (by rw[z];exact cS.hd))];exact e) _ (bx.snoc nL _ ?_);exact bx.keep (fun b u nb e=>qz.k b u (fun z=>nb (cS.dT (by rw[z];exact eR))) e) _ qU
   ·rw[bC nQ,yK]
    have yw:ky+1+(aT fw g ds[k]).length=j+(((ds.take (k+1)).map fun d=>ah::aT fw g d).flatten).length:=by
     rw[<-List.take_append_getElem z,fP,List.flatten_append,dP];simp only[fB,List.map_nil,lH,List.flatten_nil,List.append_nil,eb];lia
    rw[yw]
  ·have wu:k=ds.length:=by lia
   subst wu;rw[List.drop_length,List.map_nil,List.flatten_nil,List.nil_append]at jq;rw[List.take_length]at yX dH jR;obtain⟨j3,gQ,gF⟩:=tg jq;refine⟨p,ak,l,ky,t,e,j3,I,⟨_,g8⟩,aB,gQ,?_⟩;rw[gF];refine⟨I,_,I,da ?_⟩;have M:=M2.trans h9;refine⟨_,I,_,M.sub aG,q _ _ M ⟨lv,vs,I,afa,?_,?_,by lia⟩ ?_⟩
   .rw[bC (ei nQ)];exact gb
   .exact bx.keep (fun b u nb e=>h9.k b u (fun z=>nb (by rw[z];exact eR)) e) _ (bx.weak (fun x aq=>cS.dT aq) _ dH)
   ·rw[aG,dP,k5,<-yX];congr 2
 |_=>cases aA
def qF{K:bS}{a:af}{D:af}(Inv:Nat->List V->al->Prop)(S:St->Prop)(bV:xs.length<=100000)(aX:S ew)
  (aB:∀i ay ao,Inv i ay ao->cZ K ao a xs) (ai:Inv 0 [] (upd H D (.lst [])))
  (bc:∀i x,xs[i]?=J x->∀ay bE H1,S bE->Inv i ay H1->H1 D=J (.lst ay)->ay.length=i->∀R:St->V->al->Prop,(∀bg y bp,S bg->bp D=J (.lst ay)->Inv (i+1) (ay++[y]) (upd bp D (.lst (ay++[y])))->R bg y bp)->g x bE H1 fun bg ao=>cJ bg ao fun y bp=>R bg y bp)
  (bo:∀(ay:List V)(H':al),ay.length=xs.length->H' D=J (.lst ay)->Inv xs.length ay H'->Q (.ref D) H') :
  k0 (pL K a) g n4 cJ Q ew H D:=by
 refine⟨fun i m bE ao=>i<=xs.length/\m=xs.length-i/\S bE/\∃ay:List V,ay.length=i/\ao D=J (.lst ay)/\Inv i ay ao,⟨xs.length,UF _,I,aX,[],I,aG,ai⟩,?_⟩;rintro i m bE ao ⟨aF,rfl,ar,ay,aW,iO,cV⟩;have gb:=aB i ay ao cV;rcases g5 i xs.length with z|z
 ·refine .inr ⟨⟨xs,xs[i],gb,cI z⟩,?_⟩;rintro x bp ⟨rfl,aq⟩;have aq:=aq xs gb;refine bc i x aq ay bE _ ar cV iO aW (fun bg y dm=>∃zs bU,dm D=J (.lst zs)/\zs.length<cg/\bU<xs.length-i/\(i+1<=xs.length/\bU=xs.length-(i+1)/\S bg/\∃ws:List V,ws.length=i+1/\upd dm D (.lst (zs++[y])) D=J (.lst ws)/\Inv (i+1) ws (upd dm D (.lst (zs++[y]))))) fun bg y dm eS p5 yI=>?_;exact⟨ay,xs.length-(i+1),p5,fK (show ay.length<100000 by lia) (by decide),by lia,by lia,rfl,eS,ay++[y],by rw[dP,aW];rfl,aG,yI⟩
 ·have e:i=xs.length:=by lia
  subst e;exact .inl ⟨⟨xs,gb,cp _⟩,bo ay ao aW iO cV⟩
def abm(nb:dn mg)(T:oB K (c.t 0))(F:dN K "draw" "Record.draw" AV f fd)(l0:hy P w K mg zn (2*n+4) "draw" ["self","source"] (fX c) (QO has bD fw c C n)):dh P w K mg zn dA (2*n+4+1) f fd ["self","source"] (QO has bD fw c C (n+1) (.t 0)):=by show_term
 refine F.fo X9 (fun H vs Q E aw h=>?_);obtain⟨o,p,ak,bl,d,l,j,t,e,X,rfl,hs,dk,aP,dq,df,aB,b0,eR,ef,aA,d1,q⟩:=h;obtain⟨ns,fs,rfl⟩:=vG hs;obtain⟨nY,kp,a1,a2,os,aN,e0,dS,ai,ar,tF⟩:=dk;obtain⟨h2,kQ,i6⟩:=aP.two;have i5:gV fs<=n:=by rw[bc]at dq;lia
 have q0:=e8.len fs tF;have CY:=(qH h2).1;rw[bJ]at aA;rw[aT]at q d1;cases d with
 | tup ds =>
  have aA:eL bD fs ds=ah:=aA
  have la:ds.length=fs.length:=by
   rcases Nat.decEq ds.length fs.length with z|z
   .rw[BR bD fs ds z]at aA;cases aA
   .exact z
  rw[BS bD fs ds la]at aA;have f9:=ig.mp aA;have d1:gk fw fs ds <+: sees l t j:=d1;have q:∀(w:V)(H':al),d4 p H H'->b5 X H' (.tup ds) w->H' p=J (fi C ak l (j+(gk fw fs ds).length) t e)->Q w H':=q;rw[Gz fw fs ds la]at d1 q;have op:o≠p:=fun z=>nY (ft.mpr z);have abr:a2≠p:=fun z=>dS (ft.mpr z);have abV:∀{i:Nat}{x:D},ds[i]?=J x->ds.getD i .bf=x:=fun h=>by rw[eJ,h];rfl
  have HF:∀{i:Nat}{x:bH},fs[i]?=J x->fs.getD i (.bare 0)=x:=fun h=>by rw[eJ,h];rfl
  obtain⟨pl,hq⟩:∃pl:Nat->Nat,pl=fun i=>j+(((List.range i).map fun i=>aT fw (fs.getD i (.bare 0)) (ds.getD i .bf)).flatten).length:=⟨_,rfl⟩
  have agD:∀i,pl (i+1)=pl i+(aT fw (fs.getD i (.bare 0)) (ds.getD i .bf)).length:=fun i=>by
   rw[hq];show j+_=j+_+_;rw[List.range_succ,fP,List.flatten_append,dP];simp only[fB,List.map_nil,lH,List.flatten_nil,List.append_nil];lia
  have ai2:∀i,i<fs.length->aT fw (fs.getD i (.bare 0)) (ds.getD i .bf) <+: sees l t (pl i)/\pl i<=l.length:=fun i aF=>by
   have h:=d1;rw[BE (List.range fs.length) i]at h;have jo:(List.range fs.length).take i=List.range i:=by rw[List.take_range,Nat.min_eq_left (by lia)]
   have kq:(List.range fs.length).drop i=i::(List.range fs.length).drop (i+1):=by
    rw[nq (by rw[kK];exact aF),List.getElem_range]
   rw[jo,kq,fB,lH]at h;have ar:=rL (qw h) b0;have bz:=qw (tk h);rw[hq];exact⟨bz,ar⟩
  refine⟨_,(aJ (bt (oE FF I nb.pz oG (aj (hO ["form"] [(1,"source")] I ⋯ ⟨I,.inl I,trivial⟩ (h4 (d6 (ab 0) I)) (d5 (i:=0) (show(["form","source"]:List ae).Nodup by decide+kernel)) gs (ij l0 aw (ab 0) (aj (ab 1) az))) az)))),?_⟩;ac_rfl;refine .inl ⟨_,I,o,c.t 0,kp,_,_,I,aN,T.cl,T.lV,qe _ _ _ _ tD,a2,I,⟨_,ba ar⟩,fun c3 ec=>?_⟩;have Jt:p≠c3:=fun z=>by rw[<-z,df]at ec;cases ec
  have akM:c3∉X:=fun z=>by obtain⟨u,cz⟩:=ef c3 z;rw[ec]at cz;cases cz
  refine qF (K:=K) (a:=a2) (xs:=os.map V.ref) (fun i ay ao=>d4 p H ao/\bx (cS.j4 c3 X) ao (ds.take i) ay/\ao p=J (fi C ak l (pl i) t e)) (fun U=>∃z,U=[z,J (.ref p)]) (by rw[cA];lia) ⟨_,I⟩ ?_ ?_ ?_ ?_
  ·rintro i ay ao ⟨m,_⟩;exact ba (m.k _ _ abr ar)
  .exact⟨⟨fun b u _ e=>cE ec b u e,fun cl=>vv cl ec trivial⟩,I,by rw[bC Jt,df,hq];rfl⟩
  ·rintro i x aq ay bE H1 ⟨z,rfl⟩ ⟨fy,ku,CP⟩ hS jr R bN;rw[eD]at aq;obtain⟨Qc,aee,rfl⟩:=Uf.mp aq;obtain⟨CC,Iq,adi⟩:=e8.get fs tF aee;obtain⟨o6,yV⟩:=i6.get Iq;have aF:i<fs.length:=(gr.mp Iq).1;have adB:ds[i]?=J ds[i]:=cI (by lia);obtain⟨PD,ael⟩:=ai2 i aF;have O9:=f9 i (List.mem_range.mpr aF);have wy:=agD i;rw[HF Iq,abV adB]at PD O9 wy;have OS:=b6.iU fy CC adi;obtain⟨gM,gO,fk,li⟩:=b6.draw CC OS;refine⟨_,I,Qc,slot CC,gM,gO,I,fk,li,?_⟩;refine⟨_,I,Qc,p,ak,CC,ds[i],l,pl i,t,e,cS.j4 c3 X,I,I,OS,o6,by lia,CP,aB,ael,cS.dT eR,?_,O9,PD,fun v gJ qz nL yK=>?_⟩
   ·intro x aq;rcases aq with rfl|aq
    .exact⟨_,hS⟩
    .exact d4.alloc fy CP ef x aq
   have yF:=qz.k _ _ (ei Jt) hS;refine bN _ _ _ ⟨_,I⟩ yF ⟨d4.Qt ec (fy.trans qz) yF,?_,?_⟩
   ·rw[<-List.take_append_getElem (by lia)];refine bx.keep (fun b u nb e=>by rw[bC (fun z=>nb (by rw[z];exact cS.hd))];exact e) _ (bx.snoc nL _ ?_);exact bx.keep (fun b u nb e=>qz.k b u (fun z=>nb (cS.dT (by rw[z];exact eR))) e) _ ku
   .rw[bC Jt,yK,wy]
  ·rintro ay ao jr hS ⟨kT,dH,g8⟩;rw[cA]at jr dH g8;rw[UV (by lia)]at dH;refine⟨c3,ay,I,.inl ⟨ba hS,fun jM oV=>?_⟩⟩;have T5:jM∉X:=fun z=>by obtain⟨u,cz⟩:=d4.alloc kT g8 ef jM z;rw[oV]at cz;cases cz
   have Qi:p≠jM:=fun z=>by rw[<-z,g8]at oV;cases oV
   have PX:d4 p H (upd ao jM (.tup ay)):=kT.ext (Ext.tup oV);refine⟨_,PX.sub (by rw[bC Qi];exact g8),q _ _ PX ⟨jM,ay,I,T5,aG,bx.same (cE oV) (bx.weak (fun x aq=>cS.dT aq) _ dH),by lia⟩ ?_⟩;rw[bC Qi,g8,q0,hq]
 |_=>cases aA
def aas(nb:dn mg)(p3:hi mg "LONGEST_TEXT" (.int 200))(eF:fT K C)(T:s6 K c.l)(F:dN K "draw" "Letters.draw" AK f fd)(hj:gn P w K mg zn 1 C "draw" ["self"] (QV C))(l6:gn P w K mg zn 1 C "refuse" ["self"] uC)(oj:aY P w K mg zn 2 "draw_fixed" ["source","most"] (QQ C)):dh P w K mg zn dA 4 f fd ["self","source"] (QO has bD fw c C n .l):=by show_term
 refine F.fo Fh (fun H vs Q E aw h=>?_);obtain⟨o,p,ak,bl,d,l,j,t,e,X,rfl,hs,dk,aP,dq,df,aB,b0,eR,ef,aA,d1,q⟩:=h;obtain⟨cu,rfl⟩:=G6 hs;obtain⟨nY,kp,aN⟩:=dk;rw[bJ]at aA;rw[aT]at q d1;cases d with
 | str w =>
  have aA:(decide (w.length<=200)&&js w cu)=ah:=aA;obtain⟨wc,hm⟩:=nt.mp aA;have wc:=hX wc;have tT:oU cu=ah/\cu.length<=60:=by have:=aP.1;rw[m5]at this;exact this
  obtain⟨cs,wq⟩:∃cs,cs=w.cps.toList:=⟨_,rfl⟩;have kP:cs.length=w.length:=by rw[wq];exact jh
  have d1:((w.cps.toList.map fun c=>ah::dB (cu.cps.toList.idxOf c) (aD (cu.length-1))).flatten++[aE]) <+: sees l t j:=d1;have q:∀(v:V)(H':al),d4 p H H'->b5 X H' (.str w) v->H' p=J (fi C ak l (j+((w.cps.toList.map fun c=>ah::dB (cu.cps.toList.idxOf c) (aD (cu.length-1))).flatten++[aE]).length) t e)->Q v H':=q;rw[<-wq]at d1 q;have IF:∀ch,ch∈cs->ch∈cu.cps.toList:=fun ch h=>hX (ig.mp hm ch (by rw[<-wq];exact h));have op:o≠p:=fun z=>nY (ft.mpr z)
  refine⟨_,(aI (bM 2 Fh.bj cY)
  (aI (qC iB.never (b9 c6 (jj hj eF aw (ab 1)) aC)
   (aI (cw (b9 c6 (b8 dx rfl nb.dr dv (aj (ab 2) az)) (mc p3)) (aJ (ik (jj l6 eF aw (ab 1)))) cx)
   (aJ (bM 2 Fh.bj (aO el (ab 2) (bW bY (d6 (ab 0) rfl) (bT oj aw (aj (ab 1) (aj (aO gc (b8 dx rfl nb.dr dv (aj (d6 (ab 0) rfl) az)) aC) az)))))))))
  (aJ (bt (ab 2))))),?_⟩
  ac_rfl;refine⟨fun m U ao=>∃k:Nat,k<=cs.length/\m=cs.length-k/\U=[J (.ref o),J (.ref p),J (.str ⟨(cs.take k).toArray⟩)]/\d4 p H ao/\ao p=J (fi C ak l (j+(((cs.take k).map fun c=>ah::dB (cu.cps.toList.idxOf c) (aD (cu.length-1))).flatten).length) t e),⟨cs.length,0,UF _,I,by rw[List.take_zero];rfl,d4.refl _ _,df⟩,?_⟩;rintro m U ao ⟨k,hk,rfl,rfl,M2,g8⟩;have jq:=d1;rw[BE cs k,gL]at jq;have nO:=rL (qw jq) b0;have jq:=tk jq;generalize yX:j+(((cs.take k).map fun c=>ah::dB (cu.cps.toList.idxOf c) (aD (cu.length-1))).flatten).length=ky at g8 jq nO;refine⟨_,I,p,ak,_,I,g8,lJ _ _ _ _ ⋯ ⋯ ⋯,?_⟩;have h9:=d4.step (j':=ky+1) (t':=t) (e':=e) g8;rcases g5 k cs.length with z|z
  ·have kq:cs.drop k=cs[k]::cs.drop (k+1):=nq z;rw[kq,fB,lH,List.cons_append,List.cons_append]at jq;obtain⟨j3,gQ,gF⟩:=tg jq;refine⟨p,ak,l,ky,t,e,j3,I,⟨_,g8⟩,aB,gQ,?_⟩;rw[gF];refine⟨I,_,I,eP ⟨_,fun _ _ h=>h,?_⟩⟩;have qy:=M2.trans h9;have tI:upd ao p (fi C ak l (ky+1) t e) p=_:=aG;generalize upd ao p (fi C ak l (ky+1) t e)=bp at h9 qy tI ⊢;have m3:(⟨(cs.take k).toArray⟩:ae).length=k:=by show(cs.take k).toArray.size=k;rw[eU,hN];lia
   have IW:(dB (cu.cps.toList.idxOf cs[k]) (aD (cu.length-1))++(((cs.drop (k+1)).map fun c=>ah::dB (cu.cps.toList.idxOf c) (aD (cu.length-1))).flatten++[aE])) <+: sees l t (ky+1):=by
    rw[<-gL];exact tk (r:=[ah]) jq
   have qY:=rL (qw (r:=[ah]) jq) nO;rw[k5]at qY;have wm:=qw IW;have o3:=rL wm qY;have gV:=Gu wm;rw[ji]at o3 gV
   have hH:cu.cps.toList.idxOf cs[k]<cu.length:=by
    have:=List.idxOf_lt_length_iff.mpr (IF _ (List.getElem_mem z));rwa [jh]at this
   have qz:=d4.step (j':=ky+1+aD (cu.length-1)) (t':=t) (e':=e) tI;have aS:(cu.length:Int)-1=((cu.length-1:Nat):Int):=by lia
   have Pt:=qy.k _ _ op aN
   have i4:ed cu.cps.toList ((cu.cps.toList.idxOf cs[k]:Nat):Int)=J cs[k]:=by
    refine cT ?_;rw[cI (by rw[jh];exact hH),List.getElem_idxOf]
   refine⟨_,I,_,_,I,⟨fC (by lia),I⟩,I,_,I,fh (by intro z;have:=V.int.inj z;lia) ?_⟩;refine⟨_,I,_,I,o,c.l,kp,_,_,I,Pt,T.cl,T.pd,ix ..,?_⟩;refine⟨_,I,_,I,o,c.l,kp,_,_,I,Pt,T.cl,T.pd,ix ..,_,_,I,⟨fC (by lia),I⟩,_,_,I,I,p,ak,l,ky+1,cu.cps.toList.idxOf cs[k],cu.length-1,t,e,by rw[<-aS];rfl,tI,aB,by lia,o3,gV,?_⟩;refine .inr ⟨_,_,cs[k],I,I,fC (by lia),i4,.inr ⟨_,_,I,I,fC (by rw[m3];exact dF (Nat.add_le_add (show k<=300 by lia) (cp 1)) (by decide)),?_⟩⟩;refine⟨cs.length-(k+1),by lia,k+1,by lia,rfl,?_,qy.trans qz,?_⟩
   ·have aZ:(⟨(cs.take k).toArray⟩:ae)++(⟨#[cs[k]]⟩:ae)=⟨(cs.take (k+1)).toArray⟩:=by
     rw[<-List.take_append_getElem z];apply x7;rw[vQ]
    rw[aZ];rfl
   ·rw[aG]
    have yw:ky+1+aD (cu.length-1)=j+(((cs.take (k+1)).map fun c=>ah::dB (cu.cps.toList.idxOf c) (aD (cu.length-1))).flatten).length:=by
     rw[<-List.take_append_getElem z,fP,List.flatten_append,dP];simp only[fB,List.map_nil,lH,List.flatten_nil,List.append_nil,eb,ji];lia
    rw[yw]
  ·have wu:k=cs.length:=by lia
   subst wu;rw[List.drop_length,List.map_nil,List.flatten_nil,List.nil_append]at jq;rw[List.take_length]at yX;obtain⟨j3,gQ,gF⟩:=tg jq;refine⟨p,ak,l,ky,t,e,j3,I,⟨_,g8⟩,aB,gQ,?_⟩;rw[gF];refine⟨I,_,I,da ?_⟩;have M:=M2.trans h9;refine⟨_,I,_,M.sub aG,q _ _ M ⟨?_,by lia⟩ ?_⟩
   .rw[List.take_length,wq]
   ·rw[aG,dP,k5,<-yX];congr 2
 |_=>cases aA
noncomputable def idxs(s t:ae):List Nat:=t.cps.toList.map fun c=>s.cps.toList.idxOf c
inductive RC(C:af)(vs:List V)(H:al)(Q:bI)(E:cB):Prop where
 |mk (o ak:af) (s t:ae) (aX:vs=[.ref o,.str t]) (ai:H o=J (.ins C ak [("signs",.str s)])) (ar:js t s=ah) (bz:t.length<=200) (c0:∀r,H r=ax->Q (.ref r) (upd H r (.lst ((idxs s t).map fun k=>V.int ((k:Nat):Int)))))
def Xs(T:s6 K C)(F:dN K "places" "Letters.places" Ba f fd):dh P w K mg zn dA 1 f fd ["self","text"] (RC C):=by
 refine F.fo Xm (fun H vs Q E aw h=>?_);obtain⟨o,ak,cu,t,rfl,aN,hm,aB,q⟩:=h;refine⟨_,(aJ (bt (hO ["sign"] [(0,"self")] I ⋯ ⟨I,.inl I,trivial⟩ (h4 (ab 1)) (d5 (i:=0) (show(["sign","self"]:List ae).Nodup by decide+kernel)) gs (hZ PySem.F.plainAttrs_str PySem.F.slot_str_index PySem.F.type_str_index Go (d6 (ab 1) rfl) (aj (ab 0) az))))),?_⟩;ac_rfl;refine .inr ⟨_,I,_,I,fun D c2=>?_⟩;refine BW (fun c=>V.int ((cu.cps.toList.idxOf c:Nat):Int)) (fun U=>∃z,U=[z,J (.ref o)]) (fC (by show t.length<=_;lia)) ⟨_,I⟩ c2 ?_ ?_
 ·rintro ch hc bE H1 ⟨z,rfl⟩ eo R bN;refine⟨_,I,o,C,ak,_,_,I,eo _ _ aN,T.cl,T.pd,ix ..,?_⟩;exact⟨I,_,I,cu,ch,I,I,hX (ig.mp hm ch hc),bN _ ⟨_,I⟩⟩
 ·refine⟨_,.new c2 (cE c2) aG trivial,?_⟩;have q:=q D c2;unfold idxs at q;rw[gg]at q;exact q
def Xj(nb:dn mg)(T:s6 K c.l)(F:dN K "written" "Letters.written" Wp f fd)(eF:fT K c.l)(xH:gn P w K mg zn 1 c.l "places" ["self","text"] (RC c.l))(om:aY P w K mg zn 2 "fixed_row" ["n","most"] QZ):dh P w K mg zn dA 3 f fd ["self","value"] (Se has bD fw c n .l):=by show_term
 refine F.fo LD (fun H vs Q E aw h=>?_);obtain⟨o,bl,v,d,rfl,hs,dk,aP,dq,hd,aA,aB,q⟩:=h;obtain⟨cu,rfl⟩:=G6 hs;obtain⟨_,ak,aN⟩:=dk;rw[bJ]at aA;rw[aT]at q aB;cases d with
 | str t =>
  obtain⟨rfl,_⟩:=hd;have aA:(decide (t.length<=200)&&js t cu)=ah:=aA;obtain⟨wc,hm⟩:=nt.mp aA;have wc:=hX wc;have tT:oU cu=ah/\cu.length<=60:=by have:=aP.1;rw[m5]at this;exact this
  refine⟨_,(aI (bM 2 LD.bj (aO gc (b8 dx I nb.dr dv (aj (d6 (ab 0) I) az)) aC))
  (aJ (bt (aO el (hZ PySem.F.plainAttrs_str PySem.F.slot_str_join PySem.F.type_str_join tm cY (aj (hO ["place"] [(2,"most")] rfl ⋯ ⟨rfl,.inl rfl,trivial⟩ (h4 (oF xH eF aw (ab 0) (aj (ab 1) az))) (d5 (i:=0) (show(["place","most"]:List ae).Nodup by decide+kernel)) gs (aO el cY (bT om aw (aj (ab 0) (aj (ab 1) az))))) az)) cY)))),?_⟩
  ac_rfl;have q:Q (.str (aH ((t.cps.toList.map fun c=>ah::dB (cu.cps.toList.idxOf c) (aD (cu.length-1))).flatten++[aE]))) H:=q;have aB:((t.cps.toList.map fun c=>ah::dB (cu.cps.toList.idxOf c) (aD (cu.length-1))).flatten++[aE]).length<=15000000:=aB;rw[dP]at aB;refine⟨_,I,o,c.l,ak,_,_,I,aN,T.cl,T.pd,ix ..,_,_,I,⟨fC (by lia),I⟩,_,_,I,I,?_⟩
  have Ds:List.lookup (ae.ofString "places") [(ae.ofString "signs",V.str cu)]=ax:=by
   unfold List.lookup;rw[show(ae.ofString "places" == ae.ofString "signs")=aE by decide+kernel];rfl
  refine⟨I,.inl ⟨_,I,o,ak,_,I,aN,Ds,_,I,o,ak,cu,t,I,aN,hm,wc,fun r fH=>?_⟩⟩;have alM:(idxs cu t).length=t.length:=by unfold idxs;rw[cA];exact jh
  refine⟨r,I,⟨_,ba aG⟩,fun c3 ec=>?_⟩;refine xR (K:=K) (a:=r) (xs:=(idxs cu t).map fun k=>V.int ((k:Nat):Int)) (fun k=>V.str (aH (ah::dB ((idxs cu t).getD k 0) (aD (cu.length-1))))) (fun U=>∃z,U=[z,J (V.int ((cu.length:Int)-1))]) (fC (by rw[cA];lia)) ⟨_,I⟩ ec (ba aG) ?_ ?_
  ·rintro k x aq bE H1 ⟨z,rfl⟩ eo R bN;rw[eD]at aq;obtain⟨pb,tR,rfl⟩:=Uf.mp aq;have e:(idxs cu t).getD k 0=pb:=by rw[eJ,tR];rfl
   rw[e]at bN;have Iz:=tR;unfold idxs at Iz;rw[eD]at Iz;obtain⟨ch,nK,rfl⟩:=Uf.mp Iz;have eZ:ch∈t.cps.toList:=eY nK;have wq:ch∈cu.cps.toList:=hX (ig.mp hm ch eZ)
   have hH:cu.cps.toList.idxOf ch<cu.length:=by
    have:=List.idxOf_lt_length_iff.mpr wq;rwa [jh]at this
   have aU:=GS (List.mem_map_of_mem (f:=fun c=>ah::dB (cu.cps.toList.idxOf c) (aD (cu.length-1))) eZ);rw[eb,ji]at aU;have aS:(cu.length:Int)-1=((cu.length-1:Nat):Int):=by lia
   refine⟨_,I,_,I,cu.cps.toList.idxOf ch,cu.length-1,by rw[<-aS];rfl,by lia,by lia,.inr ⟨_,_,rfl,rfl,gW ?_,?_⟩⟩
   .rw[vN,dG,dG,ji];simp only[eb,List.length_nil];lia
   .rw[vN,j2];exact bN _ ⟨_,I⟩
  ·have e:(List.range ((idxs cu t).map fun k=>V.int ((k:Nat):Int)).length).map (fun k=>V.str (aH (ah::dB ((idxs cu t).getD k 0) (aD (cu.length-1)))))=((t.cps.toList.map fun c=>ah::dB (cu.cps.toList.idxOf c) (aD (cu.length-1))).map aH).map V.str:=by
    rw[cA];apply List.ext_getElem
    .unfold idxs;simp
    ·intro k ai ar;have bz:k<t.cps.toList.length:=by simpa using ar
     have gw:(idxs cu t)[k]?=J (cu.cps.toList.idxOf t.cps.toList[k]):=by unfold idxs;rw[eD,cI bz];rfl
     rw[ko,ko,ko,ko,List.getElem_range,eJ,gw];rfl
   rw[e];have ajb:=(cE (o:=cX.lst ((idxs cu t).map fun k=>V.int ((k:Nat):Int))) fH).trans (cE (o:=cX.lst (((t.cps.toList.map fun c=>ah::dB (cu.cps.toList.idxOf c) (aD (cu.length-1))).map aH).map V.str)) ec);refine⟨_,c3,_,I,I,ba aG,by rw[GR];lia,.inr ⟨_,_,rfl,rfl,gW ?_,H,.refl ajb,?_⟩⟩
   .rw[rC,BZ,dG,dG];lia
   .rw[rC,BZ,j2];exact q
 |_=>cases aA
noncomputable def cy:D->Bool
 |.tup [.int p,.int q]=>decide (0<q/\Int.gcd p q=1/\p.natAbs<=10^38/\q<=10^38)
 |_=>aE
theorem rM{bD:D->Bool}:∀(fs:List bH)(ns:List ae)(n:ae)(x:D),ns.length=fs.length->jC bD fs ns n x=ah->n∈ns
 |[],ns,n,x,_,h=>by rw[jC]at h;cases h
 |f::fs,[],n,x,aB,h=>by cases aB
 | f::fs,m::ns,n,x,aB,h=>by
  rw[jC]at h;by_cases z:m=n
  .subst z;exact eA ..
  ·have h:(if J m=J n then _ else jC bD fs ns n x)=ah:=h;rw[if_neg (fun e=>z (gq e))]at h;exact dw _ (rM fs ns n x (by simpa using aB) h)
theorem rN{bD:D->Bool}{x:D}:∀(fs:List bH)(ns:List ae)(n:ae),n∈ns->ns.length=fs.length->jC bD fs ns n x=bJ bD (fs.getD (ns.idxOf n) (.bare 0)) x
 |[],[],n,h,_=>by cases h
 |f::fs,[],n,h,_=>by cases h
 |[],m::ns,n,_,h=>by cases h
 | f::fs,m::ns,n,h,aB=>by
  rw[jC];show(if J m=J n then _ else jC bD fs ns n x)=_;by_cases z:m=n
  ·subst z;rw[if_pos rfl,List.idxOf_cons_self];rfl
  .rw[if_neg (fun e=>z (gq e)),rN fs ns n ((dd.mp h).resolve_left (ei z)) (by simpa using aB),List.idxOf_cons,beq_false_of_ne z];rfl
theorem e8.ge{c:ey}{X:List af}{H:al}:∀(fs:List bH){os:List af}{i:Nat}{f:bH},e8 c X H fs os->fs[i]?=J f->∃o,os[i]?=J o/\b6 c X H f o
 |[],os,i,f,h,e=>by cases e
 |g::fs,os,0,f,h,e=>by
  obtain⟨o',r,rfl,q,b1⟩:=h;cases e;exact⟨_,I,q⟩
 |g::fs,os,i+1,f,h,e=>by
  obtain⟨o',r,rfl,q,b1⟩:=h;obtain⟨v,ai,ar⟩:=e8.ge (os:=r) fs b1 (show fs[i]?=J f from e);exact⟨v,ai,ar⟩
theorem Dl(val:Nat->ae):∀n i,i<n->val i∈gR val n
 |0,i,h=>by lia
 | n+1,i,h=>by
  unfold gR;by_cases z:i=n
  ·subst z;split
   .assumption
   .exact nr _ (ft.mpr I)
  ·have:=Dl val n i (by lia);split
   .exact this
   .exact List.mem_append_left _ this
theorem GH(val:Nat->ae):∀n,(gR val n).length=n->∀i j,i<j->j<n->val i≠val j
 |0,_,i,j,_,h=>by lia
 | n+1,h,i,j,Iw,b0=>by
  unfold gR at h;have hle:=ya val n;by_cases z:val n∈gR val n
  .rw[if_pos z]at h;lia
  ·rw[if_neg z,dP,k5]at h;by_cases akJ:j=n
   ·subst akJ;exact fun e=>z (by rw[<-e];exact Dl val j i Iw)
   .exact GH val n (by lia) i j Iw (by lia)
def jA:2<=cg:=by decide
def xE{n:ae}(h:lP ns=ah)(e:ns[i]?=J n):ns.idxOf n=i:=by
 unfold lP at h;simp only[g4,kn]at h;have hd:=h.1.2.2
 have aF:i<ns.length:=by
  rcases g5 i ns.length with z|z
  .exact z
  .rw[vz z]at e;cases e
 have aV:ns[i]=n:=by rw[cI aF]at e;exact gq e
 have hm:n∈ns:=by rw[<-aV];exact List.getElem_mem aF
 have hk:=oD hm;have wu:ns[ns.idxOf n]=n:=List.getElem_idxOf hk;have g:∀k(hk:k<ns.length),ns.getD k ae.empty=ns[k]:=fun k hk=>by rw[eJ,cI hk];rfl
 rcases Nat.lt_trichotomy (ns.idxOf n) i with z|z|z
 .exact absurd (by rw[g _ hk,g _ aF,wu,aV]) (GH _ _ hd _ _ z aF)
 .exact z
 .exact absurd (by rw[g _ hk,g _ aF,wu,aV]) (GH _ _ hd _ _ z hk)
def wH{K:bS}{l:List V}{x:V}(h:H p=J (.lst l)\/H p=J (.tup l))(e:l[j]?=J x)(q:Q x H):(Jy K (.ref p) (.int ((j:Nat):Int)) H Q\/JA K (.ref p) (.int ((j:Nat):Int)) H Q)\/Jz (.ref p) (.int ((j:Nat):Int)) H Q :=
 h.elim (fun HG =>(xz HG (cT e) q)) (fun e5 =>(x0 e5 (cT e) q))
theorem vH{fw:D->List Bool}{x:D}{M:Nat}:∀(fs:List bH)(ns:List ae)(k:Nat)(n:ae),n∈ns->ns.length=fs.length->kX fw fs ns k M n x=dB (k+ns.idxOf n) (aD M)++aT fw (fs.getD (ns.idxOf n) (.bare 0)) x
 |[],[],k,n,h,_=>by cases h
 |f::fs,[],k,n,h,_=>by cases h
 |[],m::ns,k,n,_,h=>by cases h
 | f::fs,m::ns,k,n,h,aB=>by
  rw[kX];show(if J m=J n then _ else kX fw fs ns (k+1) M n x)=_;by_cases z:m=n
  ·subst z;rw[if_pos rfl,List.idxOf_cons_self];rfl
  .rw[if_neg (fun e=>z (gq e)),vH fs ns (k+1) n ((dd.mp h).resolve_left (ei z)) (by simpa using aB),List.idxOf_cons,beq_false_of_ne z,show k+1+ns.idxOf n=k+(ns.idxOf n+1) by lia];rfl
set_option tactic.hygienic true in
def Xt(nb:dn mg)(T:oB K (c.t 1))(F:dN K "written" "Choice.written" Ar f fd)(om:aY P w K mg zn 2 "fixed_row" ["n","most"] QZ)(lC:hy P w K mg zn (2*n+4) "written" ["self","value"] (fX c) (Se has bD fw c n)):dh P w K mg zn dA (2*n+4+1) f fd ["self","value"] (Se has bD fw c (n+1) (.t 1)):=by
 refine F.fo LF (fun H vs Q E aw h=>?_);obtain⟨o,bl,v,d,rfl,hs,dk,aP,dq,hd,hT,c1,q⟩:=h;obtain⟨ns,fs,rfl⟩:=vG hs;obtain⟨_,ak,c4,cn,os,aN,_,_,g1,g2,fY⟩:=dk;obtain⟨h2,kQ,i6⟩:=aP.two;have i5:gV fs<=n:=by rw[bc]at dq;lia
 rw[bJ,if_neg (by decide)]at hT;unfold ts at hT;split at hT
 ·rename_i m x;have hm:=rM fs ns _ _ kQ hT;rw[rN fs ns _ hm kQ]at hT;obtain⟨t,_,rfl,e,⟨_,_,rfl,⟨rfl,_⟩,oa,_,rfl,aq,rfl⟩,_⟩:=hd
  have hQ:aT fw (.two 1 ns fs) (.tup [.str m,x])=dB (ns.idxOf m) (aD (fs.length-1))++aT fw (fs.getD (ns.idxOf m) (.bare 0)) x:=by
   rw[aT,if_neg (by decide)];show kX fw fs ns 0 _ m x=_;rw[vH fs ns 0 m hm kQ,Nat.zero_add]
  rw[hQ]at c1 q;have hk:=oD hm;have y0:ns[ns.idxOf m]?=J m:=by rw[cI hk,List.getElem_idxOf hk]
  have yZ:ns.idxOf m<fs.length:=by lia
  have aA:=cI yZ;rw[eJ,aA]at hT c1 q;obtain⟨pe,mZ,tG⟩:=e8.ge fs fY aA;obtain⟨o6,yV⟩:=i6.get aA;obtain⟨gM,gO,fk,li⟩:=b6.written _ tG;have a0:∀(x:V)(r:List V),ed (x::r) 0=J x:=fun x r=>cT (j:=0) rfl;have a1:∀(x y:V)(r:List V),ed (x::y::r) 1=J y:=fun x y r=>cT (j:=1) rfl;have CY:=(qH h2).1
  refine⟨_,(aI (bM 2 LF.bj (hZ PySem.F.plainAttrs_list PySem.F.slot_list_index PySem.F.type_list_index xU (d6 (ab 0) I) (aj (bW bY (ab 1) aC) az)))
  (aJ (bt (aO el (bT om aw (aj (ab 2) (aj (aO gc (b8 dx rfl nb.dr dv (aj (d6 (ab 0) rfl) az)) aC) az))) (ij lC aw (bW bY (d6 (ab 0) rfl) (ab 2)) (aj (bW bY (ab 1) aC) az)))))),?_⟩
  ac_rfl;refine⟨_,I,o,c.t 1,ak,_,_,I,aN,T.cl,T.sq,ix ..,.inl ⟨I,_,ba g1⟩,_,I,x0 e (a0 _ _) ⟨c4,ns,m,ns.idxOf m,I,I,g1,y0,(fun j b0 hw=>by have:=xE h2 hw;lia),by lia,?_⟩⟩;have lR:(((ns.map V.str).length:Nat):Int)-1=((fs.length-1:Nat):Int):=by rw[cA];lia
  have ag:aD (fs.length-1)<=16000000:=by
   have:=dF (dP ▸ Nat.le_add_right _ _) c1;rw[ji]at this;lia
  refine⟨_,I,_,I,o,c.t 1,ak,_,_,I,aN,T.cl,T.sq,ix ..,_,_,I,.inl ⟨_,ba g1,I⟩,_,_,I,I,ns.idxOf m,fs.length-1,by rw[<-lR];rfl,by lia,ag,?_⟩;refine⟨_,I,o,c.t 1,ak,_,_,I,aN,T.cl,T.lV,qe _ _ _ _ tD,_,I,wH (.inl g2) (show(os.map V.ref)[ns.idxOf m]?=J (V.ref pe) by rw[eD,mZ];rfl) ⟨pe,slot _,gM,gO,rfl,fk,li,_,rfl,x0 e (a1 _ _ _) ⟨pe,_,oa,x,rfl,rfl,tG,o6,by lia,aq,hT,?_,?_⟩⟩⟩
  ·rw[dP]at c1;exact dF (Nat.le_add_left _ _) c1
  ·refine .inr ⟨_,_,I,I,?_,H,.refl (c5 _),?_⟩
   ·rw[dG,dG,<-dP];exact gW (dF c1 (by decide))
   ·rw[<-j2]at q;exact q
 .cases hT
def WX:∀(n:Nat){p q:Int},q.toNat<=n->0<=q->(0<q\/0<=p)->e3 p q∣p/\e3 p q∣q/\0<=e3 p q:=by
 intro n
 induction n with
 |zero =>
  intro p q aX ai ar;obtain rfl:q=0:=by lia
  rw[yf];exact⟨Int.dvd_refl _,Int.dvd_zero _,ar.elim (fun z=>by lia) id⟩
 | succ n bK =>
  intro p q aX ai ar;by_cases bo:q=0
  ·subst bo;rw[yf];exact⟨Int.dvd_refl _,Int.dvd_zero _,ar.elim (fun z=>by lia) id⟩
  ·have bo:0<q:=by lia
   rw[Ca bo];have h5:=hY p (Int.ne_of_gt bo);have cf:=ib p bo;obtain⟨hC,iq,Hy⟩:=bK (p:=q) (q:=p%q) (by lia) h5 (.inr ai);refine⟨?_,hC,Hy⟩;have e:=Int.mul_ediv_add_emod p q;have:e3 q (p%q)∣q*(p/q)+p%q:=Int.dvd_add (Int.dvd_mul_of_dvd_left hC) iq;rwa [e]at this
def Lw{p q:Int}(bo:0<q)(h:Int.gcd p q=1):e3 p q=1:=by
 obtain⟨hC,iq,Hy⟩:=WX q.toNat (cp _) (Int.le_of_lt bo) (.inl bo) (p:=p);have:=Int.dvd_coe_gcd hC iq;rw[h]at this;exact Int.eq_one_of_dvd_one Hy this
def UZ:∀(n:Nat){p q:Int},q.toNat<=n->0<=q->q<p->e3 p q=1->Tail (fx p q)/\c8 (fx p q)=(p,q):=by
 have zn:∀{p:Int},e3 p 0=1->Tail (fx p 0)/\c8 (fx p 0)=(p,0):=fun{p}h=>by
  rw[yf]at h;subst h;rw[rO];exact⟨⟨(fun x aq=>nomatch aq),(fun z=>absurd I z)⟩,I⟩
 intro n
 induction n with
 |zero =>
  intro p q aX ai _ hc;obtain rfl:q=0:=by lia
  exact zn hc
 | succ n bK =>
  intro p q aX ai alF hc;by_cases bo:q=0
  .subst bo;exact zn hc
  have bo:0<q:=by lia
  rw[Ca bo]at hc;have h5:=hY p (Int.ne_of_gt bo);have cf:=ib p bo;have e:=Int.mul_ediv_add_emod p q;have t3:1<=p/q:=Int.le_ediv_of_mul_le bo (by lia);obtain⟨t,f⟩:=bK (p:=q) (q:=p%q) (by lia) h5 cf hc;rw[ni bo];refine⟨⟨fun x aq=>?_,fun z=>?_⟩,?_⟩
  ·rcases dd.mp aq with y|y
   .rw[y];exact t3
   .exact t.1 x y
  ·by_cases aw:fx q (p%q)=[]
   ·have C3:p%q=0:=by
     by_cases y:p%q=0
     .exact y
     .rw[ni (by lia)]at aw;cases aw
    rw[C3,yf]at hc;subst hc;have:(p/1::fx 1 (p%1)).getLast z=p/1:=by simp only[aw,List.getLast_singleton]
    rw[this,Int.ediv_one];lia
   .rw[List.getLast_cons aw];exact t.2 aw
  ·rw[c8,f];show(p/q*q+p%q,q)=(p,q);rw[Int.mul_comm,e]
def Nv{p q:Int}(bo:0<q)(hc:e3 p q=1):Good (fx p q)/\c8 (fx p q)=(p,q):=by
 rw[Ca bo]at hc;have h5:=hY p (Int.ne_of_gt bo);have cf:=ib p bo;obtain⟨t,f⟩:=UZ _ (cp _) h5 cf hc;rw[ni bo];refine⟨t,?_⟩;rw[c8,f];show(p/q*q+p%q,q)=(p,q);rw[Int.mul_comm,Int.mul_ediv_add_emod]
def NZ:∀(k:Nat){p q:Int},0<=q->q<2^k->(fx p q).length<=2*k+1:=by
 intro k
 induction k with
 |zero =>
  intro p q aX ai;have:q=0:=by lia
  subst this;rw[rO];exact UF _
 | succ k bK =>
  intro p q aX ai;by_cases bo:q=0
  .subst bo;rw[rO];exact UF _
  ·have bo:0<q:=by lia
   rw[ni bo,eb];have h5:=hY p (Int.ne_of_gt bo);have cf:=ib p bo;generalize p%q=r at h5 cf;by_cases aw:r=0
   .subst aw;rw[rO];simp
   ·have aw:0<r:=by lia
    rw[ni aw,eb];have t0:=hY q (Int.ne_of_gt aw);have t1:=ib q aw;have hb:=Int.mul_ediv_add_emod q r;have t3:1<=q/r:=Int.le_ediv_of_mul_le aw (by lia);have Sl:r*1<=r*(q/r):=Int.mul_le_mul_of_nonneg_left t3 (by lia);have e:(2:Int)^(k+1)=2^k*2:=Int.pow_succ ..;have:=bK (p:=r) (q:=q%r) t0 (by lia);lia
def Nu{B:Int}:∀(n:Nat){p q:Int},q.toNat<=n->0<=q->-B<=p->p<=B->q<=B->∀x∈fx p q,-B<=x/\x<=B:=by
 intro n
 induction n with
 |zero =>
  intro p q aX ai _ _ _ x aq;have:q=0:=by lia
  subst this;rw[rO]at aq;cases aq
 | succ n bK =>
  intro p q aX ai ar bz c0 x aq;by_cases bo:q=0
  .subst bo;rw[rO]at aq;cases aq
  ·have bo:0<q:=by lia
   rw[ni bo]at aq;rcases dd.mp aq with z|z
   ·subst z;constructor
    ·refine Int.le_ediv_of_mul_le bo ?_;have : -B*q<=-B*1:=Int.mul_le_mul_of_nonpos_left (by lia) (by lia);lia
    ·refine Int.ediv_le_of_le_mul bo ?_;have:B*1<=B*q:=Int.mul_le_mul_of_nonneg_left (by lia) (by lia);lia
   ·have h5:=hY p (Int.ne_of_gt bo);have cf:=ib p bo;exact bK (by lia) h5 (by lia) c0 (by lia) x z
def Eb(x y:Int):Prop:=x.natAbs<2^390/\y.natAbs<2^390
def Eb.ok{p q:Int}(h:Eb p q)(bo:0<q):(fx p q).length<=10000/\∀x∈fx p q,x.natAbs<2^1000:=by
 obtain⟨ai,ar⟩:=h;have e:((2^390:Nat):Int)=(2:Int)^390:=by rw[Int.natCast_pow];rfl
 have m1:q<2^390:=by lia
 refine⟨dF (NZ 390 (Int.le_of_lt bo) m1) (by decide),fun x aq=>?_⟩;have:=Nu (B:=2^390) q.toNat (cp _) (Int.le_of_lt bo) (by lia) (by lia) (by lia) x aq;exact Nat.lt_of_le_of_lt (m:=2^390) (by lia) (Nat.pow_lt_pow_right (by decide) (by decide))
set_option tactic.hygienic true in
def xQ{d:D}(h:cy d=ah):∃p q:Int,d=.tup [.int p,.int q]/\0<q/\e3 p q=1/\Eb p q/\(fx p q).length<=300/\nj (fx p q):=by
 unfold cy at h;split at h
 ·rename_i p q;obtain⟨ai,ar,bz,c0⟩:=hX h;have fE:(10:Nat)^38<2^127:=by decide
  have eK:(10:Int)^38<2^127:=by decide
  have akW:(2:Int)^127<2^254:=by decide
  refine⟨p,q,I,ai,Lw ai ar,⟨?_,?_⟩,?_,?_⟩
  .exact Nat.lt_of_le_of_lt bz (by decide)
  .exact Nat.lt_of_le_of_lt (m:=10^38) (by lia) (by decide)
  .exact dF (NZ 127 (Int.le_of_lt ai) (by lia)) (by decide)
  ·have hs:=Nu (B:=10^38) q.toNat (cp _) (Int.le_of_lt ai) (p:=p) (by lia) (by lia) c0;obtain⟨t,_⟩:=Nv ai (Lw ai ar);refine⟨fun x aq=>?_,fun x aq=>?_⟩
   ·have:=hs x (List.mem_of_mem_take aq);unfold ih;lia
   ·have:=hs x (List.mem_of_mem_drop aq);rw[ni ai]at t aq;have:=t.1 x aq;unfold h7;lia
 .cases h
def ZM(nb:dn mg)(F:dN K "fits" "Fraction.fits" Ax f fd)(nh:aY P w K mg zn 1 "is_number" ["value"] Rf)(xv:aY P w K mg zn 3 "has_fraction_row" ["fraction"] Q4):dh P w K mg zn dA 4 f fd ["self","value"] (QY has cy c n (.b 3)):=by
 refine F.fo Xy (fun H vs Q E aw h=>?_);obtain⟨o,bl,v,d,rfl,hs,dk,aP,dq,hd,aA,q⟩:=h;have:=ny hs;subst this;rw[x6]at aA;have aA:cy d=ah:=by cases d<;>exact aA
 obtain⟨p,iA,rfl,ai,ar,bz,c0,es⟩:=xQ aA
 refine⟨_,(aI (cw (gK.pt (lL (iJ (f6 (b8 i0 I nb.iR iH (aj (ab 1) (aj (iv (v :=.ty "tuple") I nb.pz oG I) az))))) (l9 (b9 sx (b8 dx I nb.dr dv (aj (ab 1) az)) aC)))) (aJ (bt jf)) cx)
  (aJ (bt (il (bT nh aw (aj (bW bY (ab 1) aC) az)) (il (bT nh aw (aj (bW bY (ab 1) aC) az)) (jB (bT xv aw (aj (ab 1) az)))))))),_,rfl,.inl ⟨_,_,_,_,rfl,hd.ty,ek K _ (by decide),_,rfl,?_⟩⟩
 obtain⟨a,vs,rfl,cL,⟨_,_,rfl,rfl,_,_,rfl,rfl,rfl⟩,jR⟩:=hd;have a0:∀(x:V)(r:List V),ed (x::r) 0=J x:=fun x r=>cT (j:=0) rfl;have a1:∀(x y:V)(r:List V),ed (x::y::r) 1=J y:=fun x y r=>cT (j:=1) rfl;refine da ⟨_,I,_,_,I,.inr ⟨_,cC cL,I⟩,I,_,I,ze I ?_⟩;refine⟨_,I,x0 cL (a0 _ _) ⟨_,.int p,I,I,ah,I,eP ?_⟩⟩;refine⟨_,I,x0 cL (a1 _ _ _) ⟨_,.int iA,I,I,ah,I,eP ?_⟩⟩;refine⟨_,I,a,p,iA,I,cL,fun bo=>⟨dF (bz.ok bo).1 (by decide),(bz.ok bo).2⟩,H,.refl (c5 _),?_⟩;rw[eT ⟨ai,ar,es⟩];exact q
noncomputable def bL:D->List Bool
 |.tup [.int p,.int q]=>jP (fx p q)
 |_=>[]
def F8{d:D}(h:cy d=ah):∃s,Good s/\s.length<=1000/\nj s/\d=.tup [.int (c8 s).1,.int (c8 s).2]/\bL d=jP s:=by
 obtain⟨p,q,rfl,ai,ar,bz,c0,es⟩:=xQ h;obtain⟨g,e⟩:=Nv ai ar;exact⟨fx p q,g,dF c0 (by decide),es,by rw[e],rfl⟩
def Xg(F:dN K "written" "Fraction.written" A5 f fd)(rx:aY P w K mg zn 1 "steps_of" ["fraction"] R0)(xw:aY P w K mg zn 4 "row_of_steps" ["steps"] RM):dh P w K mg zn dA 5 f fd ["self","value"] (Se has cy bL c n (.b 3)):=by
 refine F.fo Xe (fun H vs Q E aw h=>?_);obtain⟨o,bl,v,d,rfl,hs,dk,aP,dq,hd,aA,aB,q⟩:=h;have:=ny hs;subst this;rw[x6]at aA;have aA:cy d=ah:=by cases d<;>exact aA
 obtain⟨p,iA,rfl,ai,ar,bz,c0,es⟩:=xQ aA;rw[aT]at q;obtain⟨a,vs,rfl,cL,⟨_,_,rfl,rfl,_,_,rfl,rfl,rfl⟩,jR⟩:=hd;refine⟨_,(aJ (bt (bT xw aw (aj (bT rx aw (aj (ab 1) az)) az)))),?_⟩;ac_rfl;refine⟨_,I,a,p,iA,I,cL,Int.le_of_lt ai,dF (bz.ok ai).1 (by decide),(bz.ok ai).2,fun r fH=>?_⟩;exact⟨r,_,I,aG,by rw[ni ai];exact lG _ _,by lia,es,H,.refl (cE fH),q⟩
set_option tactic.hygienic true in
def abd(nb:dn mg)(T:oB K (c.t 1))(F:dN K "fits" "Choice.fits" AW f fd)(lA:hy P w K mg zn (2*n+4) "fits" ["self","value"] (fX c) (QY has bD c n)):dh P w K mg zn dA (2*n+4+1) f fd ["self","value"] (QY has bD c (n+1) (.t 1)):=by
 refine F.fo Yb (fun H vs Q E aw h=>?_);obtain⟨o,bl,v,d,rfl,hs,dk,aP,dq,hd,aA,q⟩:=h;obtain⟨ns,fs,rfl⟩:=vG hs;obtain⟨_,ak,c4,cn,os,aN,_,_,g1,g2,fY⟩:=dk;obtain⟨h2,kQ,i6⟩:=aP.two;have i5:gV fs<=n:=by rw[bc]at dq;lia
 have CY:=(qH h2).1;rw[bJ,if_neg (by decide)]at aA
 refine⟨_,(aI (cw (gK.pt (lL (iJ (f6 (b8 i0 I nb.iR iH (aj (ab 1) (aj (iv (v :=.ty "tuple") I nb.pz oG I) az))))) (lL (b9 sx (b8 dx I nb.dr dv (aj (ab 1) az)) aC) (l9 (x8 (aaS (DC aw)) (bW bY (ab 1) aC) (d6 (ab 0) I) (by with_unfolding_all rfl)))))) (aJ (bt jf)) cx)
  (aJ (bt (ij lA aw (bW bY (d6 (ab 0) rfl) (hZ PySem.F.plainAttrs_list PySem.F.slot_list_index PySem.F.type_list_index xU (d6 (ab 0) rfl) (aj (bW bY (ab 1) aC) az))) (aj (bW bY (ab 1) aC) az))))),_,rfl,.inl ⟨_,_,_,_,rfl,hd.ty,ek K d (by decide),_,rfl,?_⟩⟩
 unfold ts at aA;split at aA
 ·rename_i m x;obtain⟨a,vs,rfl,cL,⟨v0,_,rfl,aX,oa,_,rfl,aq,rfl⟩,jR⟩:=hd;have hm:=rM fs ns m x kQ aA;have a0:∀(x:V)(r:List V),ed (x::r) 0=J x:=fun x r=>cT (j:=0) rfl;have a1:∀(x y:V)(r:List V),ed (x::y::r) 1=J y:=fun x y r=>cT (j:=1) rfl;refine da ⟨_,I,_,_,I,.inr ⟨_,cC cL,I⟩,I,_,I,ze I ?_⟩;refine⟨_,I,x0 cL (a0 _ _) ⟨_,I,o,c.t 1,ak,_,_,I,aN,T.cl,T.sq,ix ..,c4,ns,.str m,I,ba g1,aX,_,I,?_⟩⟩;obtain⟨rfl,_⟩:=aX;have fk:inD ns (.str m)=ah:=List.any_eq_true.mpr ⟨m,hm,by simp⟩;rw[fk];have hk:=oD hm;have y0:ns[ns.idxOf m]?=J m:=by rw[cI hk,List.getElem_idxOf hk]
  have yZ:ns.idxOf m<fs.length:=by lia
  have bb:=cI yZ;rw[rN fs ns m hm kQ,eJ,bb]at aA;obtain⟨pe,mZ,tG⟩:=e8.ge fs fY bb;obtain⟨o6,yV⟩:=i6.get bb;obtain⟨gM,gO,ace,li⟩:=b6.fits _ tG;refine da ⟨_,I,o,c.t 1,ak,_,_,I,aN,T.cl,T.lV,qe _ _ _ _ tD,_,I,o,c.t 1,ak,_,_,I,aN,T.cl,T.sq,ix ..,.inl ⟨I,_,ba g1⟩,_,I,x0 cL (a0 _ _) ⟨c4,ns,m,ns.idxOf m,I,I,g1,y0,(fun j b0 hw=>by have:=xE h2 hw;lia),by lia,?_⟩⟩;exact wH (.inl g2) (show(os.map V.ref)[ns.idxOf m]?=J (V.ref pe) by rw[eD,mZ];rfl) ⟨pe,slot _,gM,gO,rfl,ace,li,_,rfl,x0 cL (a1 _ _ _) ⟨pe,_,oa,x,rfl,rfl,tG,o6,by lia,aq,aA,H,.refl (c5 _),q⟩⟩
 .cases aA
set_option tactic.hygienic true in
def U3(eF:fT K C)(T:k2 K (c.o 0))(F:dN K "draw" "Maybe.draw" Bn f fd)(hj:gn P w K mg zn 1 C "draw" ["self"] (QV C))(l0:hy P w K mg zn (2*n+4) "draw" ["self","source"] (fX c) (QO has bD fw c C n)):dh P w K mg zn dA (2*n+4+1) f fd ["self","source"] (QO has bD fw c C (n+1) (.o 0)):=by
 refine F.fo Yz (fun H vs Q E aw h=>?_);obtain⟨o,p,ak,bl,d,l,j,t,e,X,rfl,hs,dk,aP,dq,df,aB,b0,eR,ef,aA,d1,q⟩:=h;obtain⟨g,rfl⟩:=qv hs;obtain⟨nY,kp,i,aN,fY⟩:=dk;have i6:=aP.one;have i5:bc g<=n:=by rw[bc]at dq;lia
 have op:o≠p:=fun z=>nY (ft.mpr z);rw[bJ]at aA;rw[aT]at q d1
 replace aA:nT (bJ bD g) d=ah:=aA
 have gD:=d4.step (j':=j+1) (t':=t) (e':=e) df;have rX:=b6.iU gD g fY
 have fresh:∀{ao:al}{zz:cX}{tt:af},d4 p H ao->ao p=J zz->ao tt=ax->tt∉X:=fun M aS gw z=>by
  obtain⟨Qa,ho⟩:=d4.alloc M aS ef _ z;rw[gw]at ho;cases ho
 unfold nT at aA;split at aA
 ·have d1:[aE] <+: sees l t j:=d1;obtain⟨j3,gQ,gF⟩:=tg d1
  refine⟨_,(aI (cw (b9 c6 (jj hj eF aw (ab 1)) aC) (aJ (bt (jm az))) cx)
  (aJ (bt (jm (aj (ij l0 aw (d6 (ab 0) rfl) (aj (ab 1) az)) az))))),?_⟩
  ac_rfl;refine⟨_,I,p,ak,_,I,df,lJ _ _ _ _ ⋯ ⋯ ⋯,p,ak,l,j,t,e,j3,I,⟨_,df⟩,aB,gQ,?_⟩;rw[gF];refine⟨I,_,I,hU I ⟨UF _,fun tt se=>?_⟩⟩;have E:=Ext.tup (xs:=[]) se;have M:=gD.ext E;exact⟨_,M.sub (E.s _ _ aG),q _ _ M ⟨tt,[],I,fresh gD aG se,aG,I,by simp⟩ (E.s _ _ aG)⟩
 ·rename_i x;have d1:(ah::aT fw g x) <+: sees l t j:=d1;obtain⟨j3,gQ,gF⟩:=tg d1;have fH:=tk (r:=[ah]) d1;obtain⟨gM,gO,fk,li⟩:=b6.draw g rX;have Pg:j+1<=l.length:=by have:=(gr.mp gQ).1;lia
  refine⟨_,(aI (cw (b9 c6 (jj hj eF aw (ab 1)) aC) (aJ (bt (jm az))) cx)
  (aJ (bt (jm (aj (ij l0 aw (d6 (ab 0) rfl) (aj (ab 1) az)) az))))),?_⟩
  ac_rfl;refine⟨_,I,p,ak,_,I,df,lJ _ _ _ _ ⋯ ⋯ ⋯,p,ak,l,j,t,e,j3,I,⟨_,df⟩,aB,gQ,?_⟩;rw[gF];refine⟨I,_,I,fh (by decide) ⟨_,I,o,c.o 0,kp,_,_,I,gD.k _ _ op aN,T.cl,T.nX,ix ..,i,slot g,gM,gO,I,fk,li,_,I,i,p,ak,g,x,l,j+1,t,e,X,I,I,rX,i6,i5,aG,aB,Pg,eR,d4.alloc gD aG ef,aA,fH,fun v ao M2 dH g8=>⟨B9,fun tt se=>?_⟩⟩⟩;have E:=Ext.tup (xs:=[v]) se;have M:=(gD.trans M2).ext E;refine⟨_,M.sub (E.s _ _ g8),q _ _ M ⟨tt,[v],I,fresh (gD.trans M2) g8 se,aG,⟨v,[],I,dH.same E.s,I⟩,by simp⟩ ?_⟩;rw[E.s _ _ g8];show J (fi C ak l (j+1+(aT fw g x).length) t e)=J (fi C ak l (j+((aT fw g x).length+1)) t e);rw[show j+1+(aT fw g x).length=j+((aT fw g x).length+1) by lia]
 .cases aA
set_option tactic.hygienic true in
def abn(nb:dn mg)(T:oB K (c.t 1))(F:dN K "draw" "Choice.draw" Bc f fd)(oj:aY P w K mg zn 2 "draw_fixed" ["source","most"] (QQ C))(l0:hy P w K mg zn (2*n+4) "draw" ["self","source"] (fX c) (QO has bD fw c C n)):dh P w K mg zn dA (2*n+4+1) f fd ["self","source"] (QO has bD fw c C (n+1) (.t 1)):=by
 refine F.fo LN (fun H vs Q E aw h=>?_);obtain⟨o,p,ak,bl,d,l,j,t,e,X,rfl,hs,dk,aP,dq,df,aB,b0,eR,ef,aA,d1,q⟩:=h;obtain⟨ns,fs,rfl⟩:=vG hs;obtain⟨nY,kp,c4,cn,os,aN,agd,age,g1,g2,fY⟩:=dk;obtain⟨h2,kQ,i6⟩:=aP.two;have i5:gV fs<=n:=by rw[bc]at dq;lia
 have ne:∀{b:af},b∉[p]->b≠p:=fun h z=>h (ft.mpr z);rw[bJ,if_neg (by decide)]at aA;unfold ts at aA;split at aA
 ·rename_i m x;have hm:=rM fs ns _ _ kQ aA;rw[rN fs ns _ hm kQ]at aA;have hk:=oD hm;have y0:ns[ns.idxOf m]?=J m:=by rw[cI hk,List.getElem_idxOf hk]
  have yZ:ns.idxOf m<fs.length:=by lia
  have nM:=cI yZ
  have hQ:aT fw (.two 1 ns fs) (.tup [.str m,x])=dB (ns.idxOf m) (aD (fs.length-1))++aT fw fs[ns.idxOf m] x:=by
   rw[aT,if_neg (by decide)];show kX fw fs ns 0 _ m x=_;rw[vH fs ns 0 m hm kQ,Nat.zero_add,eJ,nM];rfl
  rw[eJ,nM]at aA;rw[hQ]at d1 q;have y5:=qw d1;have fH:=tk d1;have o3:=rL y5 b0;have m3:=Gu y5;rw[ji]at o3 m3 fH;rw[dP,ji]at q;have gD:=d4.step (j':=j+aD (fs.length-1)) (t':=t) (e':=e) df;obtain⟨pe,mZ,tG⟩:=e8.ge fs fY nM;have rX:=b6.iU gD _ tG;obtain⟨o6,yV⟩:=i6.get nM;obtain⟨gM,gO,fk,li⟩:=b6.draw _ rX;have o5:m.length<=16000000:=dF ((qH h2).2 m hm) (by decide);have lR:(((ns.map V.str).length:Nat):Int)-1=((fs.length-1:Nat):Int):=by rw[cA];lia
  refine⟨_,(aI (bM 2 LN.bj (bT oj aw (aj (ab 1) (aj (aO gc (b8 dx I nb.dr dv (aj (d6 (ab 0) I) az)) aC) az))))
  (aJ (bt (jm (aj (bW bY (d6 (ab 0) rfl) (ab 2)) (aj (ij l0 aw (bW bY (d6 (ab 0) rfl) (ab 2)) (aj (ab 1) az)) az)))))),?_⟩
  ac_rfl;refine⟨_,I,_,I,o,c.t 1,kp,_,_,I,aN,T.cl,T.sq,ix ..,_,_,I,.inl ⟨_,ba g1,I⟩,_,_,I,I,p,ak,l,j,ns.idxOf m,fs.length-1,t,e,by rw[<-lR];rfl,df,aB,by lia,o3,m3,?_⟩;refine⟨_,I,o,c.t 1,kp,_,_,I,gD.k _ _ (ne nY) aN,T.cl,T.sq,ix ..,_,I,wH (.inl (gD.k _ _ (ne agd) g1)) (show(ns.map V.str)[ns.idxOf m]?=J (V.str m) by rw[eD,y0];rfl) ⟨_,rfl,o,c.t 1,kp,_,_,rfl,gD.k _ _ (ne nY) aN,T.cl,T.lV,qe _ _ _ _ tD,_,rfl,wH (.inl (gD.k _ _ (ne age) g2)) (show(os.map V.ref)[ns.idxOf m]?=J (V.ref pe) by rw[eD,mZ];rfl) ⟨pe,slot _,gM,gO,rfl,fk,li,_,rfl,pe,p,ak,_,x,l,j+aD (fs.length-1),t,e,X,rfl,rfl,rX,o6,by lia,aG,aB,o3,eR,d4.alloc gD aG ef,aA,fH,fun v ao M2 dH g8=>⟨jA,fun tt se=>?_⟩⟩⟩⟩;have M:=gD.trans M2;have E:=Ext.tup (xs:=[V.str m,v]) se
  have adS:tt∉X:=fun z=>by
   obtain⟨Qa,ho⟩:=d4.alloc M g8 ef _ z;rw[se]at ho;cases ho
  refine⟨_,(M.ext E).sub (E.s _ _ g8),q _ _ (M.ext E) ⟨tt,_,I,adS,aG,⟨_,_,I,⟨I,o5⟩,v,[],I,dH.same E.s,I⟩,by simp⟩ ?_⟩;rw[E.s _ _ g8,Nat.add_assoc]
 .cases aA
inductive QR(C:af)(vs:List V)(H:al)(Q:bI)(E:cB):Prop where
 |mk (p ak:af) (l:List Bool) (i:Nat) (s:List Int) (t bX:Bool) (aX:vs=[.ref p]) (ai:H p=J (fi C ak l i t bX)) (ar:l.length<=16000000) (bz:i<=l.length) (c0:Good s) (es:s.length<=1000) (iN:nj s) (mR:jP s <+: (l.map (xor t)).drop i) (mS:∀r,H r=ax->Q (.ref r) (upd (upd H p (fi C ak l (i+(jP s).length) t bX)) r (.tup [.int (c8 s).1,.int (c8 s).2])))
def M9(h:nj s):∀x∈s,x.natAbs<2^1000:=by
 intro x aq;obtain⟨i,aF,rfl⟩:=List.mem_iff_getElem.mp aq;have z:=h.at (cI aF);refine fK (m:=2^256) ?_ (Nat.pow_le_pow_right (by decide) (by decide));split at z
 .unfold ih at z;lia
 .unfold h7 at z;lia
def Mi{b:List Bool}(h:a++b <+: L.drop i):b <+: L.drop (i+a.length):=by
 obtain⟨u,e⟩:=h;refine⟨u,?_⟩;rw[<-List.drop_drop,<-e,gL,List.drop_left]
def Ll(h:a <+: L.drop i)(aF:i<=L.length):i+a.length<=L.length:=by
 have:=h.length_le;rw[ie]at this;lia
def Mu{x:Int}(h:s[j]?=J x):s.take (j+1)=s.take j++[x]:=by rw[iG,h];rfl
structure mb(H ao:al)(p r:af)(o u:cX):Prop where
 aU:ao p=J o
 aw:ao r=J u
 hs:∀b v,b≠p->H b=J v->ao b=J v
def mb.uy{r:af}{o':cX}(h:mb H ao p r o u)(n:r≠p):mb H (upd ao p o') p r o' u:=⟨aG,by rw[bC n];exact h.aw,fun b v ag e=>by rw[bC ag];exact h.hs b v ag e⟩
def mb.ai4{r:af}{u':cX}(h:mb H ao p r o u)(n:r≠p)(aw:H r=ax):mb H (upd ao r u') p r o u':=⟨by rw[bC (ei n)];exact h.aU,aG,fun b v ag e=>by rw[bC (fe e aw)];exact h.hs b v ag e⟩
def mb.free{r b:af}(h:mb H ao p r o u)(e:ao b=ax):H b=ax:=by
 cases q:H b with
 |none=>rfl
 |some v =>
  by_cases ag:b=p
  .subst ag;rw[h.aU]at e;cases e
  .rw[h.hs b v ag q]at e;cases e
inductive Sd(C:af)(vs:List V)(H:al)(Q:bI)(E:cB):Prop where
 |mk (p ak:af) (z:ae) (i:Int) (t e:Bool) (u v:Int) (aX:vs=[.ref p,.int v]) (ai:H p=J (.ins C ak (gu z i t e u))) (ar:Q .bf (upd H p (.ins C ak (gu z i t e v))))
def VM(T:s8 K C)(F:dN K "wish" "Source.wish" AP f fd):dh P w K mg zn dA 1 f fd ["self","sign"] (Sd C):=by
 refine F.ok X3 (fun vs H Q E h=>?_) (fun bw A _ s H vs Q E aw h=>?_)
 .obtain⟨p,ak,z,i,t,e,u,v,rfl,_⟩:=h;rfl
 obtain⟨p,ak,z,i,t,e,u,v,rfl,aU,q⟩:=h;refine⟨_,(aJ (i1 (ab 0) (ab 1) I)),?_⟩;ac_rfl;refine⟨_,I,_,I,p,C,ak,_,I,aU,T.cl,T.Dp,(by show 5<1000;decide),?_⟩;rw[Mp];exact q
def XB(nb:dn mg)(eF:fT K C)(F:dD K mg "draw_fraction" Fi ["source"] f fd)(hj:gn P w K mg zn 1 C "draw" ["self"] (QV C))(l7:gn P w K mg zn 1 C "turn" ["self"] (R6 C))(AE:gn P w K mg zn 1 C "wish" ["self","sign"] (Sd C))(l6:gn P w K mg zn 1 C "refuse" ["self"] uC)(ru:aY P w K mg zn 4 "draw_whole" ["source"] (QU C))(pK:aY P w K mg zn 3 "draw_count" ["source"] (QP C))
  (uS:aY P w K mg zn 1 "are_steps" ["steps"] QD) (Ej:aY P w K mg zn 2 "fraction_of" ["steps"] Q2):aY P w K mg zn 5 "draw_fraction" ["source"] (QR C):=by show_term
 refine F.eg LH (fun H vs Q E aw h=>?_);obtain⟨p,ak,l,i,s,t,bX,rfl,aU,aB,aF,bb,tU,bN,hc,q⟩:=h
 refine⟨_,(aI (bM 1 LH.bj (hB (aj (bT ru aw (aj (ab 0) az)) az)))
  (aI (qC iB.never (b9 c6 (jj hj eF aw (ab 0)) aC)
   (aI (ik (jj l7 eF aw (ab 0)))
   (aI (ik (oF AE eF aw (ab 0) (aj aC az)))
   (aI (ik (hZ PySem.F.plainAttrs_list PySem.F.slot_list_append PySem.F.type_list_append qt (ab 1) (aj (aO el (bT pK aw (aj (ab 0) az)) aC) az)))
   (aJ (cw (b9 c6 (bW bY (ab 1) (k7 k1 aC)) aC) (aJ (ik (oF AE eF aw (ab 0) (aj aC az)))) cx))))))
  (aI (cw (iJ (f6 (bT uS aw (aj (ab 1) az)))) (aJ (ik (jj l6 eF aw (ab 0)))) cx)
  (aI (cw (b9 c6 (aO dX (b8 dx rfl nb.dr dv (aj (ab 1) az)) aC) aC) (aJ (ik (jj l7 eF aw (ab 0)))) cx)
  (aJ (bt (bT Ej aw (aj (ab 1) az)))))))),?_⟩
 ac_rfl;have P9:∀(z:ae)(i:Int)(t e:Bool){u:Int},(gu z i t e u).lookup ("wish":ae)=ax:=fun _ _ _ _=>lJ _ _ _ _ ⋯ ⋯ ⋯;have nm:∀(z:ae)(i:Int)(t e:Bool){u:Int},(gu z i t e u).lookup ("draw":ae)=ax:=fun _ _ _ _=>lJ _ _ _ _ ⋯ ⋯ ⋯;have ub:∀(z:ae)(i:Int)(t e:Bool){u:Int},(gu z i t e u).lookup ("turn":ae)=ax:=fun _ _ _ _=>lJ _ _ _ _ ⋯ ⋯ ⋯;obtain⟨a,aZ,rfl⟩:=List.exists_cons_of_ne_nil bb.ne;have aM:=bN.1 a (ft.mpr rfl);have ml:gY a++more aZ <+: (l.map (xor t)).drop i:=hc;have Pp:(l.map (xor t)).length=l.length:=cA ..;refine⟨_,I,p,ak,l,i,a,t,bX,I,aU,aB,aF,aM,⟨_,(gL ..).symm.trans ml.choose_spec⟩,(by show 1<=cg;decide),fun r fH=>?_⟩;have nP:r≠p:=fun z=>by rw[z,aG]at fH;cases fH
 have PC:H r=ax:=by rw[bC nP]at fH;exact fH
 have rH:mb H (upd (upd H p (fi C ak l (i+(gY a).length) t bX)) r (.lst [V.int a])) p r (fi C ak l (i+(gY a).length) t bX) (.lst [V.int a]):=⟨by rw[bC (ei nP)];exact aG,aG,fun b v ag e=>by rw[bC (fe e PC),bC ag];exact e⟩;obtain⟨s,hs⟩:∃s,s=a::aZ:=⟨_,rfl⟩;have mr:0<s.length:=by rw[hs];exact Nat.succ_pos _
 have p7:(jP s).length=(gY a).length+(more aZ).length:=by rw[hs];exact dP
 rw[<-hs]at bb tU bN q
 refine⟨fun m U ao=>∃(j aa:Nat)(T:Bool)(u:Int),1<=j/\j<=s.length/\m=s.length-j/\U=[J (.ref p),J (.ref r)]/\mb H ao p r (zX C ak l aa T bX u) (.lst ((s.take j).map V.int))/\more (s.drop j) <+: (l.map (xor T)).drop aa/\aa<=l.length/\aa+(more (s.drop j)).length=i+(jP s).length/\T=(t ^^ odd (j+1)),
  ⟨s.length-1,1,i+(gY a).length,t,0,cp _,mr,rfl,rfl,?_,?_,?_,?_,?_⟩,?_⟩
 .rw[hs];exact rH
 .rw[hs];exact Mi ml
 .have:=Ll (a:=gY a) ⟨_,(gL ..).symm.trans ml.choose_spec⟩ (by rw[Pp];exact aF);rw[Pp]at this;exact this
 .rw[p7];subst hs;show i+(gY a).length+(more aZ).length=_;lia
 .cases t<;>rfl
 rintro m U ao ⟨j,aa,T,u,Pg,nO,rfl,rfl,S,lS,fY,c1,cc⟩;have Pn:(l.map (xor T)).length=l.length:=cA ..;rcases g5 j s.length with b0|b0
 ·
  have C6:s[j]?=J (s[j]'b0):=cI b0;have gy:=bN.at C6;rw[if_neg (by lia)]at gy;have kq:s.drop j=s[j]'b0::s.drop (j+1):=nq b0;generalize s[j]'b0=b at C6 gy kq;rw[kq]at lS c1;obtain⟨gQ,gF,O3⟩:=BQ lS;rw[Pn]at gQ;obtain⟨bit,wm,yN⟩:=get_map (l:=l) (t:=T) (i:=aa) gQ;rw[gF]at yN;have yM:=LO O3;rw[List.map_drop,L6]at yM;have ale:=gy.1;have alf:=gy.2;obtain⟨n,aV⟩:∃n:Nat,n=(b-1).toNat:=⟨_,rfl⟩;rw[<-aV]at yM;refine⟨_,I,p,ak,_,I,S.aU,nm ..,p,ak,l,aa,T,bX,bit,I,⟨_,S.aU⟩,aB,wm,I,_,I,?_⟩;rw[<-yN];refine hU I ⟨fun b2 H'=>∃bU,bU<s.length-j/\∃(j aa:Nat)(T:Bool)(u:Int),1<=j/\j<=s.length/\bU=s.length-j/\b2=[J (.ref p),J (.ref r)]/\mb H H' p r (zX C ak l aa T bX u) (.lst ((s.take j).map V.int))/\more (s.drop j) <+: (l.map (xor T)).drop aa/\aa<=l.length/\aa+(more (s.drop j)).length=i+(jP s).length/\T=(t ^^ odd (j+1)),fun _ _ h=>h,?_⟩;have eX:=S.uy (o':=fi C ak l (aa+1) T bX) nP;refine⟨_,I,p,ak,_,I,eX.aU,ub ..,p,ak,l,_,_,_,_,I,eX.aU,?_⟩;have d7:=eX.uy (o':=fi C ak l (aa+1) (!T) bX) nP;refine⟨_,I,p,ak,_,I,d7.aU,P9 ..,p,ak,aH l,_,!T,bX,0,1,I,d7.aU,?_⟩;have E1:=d7.uy (o':=zX C ak l (aa+1) (!T) bX 1) nP;refine⟨_,I,.inl ⟨I,_,ba E1.aw⟩,_,I,p,ak,l,aa+1,n,!T,bX,I,⟨_,E1.aU⟩,aB,gQ,(by lia),⟨_,(gL ..).symm.trans yM.choose_spec⟩,.inl ⟨_,_,I,I,?_⟩⟩;have nk:=E1.uy (o':=fi C ak l (aa+1+(cnt n).length) (!T) bX) nP;refine⟨_,_,_,I,I,nk.aw,(by rw[nR,hN];exact fK (show min j s.length<100001 by lia) (w4 (by decide))),?_⟩;have mF:=nk.ai4 (u' :=.lst ((s.take j).map V.int++[V.int ((n:Int)+1)])) nP PC;have eG:(n:Int)+1=b:=by lia
  have p2:(s.take j).map V.int++[V.int ((n:Int)+1)]=(s.take (j+1)).map V.int:=by rw[Mu C6,fP,eG];rfl
  rw[p2]at mF;have hq:=Ll (a:=cnt n) ⟨_,(gL ..).symm.trans yM.choose_spec⟩ (by rw[cA];exact gQ);rw[cA]at hq
  have OH:∀(u:Int)(gJ:al),mb H gJ p r (zX C ak l (aa+1+(cnt n).length) (!T) bX u) (.lst ((s.take (j+1)).map V.int))->∃bU,bU<s.length-j/\∃(j aa:Nat)(T:Bool)(u:Int),1<=j/\j<=s.length/\bU=s.length-j/\[J (V.ref p),J (.ref r)]=[J (.ref p),J (.ref r)]/\mb H gJ p r (zX C ak l aa T bX u) (.lst ((s.take j).map V.int))/\more (s.drop j) <+: (l.map (xor T)).drop aa/\aa<=l.length/\aa+(more (s.drop j)).length=i+(jP s).length/\T=(t ^^ odd (j+1)):=fun u gJ yK=>by
   refine⟨s.length-(j+1),by lia,j+1,aa+1+(cnt n).length,!T,u,by lia,by lia,rfl,rfl,yK,Mi yM,hq,?_,?_⟩
   ·have abU:(more (b::s.drop (j+1))).length=1+((cnt n).length+(more (s.drop (j+1))).length):=by
     rw[more,eb,cA,dP,<-aV];lia
    rw[abU]at c1;lia
   .rw[cc,BO (j+1)];cases t<;>cases odd (j+1)<;>rfl
  dsimp only;rw[p2];have mY:s.take (j+1)≠[]:=by rw[Mu C6];exact List.append_ne_nil_of_right_ne_nil _ (lG _ _)
  refine⟨_,I,_,I,xz mF.aw (GN mY) ⟨I,_,I,?_⟩⟩;refine fl (fun c=>?_) (fun c=>?_)
  ·refine⟨_,I,p,ak,_,I,mF.aU,P9 ..,p,ak,aH l,_,!T,bX,0,1,I,mF.aU,?_⟩;exact OH 1 _ (mF.uy nP)
  .exact OH 0 _ mF
 ·
  have gx:j=s.length:=by lia
  have kq:s.drop j=[]:=by rw[gx];exact List.drop_length ..
  have jo:s.take j=s:=by rw[gx];exact List.take_length ..
  rw[kq]at lS c1;rw[jo]at S;obtain⟨gQ,gF,O3⟩:=BQ lS;rw[Pn]at gQ;obtain⟨bit,wm,yN⟩:=get_map (l:=l) (t:=T) (i:=aa) gQ;rw[gF]at yN;refine⟨_,I,p,ak,_,I,S.aU,nm ..,p,ak,l,aa,T,bX,bit,I,⟨_,S.aU⟩,aB,wm,I,_,I,?_⟩;rw[<-yN];refine fh (by decide) ?_;have eX:=S.uy (o':=fi C ak l (aa+1) T bX) nP;have abW:aa+1=i+(jP s).length:=c1;refine⟨_,I,r,s,I,eX.aw,by lia,_,rfl,?_⟩;rw[(ML s).mpr bb];refine da ⟨_,I,_,_,I,.inl ⟨_,ba eX.aw,I⟩,_,_,I,I,(by show(0:Int)<2;decide),I,_,I,?_⟩;rw[nR]
  have dp:∀{bp:al},mb H bp p r (fi C ak l (aa+1) t bX) (.lst (s.map V.int))->∀d8,bp d8=ax->kH H (upd bp d8 (.tup [.int (c8 s).1,.int (c8 s).2])) (Q (.ref d8)):=fun{bp}nk d8 IS=>by
   have aA:=nk.free IS;have e0:p≠d8:=fun z=>by rw[<-z,nk.aU]at IS;cases IS
   refine⟨_,Sub.I9 aU aA (fun b u ag e=>by rw[bC (fe e aA)];exact nk.hs b u ag e) (by rw[bC e0];exact nk.aU) aG trivial,?_⟩;rw[abW];exact q d8 aA
  refine fl (fun c=>?_) (fun c=>?_)
  ·have alj:s.length%2=0:=by have:=V.int.inj c;lia
   have e5:(!T)=t:=by
    rw[cc,gx,BO];have:odd s.length=aE:=fL (by lia);rw[this];cases t<;>rfl
   refine⟨_,I,p,ak,_,I,eX.aU,ub ..,p,ak,l,_,_,_,_,I,eX.aU,?_⟩;have d7:=eX.uy (o':=fi C ak l (aa+1) (!T) bX) nP;refine⟨_,I,r,s,I,d7.aw,tU,M9 bN,bb,?_⟩;rw[e5]at d7;rw[e5];exact dp d7
  ·have aed:s.length%2=1:=by
    have:¬s.length%2=0:=fun z=>c (congrArg V.int (by lia));lia
   have e5:T=t:=by
    rw[cc,gx,BO];have:odd s.length=ah:=eT aed;rw[this];cases t<;>rfl
   subst e5;exact⟨_,I,r,s,I,eX.aw,tU,M9 bN,bb,dp eX⟩
def U1(F:dN K "draw" "Whole.draw" Bg f fd)(ru:aY P w K mg zn 4 "draw_whole" ["source"] (QU C)):dh P w K mg zn dA 5 f fd ["self","source"] (QO has bD fw c C n (.b 2)):=by
 refine F.fo Ys (fun H vs Q E aw h=>?_);obtain⟨o,p,ak,bl,d,l,j,t,e,X,rfl,hs,dk,aP,dq,df,aB,b0,eR,ef,aA,d1,q⟩:=h;have:=ny hs;subst this;rw[aT]at q d1;rw[bJ]at aA;cases d with
 |int v =>
  have aA:ih v:=hX aA;have d1:gY v <+: sees l t j:=d1;have M:=d4.step (j':=j+(gY v).length) (t':=t) (e':=e) df;refine⟨_,(aJ (bt (bT ru aw (aj (ab 1) az)))),?_⟩;ac_rfl;refine⟨_,I,p,ak,l,j,v,t,e,I,df,aB,b0,aA,d1,_,M.sub aG,?_⟩;exact q _ _ M I aG
 |_=>cases aA
def ZN(adQ:∀d,bD d=ah->∃s,Good s/\s.length<=1000/\nj s/\d=.tup [.int (c8 s).1,.int (c8 s).2]/\fw d=jP s)(F:dN K "draw" "Fraction.draw" Ay f fd)(xu:aY P w K mg zn 5 "draw_fraction" ["source"] (QR C)):dh P w K mg zn dA 6 f fd ["self","source"] (QO has bD fw c C n (.b 3)):=by
 refine F.fo Xz (fun H vs Q E aw h=>?_);obtain⟨o,p,ak,bl,d,l,j,t,e,X,rfl,hs,dk,aP,dq,df,aB,b0,eR,ef,aA,d1,q⟩:=h;have:=ny hs;subst this;rw[aT]at q d1;rw[bJ]at aA;have aA:bD d=ah:=by cases d<;>exact aA
 have hQ:Cd fw 3 d=fw d:=by cases d<;>rfl
 rw[hQ]at q d1;obtain⟨s,bb,tU,bN,rfl,kr⟩:=adQ d aA;rw[kr]at q d1;have gD:=d4.step (j':=j+(jP s).length) (t':=t) (e':=e) df;refine⟨_,(aJ (bt (bT xu aw (aj (ab 1) az)))),?_⟩;ac_rfl;refine⟨_,I,p,ak,l,j,s,t,e,I,df,aB,b0,bb,tU,bN,d1,fun r fH=>?_⟩;have nP:r≠p:=fun z=>by rw[z,df]at fH;cases fH
 have E:=Ext.tup (xs:=[.int (c8 s).1,.int (c8 s).2]) (show upd H p (fi C ak l (j+(jP s).length) t e) r=ax by rw[bC nP];exact fH);have M:=gD.ext E
 have fresh:r∉X:=fun z=>by
  obtain⟨Qa,ho⟩:=ef _ z;rw[fH]at ho;cases ho
 exact⟨_,M.sub (E.s _ _ aG),q _ _ M ⟨r,[.int (c8 s).1,.int (c8 s).2],I,fresh,aG,⟨.int (c8 s).1,[.int (c8 s).2],I,I,⟨.int (c8 s).2,[],I,I,I⟩⟩,by simp⟩ (E.s _ _ aG)⟩
noncomputable def w3{α:Type}(a0 a1 a2 a3 a4 a5 a6 a7 a8 a9 a10:α):fO->α
 |.b 0=>a0
 |.b 1=>a1
 |.b 2=>a2
 |.b _=>a3
 |.s=>a4
 |.l=>a5
 |.o 0=>a6
 |.o 1=>a7
 |.o _=>a8
 |.t 0=>a9
 |.t _=>a10
theorem tn{p:fO->Prop}(aX:p (.b 0))(ai:p (.b 1))(ar:p (.b 2))(bz:p (.b 3))(c0:p .s)(es:p .l)(iN:p (.o 0))(mR:p (.o 1))(mS:p (.o 2))(mT:p (.t 0))(CD:p (.t 1)):∀i,p i
 |.b k=>by rcases v5 k with rfl|rfl|rfl|rfl<;>assumption
 |.s=>c0
 |.l=>es
 |.o k=>by rcases rS k with rfl|rfl|rfl<;>assumption
 |.t k=>by rcases tC k with rfl|rfl<;>assumption
def rF(K:bS)(c:ey)(m:ae)(q:fO->ae)(st:fO->bA)(aQ:List ae):Prop:=∀i,MethAt K (fX c i) m (q i) (st i) aQ
def fc{K:bS}{C:af}{m:ae}{st:bA}{sp:cv}(M:MethAt K C m q st aQ)(h:∀f fd,dN K m q st f fd->dh P w K mg zn dA k f fd aQ sp):gn P w K mg zn k C m aQ sp/\fT K C:=by
 obtain⟨f,fd,G,ag,hm⟩:=M.ex;exact⟨⟨f,fd,h f fd G,ag,hm⟩,M.cl⟩
structure A1(K:bS)(c:ey):Prop where
 J7:vy K c.s
 J5:s6 K c.l
 rh:∀k,k2 K (c.o k)
 xc:∀k,oB K (c.t k)
noncomputable def hasAll:fO->Bool:=fun _=>ah
noncomputable def Hi:fO->ae:=w3 "Nothing.fits" "Truth.fits" "Whole.fits" "Fraction.fits" "Span.fits" "Letters.fits" "Maybe.fits" "Many.fits" "Turned.fits" "Record.fits" "Choice.fits"
noncomputable def Ho:fO->bA:=w3 AA Bh Bf Ax Bq AJ Bm Bu AN AU AW
noncomputable def GA:fO->ae:=w3 "Nothing.written" "Truth.written" "Whole.written" "Fraction.written" "Span.written" "Letters.written" "Maybe.written" "Many.written" "Turned.written" "Record.written" "Choice.written"
noncomputable def GL:fO->bA:=w3 A7 Av Au A5 Az Wp Aw AI A8 A9 Ar
noncomputable def Hj:fO->ae:=w3 "Nothing.draw" "Truth.draw" "Whole.draw" "Fraction.draw" "Span.draw" "Letters.draw" "Maybe.draw" "Many.draw" "Turned.draw" "Record.draw" "Choice.draw"
noncomputable def Hp:fO->bA:=w3 AB Bi Bg Ay Br AK Bn Bv AO AV Bc
def Uk(nb:dn mg)(L:A1 K c)(S:rF K c "fits" Hi Ho ["self","value"])(p4:hi mg "MOST_VALUES" (.int 60))(p3:hi mg "LONGEST_TEXT" (.int 200))(nh:aY P w K mg zn 1 "is_number" ["value"] Rf)(sR:aY P w K mg zn 2 "has_whole_row" ["n"] Q6)(oq:aY P w K mg zn 1 "made_of" ["text","signs"] Rk)(xv:aY P w K mg zn 3 "has_fraction_row" ["fraction"] Q4):∀n,hy P w K mg zn (2*n+4) "fits" ["self","value"] (fX c) (QY hasAll cy c n):=by
 intro n
 induction n with
 |zero=>exact fun i=>⟨GF (S i) (fun vs H Q E z=>by obtain⟨o,f,_,_,_,_,_,_,h,_⟩:=z;have:=vR f;lia),(S i).cl⟩
 |succ n bK=>exact tn (fc (S _) fun _ _ G=>(aao G).mono (by lia)) (fc (S _) fun _ _ G=>(US G).mono (by lia)) (fc (S _) fun _ _ G=>(UR G nh sR).mono (by lia)) (fc (S _) fun _ _ G=>(ZM nb G nh xv).mono (by lia)) (fc (S _) fun _ _ G=>(V4 L.J7 G nh).mono (by lia)) (fc (S _) fun _ _ G=>(aap nb p3 L.J5 G oq).mono (by lia)) (fc (S _) fun _ _ G=>(UT nb (L.rh 0) G bK).mono (by lia)) (fc (S _) fun _ _ G=>(V5 nb p4 (L.rh 1) G bK).mono (by lia)) (fc (S _) fun _ _ G=>(abb (L.rh 2) G bK).mono (by lia)) (fc (S _) fun _ _ G=>(abc nb (L.xc 0) G bK).mono (by lia)) (fc (S _) fun _ _ G=>(abd nb (L.xc 1) G bK).mono (by lia))
def ZT(nb:dn mg)(L:A1 K c)(S:rF K c "written" GA GL ["self","value"])(xH:gn P w K mg zn 1 c.l "places" ["self","text"] (RC c.l))(ry:aY P w K mg zn 3 "whole_row" ["n"] LI)(om:aY P w K mg zn 2 "fixed_row" ["n","most"] QZ)(ot:aY P w K mg zn 1 "turned_row" ["row"] LB)(rx:aY P w K mg zn 1 "steps_of" ["fraction"] R0)(xw:aY P w K mg zn 4 "row_of_steps" ["steps"] RM):∀n,hy P w K mg zn (2*n+4) "written" ["self","value"] (fX c) (Se hasAll cy bL c n):=by
 intro n
 induction n with
 |zero=>exact fun i=>⟨GF (S i) (fun vs H Q E z=>by obtain⟨o,f,_,_,_,_,_,_,h,_⟩:=z;have:=vR f;lia),(S i).cl⟩
 |succ n bK=>exact tn (fc (S _) fun _ _ G=>(Xi G).mono (by lia)) (fc (S _) fun _ _ G=>(XC G).mono (by lia)) (fc (S _) fun _ _ G=>(Xp G ry).mono (by lia)) (fc (S _) fun _ _ G=>(Xg G rx xw).mono (by lia)) (fc (S _) fun _ _ G=>(XD L.J7 G om).mono (by lia)) (fc (S _) fun _ _ G=>(Xj nb L.J5 G (S .l).cl xH om).mono (by lia)) (fc (S _) fun _ _ G=>(XE nb (L.rh 0) G bK).mono (by lia)) (fc (S _) fun _ _ G=>(XW nb (L.rh 1) G bK).mono (by lia)) (fc (S _) fun _ _ G=>(Xq (L.rh 2) G ot bK).mono (by lia)) (fc (S _) fun _ _ G=>(Xr nb (L.xc 0) G bK).mono (by lia)) (fc (S _) fun _ _ G=>(Xt nb (L.xc 1) G om bK).mono (by lia))
def Vg{C:af}(nb:dn mg)(L:A1 K c)(S:rF K c "draw" Hj Hp ["self","source"])(eF:fT K C)(p4:hi mg "MOST_VALUES" (.int 60))(p3:hi mg "LONGEST_TEXT" (.int 200))(hj:gn P w K mg zn 1 C "draw" ["self"] (QV C))(l7:gn P w K mg zn 1 C "turn" ["self"] (R6 C))(l6:gn P w K mg zn 1 C "refuse" ["self"] uC)(oj:aY P w K mg zn 2 "draw_fixed" ["source","most"] (QQ C))(ru:aY P w K mg zn 4 "draw_whole" ["source"] (QU C))(xu:aY P w K mg zn 5 "draw_fraction" ["source"] (QR C)):∀n,hy P w K mg zn (2*n+4) "draw" ["self","source"] (fX c) (QO hasAll cy bL c C n):=by
 intro n
 induction n with
 |zero=>exact fun i=>⟨GF (S i) (fun vs H Q E z=>by obtain⟨o,_,_,f,_,_,_,_,_,_,_,_,_,_,h,_⟩:=z;have:=vR f;lia),(S i).cl⟩
 |succ n bK=>exact tn (fc (S _) fun _ _ G=>(aar G).mono (by lia)) (fc (S _) fun _ _ G=>(U2 eF G hj).mono (by lia)) (fc (S _) fun _ _ G=>(U1 G ru).mono (by lia)) (fc (S _) fun _ _ G=>(ZN (fun _ h=>F8 h) G xu).mono (by lia)) (fc (S _) fun _ _ G=>(Wb L.J7 G oj).mono (by lia)) (fc (S _) fun _ _ G=>(aas nb p3 eF L.J5 G hj l6 oj).mono (by lia)) (fc (S _) fun _ _ G=>(U3 eF (L.rh 0) G hj bK).mono (by lia)) (fc (S _) fun _ _ G=>(Wc nb p4 eF (L.rh 1) G hj l6 bK).mono (by lia)) (fc (S _) fun _ _ G=>(abl eF (L.rh 2) G l7 bK).mono (by lia)) (fc (S _) fun _ _ G=>(abm nb (L.xc 0) G bK).mono (by lia)) (fc (S _) fun _ _ G=>(abn nb (L.xc 1) G oj bK).mono (by lia))
def w6(has:fO->Bool)(bD:D->Bool)(fw:D->List Bool)(c:ey)(n:Nat):cv:=fun vs H Q E=>∃i,Se has bD fw c n i vs H Q E
theorem Ze(F:dN K "row" "Form.row" k6 f fd)(lA:hy P w K mg zn (2*n+4) "fits" ["self","value"] (fX c) (QY has bD c n))(lC:hy P w K mg zn (2*n+4) "written" ["self","value"] (fX c) (Se has bD fw c n)):dh P w K mg zn dA (2*n+4+1) f fd ["self","value"] (w6 has bD fw c n):=by
 refine F.fo Zu (fun H vs Q E aw h=>?_);obtain⟨eC,o,bl,v,d,rfl,hs,dk,aP,dq,hd,aA,aB,q⟩:=h;obtain⟨gM,gO,fk,li⟩:=b6.fits bl dk;obtain⟨abR,acF,gx,afm⟩:=b6.written bl dk
 refine⟨_,(aI (cw (iJ (f6 (ij lA aw (ab 0) (aj (ab 1) az)))) (aJ kN) cx)
  (aJ (bt (ij lC aw (ab 0) (aj (ab 1) az))))),?_⟩
 ac_rfl;refine⟨_,I,o,slot bl,gM,gO,I,fk,li,_,I,o,bl,v,d,I,I,dk,aP,dq,hd,aA,ah,I,?_⟩;refine da ⟨_,I,o,slot bl,abR,acF,I,gx,afm,_,I,o,bl,v,d,I,I,dk,aP,dq,hd,aA,aB,H,.refl (c5 _),q⟩
def b6.row{c:ey}(f:bH){o:af}(h:b6 c X H f o):∃ak fs,H o=J (.ins (fX c (slot f)) ak fs)/\fs.lookup (ae.ofString "row")=ax :=
 b6.ins (m:=ae.ofString "row") ⋯ ⋯ ⋯ ⋯ ⋯ ⋯ f h
def Wl(S:rF K c "row" (fun _=>"Form.row") (fun _=>k6) ["self","value"])(lA:hy P w K mg zn (2*n+4) "fits" ["self","value"] (fX c) (QY has bD c n))(lC:hy P w K mg zn (2*n+4) "written" ["self","value"] (fX c) (Se has bD fw c n)):hy P w K mg zn (2*n+5) "row" ["self","value"] (fX c) (fun _=>w6 has bD fw c n):=fun i=>fc (S i) fun _ _ G=>Ze G lA lC
def d4.new(x:Ext H H1)(aX:H p=ax)(m:d4 p H1 ao):Ext H ao:=⟨fun b u e=>m.k b u (fun z=>by rw[z,aX]at e;cases e) (x.s b u e),fun cl=>m.c (x.c cl)⟩
def xg{p:fb->Prop}{D:Ends}(T:fb)(h:p T)(g:∀(G:Prop)(b2:St),b2=U->(T D b2 H->G)->G):∃T,p T/\T D U H:=g _ U rfl fun k=>⟨T,h,k⟩
def h6{KO:bS}{R:fb}{D:Ends}{w:V}{r:List V}(aq:U[i]?=J (J (.ref T)))(e:H T=J (.tup (w::r)))(h:R D (U.set j (J w)) H):kY (w9 (lZ (fun x y H Q=>(Jy KO x y H Q\/JA KO x y H Q)\/Jz x y H Q) (pw i) (lY (.int 0))) (wa j)) R D U H:=⟨_,aq,x0 e (cT (j:=0) rfl) h⟩
def fu{w:ae}{R:fb}{D:Ends}(aq:U[i]?=J (J (.str x)))(aV:¬V.str x=V.str w)(h:R D U H):kY (xa (ri (lZ rb (pw i) (lY (.str w)))) S xb) R D U H:=⟨_,aq,rfl,_,rfl,fh aV h⟩
def kl{w:ae}{R:fb}{D:Ends}(aq:U[i]?=J (J (.str w)))(h:∀N:St->al->Prop,S {D with nx:=N} U H):kY (xa (ri (lZ rb (pw i) (lY (.str w)))) S xb) R D U H:=⟨_,aq,rfl,_,rfl,hU rfl (h _)⟩
def J8{w:ae}{R:fb}{D:Ends}(aq:U[i]?=J (J (.str w)))(h:∀N:St->al->Prop,(∀U H,R D U H->N U H)->S {D with nx:=N} U H):kY (xa (ri (lZ rb (pw i) (lY (.str w)))) S xb) R D U H:=⟨_,aq,rfl,_,rfl,hU rfl (h _ fun _ _ z=>z)⟩
def Sp{w:ae}{R:fb}{D:Ends}(aq:U[i]?=J (J (.str x)))(hw:x=w\/x=hW)(h:∀N:St->al->Prop,S {D with nx:=N} U H):kY (xa (J6 (ri (lZ rb (pw i) (lY (.str w)))) (ri (lZ rb (pw i) (lY (.str hW))))) S xb) R D U H:=by
 by_cases z:x=w
 .subst z;exact⟨_,aq,I,_,I,hU I (h _)⟩
 ·obtain rfl:=hw.resolve_left z;exact⟨_,aq,I,_,I,fh (fun e=>z (V.str.inj e)) ⟨_,aq,I,_,I,hU I (h _)⟩⟩
def uA{w:ae}{R:fb}{D:Ends}(aq:U[i]?=J (J (.str x)))(aV:¬V.str x=V.str w)(lb:¬V.str x=V.str hW)(h:R D U H):kY (xa (J6 (ri (lZ rb (pw i) (lY (.str w)))) (ri (lZ rb (pw i) (lY (.str hW))))) S xb) R D U H:=⟨_,aq,rfl,_,rfl,fh aV ⟨_,aq,rfl,_,rfl,fh lb h⟩⟩
def fN{R:fb}{D:Ends}(h:∀N:St->al->Prop,(∀U H,R D U H->N U H)->S {D with nx:=N} U H):kY S R D U H:=h _ fun _ _ z=>z
inductive Rr(vs:List V)(H:al)(Q:bI)(E:cB):Prop where
 |mk (c:Int) (aX:vs=[.int c]) (ai:∀n:Nat,n+1<2^255->Q (.int n) H)
def Ur(c:Int)(aX:c%5≠0)(ai:c%5≠1):∃M:Int,ed [V.int 5,V.int 40,V.int 1000] (c%5-2)=J (.int M)/\0<M/\M<=1000:=by
 have h:c%5-2=((0:Nat):Int)\/c%5-2=((1:Nat):Int)\/c%5-2=((2:Nat):Int):=by lia
 rcases h with h|h|h<;>rw[h]
 .exact⟨_,cT I,by decide,by decide⟩
 .exact⟨_,cT I,by decide,by decide⟩
 .exact⟨_,cT I,by decide,by decide⟩
def WH{x:Int}(h:0<=x):∃n:Nat,x=n:=⟨x.toNat,by lia⟩
def Wt(r:Int)(h:0<=r):(2:Int)<=1*2^(1+r).toNat:=by
 have e:(1+r).toNat=r.toNat+1:=by lia
 rw[e,Int.one_mul,Int.pow_succ];have:(0:Int)<2^r.toNat:=Int.pow_pos (by decide);lia
def HA:(1:Int)*2^(255:Int).toNat=2^255:=by decide
def ZF(nb:dn mg)(F:dD K mg "_law_near" Gj ["_law_cell"] f fd):aY P w K mg zn 1 "_law_near" ["_law_cell"] Rr:=by
 refine F.eg Ma (fun H vs Q E aw h=>?_);obtain⟨c,rfl,q⟩:=h
 refine⟨_,(aI (bM 1 Ma.bj (aO hn (ab 0) aC))
  (aI (cw (b9 c6 (aO dX (ab 0) aC) aC) (aJ (bt (aO dX (ab 1) (aO gc (aO Hk aC aC) aC)))) cx)
  (aI (cw (b9 c6 (aO dX (ab 0) aC) aC) (aJ (bt (b8 (xY rfl) rfl nb.zr ym (aj (aO el (aO gc (aO Hk aC (aO el aC (aO dX (ab 1) aC))) aC) (aO dX (aO hn (ab 1) aC) aC)) (aj (aO gc (aO Hk aC aC) aC) az))))) cx)
  (aJ (bt (aO dX (ab 1) (bW bY (hB (aj aC (aj aC (aj aC az)))) (aO gc (aO dX (ab 0) aC) aC)))))))),?_⟩
 ac_rfl
 have dp:∀(x:Int)(H':al),0<=x->x+1<2^255->dY H H'->kH H H' (Q (.int x)):=fun x H' aX ai hs=>by
  obtain⟨n,rfl⟩:=WH aX;exact⟨H,.refl hs,q n (by lia)⟩
 refine⟨_,I,_,_,I,I,⟨by decide,by decide⟩,?_⟩;refine⟨_,I,_,_,I,I,(by show(0:Int)<5;decide),I,_,I,?_⟩;refine fl (fun a=>?_) (fun a=>?_)
 ·have p:(0:Int)<2^255-1:=by decide
  refine⟨_,I,_,_,I,I,⟨by decide,by decide,by decide⟩,_,_,rfl,rfl,_,_,rfl,rfl,by(try dsimp only);rw[HA];exact p,?_⟩
  try dsimp only
  rw[HA];refine dp _ _ (hY _ (by decide)) ?_ (c5 _);have:=ib (c/5) p;lia
 ·refine⟨_,I,_,_,I,I,(by show(0:Int)<5;decide),I,_,I,?_⟩;refine fl (fun b=>?_) (fun b=>?_)
  ·refine⟨_,I,_,_,I,I,(by show(0:Int)<255;decide),.inl ⟨_,_,I,I,?_⟩⟩;have h5:=hY (c/5) (show(255:Int)≠0 by decide);have cf:=ib (c/5) (show(0:Int)<255 by decide);refine⟨_,_,I,I,⟨by lia,by lia,by decide⟩,_,_,rfl,rfl,?_⟩;refine⟨_,I,_,_,I,I,⟨by decide,by decide⟩,_,_,rfl,rfl,(by show(0:Int)<3;decide),.inl ⟨_,_,rfl,rfl,?_⟩⟩;refine⟨_,_,I,I,⟨by decide,by decide,by decide⟩,_,_,rfl,rfl,_,_,rfl,?_⟩;have g:=Wt (c/5%255) h5;have s0:=hY (c/5/255) (show(3:Int)≠0 by decide);dsimp only;rw[HA];have big:(2:Int)<=2^255:=by decide
   refine dp _ _ ?_ ?_ (c5 _)
   .split<;>lia
   .split<;>lia
  ·obtain⟨M,qS,xG,gD⟩:=Ur c (fun z=>a (congrArg V.int z)) (fun z=>b (congrArg V.int z));refine⟨_,I,(by show 3<=cg;decide),fun r d1=>⟨_,I,_,_,I,I,(by show(0:Int)<5;decide),_,_,I,I,xz aG qS ⟨_,_,I,I,xG,?_⟩⟩⟩;have m0:=hY (c/5) (Int.ne_of_gt xG);have fy:=ib (c/5) xG;have big:(2:Int)+1000<=2^255:=by decide
   exact dp _ _ m0 (by lia) (cE d1)
inductive RT(vs:List V)(H:al)(Q:bI)(E:cB):Prop where
 |mk (c:Int) (aX:vs=[.int c]) (ai:∀n:Int,ih n->Q (.int n) H)
def YG(F:dD K mg "_law_signed" FN ["_law_cell"] f fd)(Ah:aY P w K mg zn 1 "_law_near" ["_law_cell"] Rr):aY P w K mg zn 2 "_law_signed" ["_law_cell"] RT:=by
 refine F.eg Yp (fun H vs Q E aw h=>?_);obtain⟨c,rfl,q⟩:=h
 refine⟨_,(aI (cw (b9 c6 (aO dX (ab 0) aC) aC) (aJ (bt (aO gc (k7 k1 aC) (bT Ah aw (aj (aO hn (ab 0) aC) az))))) cx)
  (aJ (bt (bT Ah aw (aj (aO hn (ab 0) aC) az))))),?_⟩
 ac_rfl;refine⟨_,I,_,_,I,I,(by show(0:Int)<2;decide),I,_,I,?_⟩;refine fl (fun a=>?_) (fun a=>?_)
 .refine⟨_,I,_,I,_,_,I,I,⟨by decide,by decide⟩,_,rfl,fun n aV=>⟨_,_,rfl,rfl,H,.refl (c5 _),q _ ⟨?_,?_⟩⟩⟩<;>lia
 .refine⟨_,I,_,_,I,I,⟨by decide,by decide⟩,_,rfl,fun n aV=>⟨H,.refl (c5 _),q _ ⟨?_,?_⟩⟩⟩<;>lia
def vM(f:α->V)(xs:List α)(c m:Int)(hm:m=xs.length)(h:0<xs.length):∃n,n∈xs/\ed (xs.map f) (c%m)=J (f n):=by
 subst hm;have ai:=hY c (b:=(xs.length:Int)) (by lia);have ar:=ib c (b:=(xs.length:Int)) (by lia);obtain⟨k,hk⟩:=Int.eq_ofNat_of_zero_le ai;rw[hk];have o2:k<xs.length:=by lia
 exact⟨xs[k],List.getElem_mem o2,cT (by rw[eD,cI o2];rfl)⟩
def iI(c:Int)(n:Nat)(h:0<n):∃k:Nat,k<n/\c%((n:Nat):Int)=((k:Nat):Int):=by
 have ai:=hY c (b:=(n:Int)) (by lia);have ar:=ib c (b:=(n:Int)) (by lia);obtain⟨k,hk⟩:=Int.eq_ofNat_of_zero_le ai;exact⟨k,by lia,hk⟩
inductive RE(K:bS)(vs:List V)(H:al)(Q:bI)(E:cB):Prop where
 |mk (a:af) (ns:List Int) (aX:vs=[.ref a]) (ai:cZ K H a (ns.map V.int)) (ar:ns.length<=63) (bz:∀(p:af)(ms:List Int),H p=ax->ms.length<=90->Q (.ref p) (upd H p (.lst (ms.map V.int))))
def ZE(nb:dn mg)(F:dD K mg "_law_pool" Gh ["_law_script"] f fd):aY P w K mg zn 1 "_law_pool" ["_law_script"] (RE K):=by show_term
 refine F.eg tb (fun H vs Q E aw h=>?_);obtain⟨a,ns,rfl,df,aB,q⟩:=h
 refine⟨_,(aI (bM 1 tb.bj (hB az))
  (aI (ma iB.never rfl (mL rfl nb.kV (aj (aO lW aC (b8 (xY rfl) rfl nb.zr ym (aj aC (aj (b8 dx rfl nb.dr dv (aj (ab 0) az)) az)))) az)) (d5 (i:=2) tb.bj rfl (by exact Or.inl I))
   (aI (bM 3 tb.bj (aO el (bW bY (ab 0) (aO dX (ab 2) (b8 (xY rfl) rfl nb.zr ym (aj aC (aj (b8 dx rfl nb.dr dv (aj (ab 0) az)) az))))) (aO lW (aO hn (ab 2) (b8 dx rfl nb.dr dv (aj (ab 0) az))) (aO el (aO lW (aO lW (ab 2) (ab 2)) aC) aC))))
   (aI (cw (b9 c6 (aO dX (aO hn (bW bY (ab 0) aC) aC) aC) aC) (aI (bM 3 tb.bj (aO dX (aO el (aO el (aO lW (ab 3) aC) (aO lW (ab 2) aC)) aC) aC))
    (aI (bM 3 tb.bj (aO dX (aO lW (ab 3) (ab 3)) aC))
    (aJ (bM 3 tb.bj (aO el (aO lW (ab 3) aC) (aO dX (aO lW (ab 3) (ab 3)) aC)))))) cx)
   (aJ (ik (hZ PySem.F.plainAttrs_list PySem.F.slot_list_append PySem.F.type_list_append qt (ab 1) (aj (ab 3) az)))))))
  (aJ (bt (ab 1))))),?_⟩
 ac_rfl;refine⟨UF _,fun p aU=>?_⟩;have s0:=cE (o:=cX.lst []) aU;refine⟨_,I,_,_,I,.inl ⟨_,s0.seq df,I⟩,_,_,I,.inl ⟨_,_,I,I,.inl ⟨by decide,by decide⟩,?_⟩⟩;rw[cA];refine⟨_,I,?_,?_,?_⟩
 .split<;>lia
 .split<;>lia
 have bX:(90*(if((ns.length:Nat):Int)<1 then((ns.length:Nat):Int)else 1)).toNat=if ns.length=0 then 0 else 90:=by split<;>split<;>lia
 rw[bX];refine qu (fun i U ao=>∃(ms:List Int)(di dg:Option V),U=[J (.ref a),J (.ref p),di,dg]/\ms.length=i/\ao=upd H p (.lst (ms.map V.int))) ?_ ?_ ?_
 .exact⟨[],ax,ax,I,I,I⟩
 ·rintro i U ao aF ⟨ms,di,dg,rfl,hm,rfl⟩;have mr:ns.length≠0:=fun z=>by rw[if_pos z]at aF;lia
  rw[if_neg mr]at aF;have hs:=(cE (o:=cX.lst (ms.map V.int)) aU).seq df;obtain⟨k,hk,kO⟩:=iI (0+((i:Nat):Int)) (min 63 ns.length) (by lia);have o2:k<ns.length:=by lia
  have i4:ed (ns.map V.int) ((k:Nat):Int)=J (.int ns[k]):=cT (by rw[eD,cI o2];rfl);have ads:ed (ns.map V.int) 0=J (.int ns[0]):=cT (j:=0) (by rw[eD,cI (by lia)];rfl);have em:(if(((ns.map V.int).length:Nat):Int)<63 then(((ns.map V.int).length:Nat):Int)else 63)=((min 63 ns.length:Nat):Int):=by rw[cA];split<;>lia
  have hC:=Int.ediv_nonneg (a:=0+((i:Nat):Int)) (b:=(((ns.map V.int).length:Nat):Int)) (by lia) (by lia);have iq:=Int.ediv_le_self (a:=0+((i:Nat):Int)) (((ns.map V.int).length:Nat):Int) (by lia);have lm:(((ns.map V.int).length:Nat):Int)=((ns.length:Nat):Int):=by rw[cA]
  refine⟨_,I,_,I,_,I,_,_,I,.inl ⟨_,hs,I⟩,_,_,I,_,_,I,I,(by rw[em];lia),.inl (.inl ⟨_,_,_,_,I,I,hs,(by rw[em,kO];exact i4),?_⟩)⟩;refine⟨_,I,_,I,_,_,I,.inl ⟨_,hs,I⟩,_,_,I,I,⟨by lia,by lia⟩,?_⟩;refine⟨_,I,_,I,.inl ⟨_,_,I,I,.inl ⟨by lia,by lia⟩,.inl ⟨_,_,rfl,rfl,.inr ⟨by decide,by decide⟩,.inl ⟨_,_,rfl,rfl,.inl ⟨_,_,rfl,rfl,.inl ⟨by lia,by lia⟩,.inl ⟨_,_,rfl,rfl,?_⟩⟩⟩⟩⟩⟩
  have dp:∀(n:Int)(di:Option V),∃(P0:List Int)(di dg:Option V),[J (V.ref a),J (V.ref p),J (V.int (0+((i:Nat):Int))),J (V.int n)]=[J (.ref a),J (.ref p),di,dg]/\P0.length=i+1/\upd (upd H p (.lst (ms.map V.int))) p (.lst (ms.map V.int++[V.int n]))=upd H p (.lst (P0.map V.int)):=fun n di =>
   ⟨ms++[n],_,_,rfl,by rw[dP,hm];rfl,by rw[fW,fP];rfl⟩
  have c1:(ms.map V.int).length<cg:=by rw[cA];exact fK (show ms.length<100000 by lia) (by decide)
  refine⟨_,I,.inl (.inl ⟨_,_,_,_,I,I,hs,ads,_,_,I,I,⟨by decide,by decide⟩,_,_,rfl,rfl,(by show(0:Int)<2;decide),rfl,_,rfl,fl (fun eE=>?_) (fun eE=>?_)⟩)⟩
  ·refine⟨_,I,.inl ⟨_,_,I,I,.inr ⟨by decide,by decide⟩,_,rfl,.inl ⟨_,_,rfl,rfl,.inr ⟨by decide,by decide⟩,.inl ⟨_,_,rfl,rfl,.inl ⟨_,_,rfl,rfl,_,_,rfl,rfl,(by show(0:Int)<2147483629;decide),?_⟩⟩⟩⟩⟩;dsimp only;generalize ef:((ns[k]+(0+((i:Nat):Int))/_*_)*48271+(0+((i:Nat):Int))*69621+11)=X;have fy:=hY X (show(2147483629:Int)≠0 by decide);have kT:=ib X (show(0:Int)<2147483629 by decide);generalize X%2147483629=m at fy kT ⊢;refine⟨_,I,_,I,.inl ⟨_,_,I,I,.inl ⟨by lia,by lia⟩,_,_,rfl,rfl,(by show(0:Int)<2147483587;decide),?_⟩⟩;dsimp only;have PV:=hY (m*m) (show(2147483587:Int)≠0 by decide);have t4:=ib (m*m) (show(0:Int)<2147483587 by decide);generalize m*m%2147483587=v at PV t4 ⊢;refine⟨_,I,.inl ⟨_,_,I,I,.inl ⟨by lia,by lia⟩,_,rfl,_,rfl,.inl ⟨_,_,rfl,rfl,.inl ⟨by lia,by lia⟩,_,_,rfl,rfl,(by show(0:Int)<2147483563;decide),.inl ⟨_,_,rfl,rfl,?_⟩⟩⟩⟩;refine⟨_,I,.inl ⟨I,_,ba aG⟩,_,I,p,_,_,I,I,aG,c1,?_⟩;exact dp _ ax
  ·refine⟨_,I,.inl ⟨I,_,ba aG⟩,_,I,p,_,_,I,I,aG,c1,?_⟩;exact dp _ ax
 ·rintro U ao ⟨ms,di,dg,rfl,hm,rfl⟩;refine⟨_,I,_,.new aU (cE aU) aG trivial,q p ms aU ?_⟩;split at hm<;>lia
def ai3{n:Nat}(h:0<n):seqIndex? 0 n=J 0:=by
 obtain⟨j,ai,ar,_⟩:=B6 (xs:=List.range n) (i:=0) (v:=0) (cT (j:=0) (by rw[List.getElem?_range h]));rw[kK]at ai;rw[gr]at ar;obtain⟨_,z⟩:=ar;rw[List.getElem_range]at z;rw[ai,z]
inductive Ru(vs:List V)(H:al)(Q:bI)(E:cB):Prop where
 |mk (p:_) (aX:vs=[.ref p]) (ai:ox p H) (ar:∀(c:Int)(ns:List Int),ns.length<=90->Q (.int c) (upd H p (.lst (ns.map V.int))))
noncomputable def pl(H:al)(p:af):Nat:=match H p with|some (.lst vs)=>vs.length|_=>0
def vT(h:H p=J (.lst vs)):pl H p=vs.length:=by unfold pl;rw[h]
inductive Rt(vs:List V)(H:al)(Q:bI)(E:cB):Prop where
 |mk (p:_) (aX:vs=[.ref p]) (ai:ox p H) (ar:∀(c:Int)(ns:List Int),ns.length<=90->(pl H p=ns.length+1\/pl H p=0/\ns=[]/\c=0)->Q (.int c) (upd H p (.lst (ns.map V.int))))
def Y9(nb:dn mg)(F:dD K mg "_law_next" Gi ["_law_pool_here"] f fd):aY P w K mg zn 1 "_law_next" ["_law_pool_here"] Rt:=by
 refine F.eg Zs (fun H vs Q E aw h=>?_);obtain⟨p,rfl,⟨ns,aU,aB⟩,q⟩:=h;have hm:=vT aU;rw[cA]at hm
 refine⟨_,(aI (cw (b9 c6 (b8 dx I nb.dr dv (aj (ab 0) az)) aC) (aJ (bt aC)) cx)
  (aJ (bt (hZ PySem.F.plainAttrs_list PySem.F.slot_list_pop PySem.F.type_list_pop Nh (ab 0) (aj aC az))))),?_⟩
 ac_rfl;refine⟨_,I,_,_,I,.inl ⟨_,ba aU,I⟩,I,_,I,?_⟩;rw[cA];cases ns with
 |nil =>
  refine hU I ?_;have aX:=q 0 [] aB (.inr ⟨hm,rfl,rfl⟩);rw[BF aU]at aX;exact⟨H,.refl (c5 _),aX⟩
 |cons c r =>
  refine fh (fun z=>nomatch z) ?_;refine⟨_,I,.inl ⟨I,_,ba aU⟩,p,_,0,0,.int c,I,I,aU,by decide,by decide,ai3 (by rw[cA];exact Nat.succ_pos _),rfl,?_⟩;have r9:r.length<=90:=dF (Nat.le_succ _) aB;exact⟨_,(ez.pop ⟨_,aU,aB⟩ r9).sub,q c r r9 (.inl hm)⟩
def aY.less{sp:cv}(h:aY P w K mg zn k x aQ sp)(i:∀vs H Q E,zM vs H Q E->sp vs H Q E):aY P w K mg zn k x aQ zM:=by
 obtain⟨f,fd,F,r⟩:=h;exact⟨f,fd,⟨fun vs H Q E q=>F.1 vs H Q E (i _ _ _ _ q),fun A outer s H args us vs Q E a b c d q=>F.2 A outer s H args us vs Q E a b c d (i _ _ _ _ q)⟩,r⟩
def aaZ{E:cB}(h:Ru vs H Q E):Rt vs H Q E:=by
 obtain⟨p,e,cV,q⟩:=h;exact⟨p,e,cV,fun c ns aV _=>q c ns aV⟩
inductive RV(vs:List V)(H:al)(Q:bI)(E:cB):Prop where
 |mk (c:Int) (aX:vs=[.int c]) (ai:∀s:ae,oU s=ah->s.length<=60->Q (.str s) H)
def Y8(nb:dn mg)(F:dD K mg "_law_signs" FY ["_law_cell"] f fd):aY P w K mg zn 1 "_law_signs" ["_law_cell"] RV:=by
 refine F.eg pO (fun H vs Q E aw h=>?_);obtain⟨c,rfl,q⟩:=h
 refine⟨_,(aI (bM 1 pO.bj cY)
  (aI (bM 2 pO.bj (aO el aC (aO dX (ab 0) (bW bY (hB (aj aC (aj aC (aj aC (aj aC az))))) (aO dX (aO hn (ab 0) aC) aC)))))
  (aI (bM 3 pO.bj (aO hn (ab 0) aC))
  (aI (bM 4 pO.bj cY)
  (aI (ma iB.never rfl (mL rfl nb.kV (aj (ab 2) az)) (d5 (i:=5) pO.bj rfl (by exact Or.inl I))
   (aI (bM 6 pO.bj (aO dX (ab 3) (b8 dx rfl nb.dr dv (aj (ab 1) az))))
   (aI (bM 3 pO.bj (aO hn (ab 3) (b8 dx rfl nb.dr dv (aj (ab 1) az))))
   (aI (bM 4 pO.bj (aO el (ab 4) (bW bY (ab 1) (ab 6))))
   (aJ (bM 1 pO.bj (aO el (lK lX (ab 1) mB (kL (ab 6))) (lK lX (ab 1) (kL (aO el (ab 6) aC)) mB))))))))
  (aJ (bt (ab 4)))))))),?_⟩
 ac_rfl;refine⟨_,I,(by show 4<=cg;decide),fun g bb=>?_⟩;obtain⟨x,aq,lU⟩:=vM V.int [2,3,7,60] (c/60) 4 rfl (by show 0<4;decide)
 have wD:0<x/\x<=60:=by
  have:∀y∈([2,3,7,60]:List Int),0<y/\y<=60:=by decide
  exact this x aq
 refine⟨_,I,_,_,I,I,⟨by decide,by decide⟩,_,_,rfl,rfl,(by show(0:Int)<4;decide),xz aG lU ⟨_,_,rfl,rfl,wD.1,.inl ⟨_,_,rfl,rfl,?_⟩⟩⟩;have v0:=hY c (show x≠0 by lia);have v1:=ib c wD.1;generalize c%x=m at v0 v1 ⊢;obtain⟨n,rfl⟩:=Int.eq_ofNat_of_zero_le v0;refine⟨_,I,_,_,I,I,⟨by decide,by decide⟩,?_⟩;refine⟨_,I,_,I,by lia,by lia,?_⟩;have bX:(1+((n:Nat):Int)).toNat=n+1:=by lia
 rw[bX];refine qu (fun i U ao=>dY H ao/\∃(rest found:ae)(num:Int)(di dg gS:Option V),U=[J (.int c),J (.str rest),gS,J (.int num),J (.str found),di,dg]/\rest.length=62-i/\found.length=i/\(found.cps.toList++rest.cps.toList).Perm qx.cps.toList) ?_ ?_ ?_
 ·refine⟨cE bb,qx,ae.ofString "",c/240,ax,ax,_,I,Wm,by decide+kernel,?_⟩;rw[show(ae.ofString "").cps.toList=[] by decide+kernel];exact List.Perm.refl _
 ·rintro i U ao aF ⟨hs,rest,found,num,di,dg,gS,rfl,aB,aA,aU⟩;have qf:rest.length<=cg:=fC (by lia);obtain⟨k,hk,kO⟩:=iI num rest.length (by lia);obtain⟨cu,i4,aca⟩:=aaA hk;have fE:=LW rest k (by lia);have eK:=LL rest (k+1) (by lia);refine⟨_,I,_,I,_,_,I,⟨qf,I⟩,_,_,I,I,(by lia),?_⟩;dsimp only;rw[kO];refine⟨_,I,_,I,_,_,I,⟨qf,I⟩,_,_,I,I,⟨by lia,by lia⟩,?_⟩;refine⟨_,I,_,I,_,I,.inr ⟨_,_,_,I,I,qf,i4,.inr ⟨_,_,I,I,fC (by show _+1<=_;lia),?_⟩⟩⟩;have aL:((k:Nat):Int)+1=((k+1:Nat):Int):=by lia
  refine⟨_,I,_,I,_,I,.inr ⟨_,I,qf,_,I,_,I,.inl ⟨_,_,I,I,_,I,.inr ⟨_,I,qf,.inr ⟨_,_,I,I,?_,?_⟩⟩⟩⟩⟩
  .rw[fE,aL,eK];exact fC (by lia)
  ·rw[aL];refine⟨hs,_,_,_,_,_,_,I,?_,?_,?_⟩
   .rw[pU,fE,eK];lia
   .rw[pU,aA];rfl
   ·rw[vQ,vQ];exact(aaP aca).trans aU
 ·rintro U ao ⟨hs,rest,found,num,di,dg,gS,rfl,aB,aA,aU⟩;exact⟨_,I,H,.refl hs,q _ (aal aU (by lia) (by lia)) (by lia)⟩
inductive Rp(vs:List V)(H:al)(Q:bI)(E:cB):Prop where
 |mk (c:Int) (m:Nat) (aX:vs=[.int c,.int ((m:Nat):Int)]) (ai:0<m) (ar:m<=20) (bz:∀(D:af)(ns:List ae),H D=ax->ns.length=m->lP ns=ah->Q (.ref D) (upd H D (.lst (ns.map V.str))))
def Za(nb:dn mg)(F:dD K mg "_law_names" F0 ["_law_cell","_law_many"] f fd):aY P w K mg zn 1 "_law_names" ["_law_cell","_law_many"] Rp:=by show_term
 refine F.eg oK (fun H vs Q E aw h=>?_);obtain⟨c,m,rfl,IE,hm,q⟩:=h
 refine⟨_,(aI (bM 2 oK.bj cY)
  (aI (bM 3 oK.bj (aO dX (ab 0) aC))
  (aI (bM 4 oK.bj (aO dX (aO hn (ab 0) aC) (aO el (ab 3) aC)))
  (aI (bM 5 oK.bj (bW bY (hB (aj aC (aj aC (aj aC (aj aC (aj aC (aj aC az))))))) (aO dX (aO hn (aO hn (ab 0) aC) (aO el (ab 3) aC)) aC)))
  (aI (bM 6 oK.bj (aO hn (aO hn (ab 0) aC) (aO el (ab 3) aC)))
  (aI (bM 7 oK.bj (aO dX (ab 6) aC))
  (aI (bM 8 oK.bj cY)
  (aI (ma iB.never rfl (mL rfl nb.kV (aj (ab 3) az)) (d5 (i:=9) oK.bj rfl (by first|exact Or.inl I|exact Or.inr I))
   (aI (bM 6 oK.bj (aO hn (ab 6) aC))
   (aJ (bM 8 oK.bj (aO el (ab 8) (bW bY (ab 2) (aO dX (ab 6) aC)))))))
  (aJ (bt (hO ["_law_k"] [(8,"_law_stem"),(4,"_law_at"),(2,"_law_some"),(7,"_law_first"),(5,"_law_step")] rfl ⋯ ⟨rfl,.inl rfl,rfl,.inl rfl,rfl,.inl rfl,rfl,.inl rfl,rfl,.inl rfl,trivial⟩ (mL rfl nb.kV (aj (ab 1) az)) (d5 (i:=0) (show(["_law_k","_law_stem","_law_at","_law_some","_law_first","_law_step"]:List ae).Nodup by decide+kernel)) gs (aO el (aO el (lK lX (ab 1) mB (kL (ab 2))) (bW bY (ab 3) (aO dX (aO el (ab 4) (aO lW (ab 0) (ab 5))) aC))) (lK lX (ab 1) (kL (ab 2)) mB))))))))))))),?_⟩
 ac_rfl;obtain⟨d3,g9,acr⟩:=iI c 12 (by decide);have acq:c%12=((d3:Nat):Int):=acr;obtain⟨a,aM,abX⟩:=iI (c/12) (d3+1) (by lia);have cL:c/12%(((d3:Nat):Int)+1)=((a:Nat):Int):=abX;refine⟨_,I,_,_,I,I,(by show(0:Int)<12;decide),?_⟩;dsimp only;rw[acq];refine⟨_,I,_,_,I,I,⟨by decide,by decide⟩,_,rfl,.inl ⟨_,_,rfl,rfl,_,_,rfl,rfl,(by lia),?_⟩⟩;dsimp only;rw[cL];refine⟨(by show 6<=cg;decide),fun g bb=>?_⟩;obtain⟨x,aq,lU⟩:=vM V.int [1,3,5,7,9,11] (c/12/(((d3:Nat):Int)+1)) 6 rfl (by show 0<6;decide)
 have wD:0<x/\x<=11:=by
  have:∀y∈([1,3,5,7,9,11]:List Int),0<y/\y<=11:=by decide
  exact this x aq
 refine⟨_,I,_,_,I,I,⟨by decide,by decide⟩,_,rfl,.inl ⟨_,_,rfl,rfl,_,_,rfl,rfl,⟨by lia,by lia⟩,_,_,rfl,rfl,(by show(0:Int)<6;decide),xz aG lU ?_⟩⟩;refine⟨_,I,_,_,I,I,⟨by decide,by decide⟩,_,rfl,.inl ⟨_,_,rfl,rfl,_,_,rfl,rfl,⟨by lia,by lia⟩,?_⟩⟩;refine⟨_,I,_,_,I,I,(by show(0:Int)<26;decide),?_⟩;refine⟨_,I,_,I,by lia,by lia,?_⟩;have bX:(((d3:Nat):Int)).toNat=d3:=by lia
 rw[bX];have PQ:kG.length<=cg:=by rw[Hg];exact fC (by decide)
 refine qu (fun i U ao=>dY H ao/\∃(pv:ae)(num fst:Int)(di dg:Option V),U=[J (.int c),J (.int ((m:Nat):Int)),J (.str kG),dg,J (.int ((a:Nat):Int)),J (.int x),J (.int num),J (.int fst),J (.str pv),di]/\pv.length=i/\mI i kG.cps.toList pv) ?_ ?_ ?_
 ·refine⟨cE bb,ae.ofString "",_,_,ax,_,I,by decide+kernel,by decide+kernel,fun c h=>?_⟩;rw[show(ae.ofString "").cps.toList=[] by decide+kernel]at h;cases h
 ·rintro i U ao aF ⟨hs,pv,num,fst,di,dg,rfl,aB,bc⟩;obtain⟨k,hk,Cq⟩:=iI (num/26) 26 (by decide);have kO:num/26%26=((k:Nat):Int):=Cq;obtain⟨cu,tT,i4⟩:=Wi (x:=kG) (k:=k) (by rw[Hg];exact hk);refine⟨_,I,_,_,I,I,⟨by decide,by decide⟩,?_⟩;refine⟨_,I,_,I,_,I,_,_,I,I,(by show(0:Int)<26;decide),.inr ⟨_,_,_,I,I,PQ,(by rw[kO];exact i4),.inr ⟨_,_,I,I,fC (by show _+1<=_;lia),?_⟩⟩⟩;exact⟨hs,_,_,_,_,_,I,by rw[pU,aB];rfl,bc.app (mI.one tT)⟩
 ·rintro U ao ⟨hs,pv,num,fst,di,dg,rfl,aB,bc⟩;have ls:pv.length<=cg:=fC (by lia);refine⟨_,I,_,I,by lia,by lia,fun D c2=>?_⟩;have em:(((m:Nat):Int)).toNat=m:=by lia
  rw[em];have alP:kG.cps.toList.length=26:=by rw[jh];exact Hg
  have fE:=LW pv a (by lia);have eK:=LL pv a (by lia)
  let pb:Nat->Nat:=fun i=>((fst+(0+((i:Nat):Int))*x)%26).toNat
  have tR:∀i,pb i<26/\(fst+(0+((i:Nat):Int))*x)%26=((pb i:Nat):Int):=fun i=>by
   have ai:=hY (fst+(0+((i:Nat):Int))*x) (show(26:Int)≠0 by decide);have ar:=ib (fst+(0+((i:Nat):Int))*x) (show(0:Int)<26 by decide);constructor
   ·show Int.toNat _<26;lia
   ·show _=((Int.toNat _:Nat):Int);lia
  let Dt:Nat->ae:=fun i=>(Txt.slice pv ax (J ((a:Nat):Int))++⟨#[kG.cps.toList.getD (pb i) 0]⟩)++Txt.slice pv (J ((a:Nat):Int)) ax
  refine G1 m (fun i =>.int (0+((i:Nat):Int))) (fun i=>V.str (Dt i)) (fun U=>∃z,U=[z,J (.str pv),J (.int ((a:Nat):Int)),J (.str kG),J (.int fst),J (.int x)]) (fC (by lia)) ⟨_,I⟩ ?_ ?_ ?_ ?_ ?_
  .intro i H1 aF;exact aF
  .intro H1;exact cp _
  .rintro i H1 y bp aF ⟨rfl,rfl⟩;exact⟨I,I⟩
  ·rintro i bE H1 aF ⟨z,rfl⟩ R bN;obtain⟨hk,kO⟩:=tR i;have i4:ed kG.cps.toList ((pb i:Nat):Int)=J (kG.cps.toList.getD (pb i) 0):=cT (by rw[eJ,cI (by lia)];rfl);have aL:(⟨#[kG.cps.toList.getD (pb i) 0]⟩:ae).length=1:=rfl;refine⟨_,I,_,I,_,I,.inr ⟨_,I,ls,?_⟩⟩;refine⟨_,I,_,I,_,I,_,I,.inl ⟨_,_,I,I,.inr ⟨by lia,by lia⟩,.inl ⟨_,_,rfl,rfl,_,_,rfl,rfl,(by show(0:Int)<26;decide),.inr ⟨_,_,_,rfl,rfl,PQ,(by rw[kO];exact i4),.inr ⟨_,_,rfl,rfl,fC (by lia),?_⟩⟩⟩⟩⟩;refine⟨_,I,_,I,_,I,.inr ⟨_,I,ls,.inr ⟨_,_,I,I,fC (by rw[pU];lia),?_⟩⟩⟩;exact bN _ ⟨_,I⟩
  ·have e:(List.range m).map (fun i=>V.str (Dt i))=((List.range m).map Dt).map V.str:=by rw[gg];rfl
   rw[e];have CH:=hs.free c2;refine⟨_,.new CH (hs.trans (cE c2)) aG trivial,q D ((List.range m).map Dt) CH (by rw[cA,kK]) ?_⟩;refine Zg (by rw[cA,kK];lia) (by rw[cA,kK];lia) ?_ ?_
   ·unfold List.Nodup;rw[List.pairwise_iff_getElem];intro i j aF b0 Iw;rw[cA,kK]at aF b0;rw[ko,ko,List.getElem_range,List.getElem_range];intro dg;have gS:=VT dg;obtain⟨yY,Cr⟩:=tR i;obtain⟨o2,yx⟩:=tR j;rw[eJ,eJ,cI (by lia),cI (by lia)]at gS;have ro:=(List.getElem_inj Um).mp gS;have:=Ut (f:=fst) aq (show i<26 by lia) (show j<26 by lia) (by rw[Cr,yx,ro]);lia
   ·intro n aV;obtain⟨i,_,rfl⟩:=List.mem_map.mp aV;obtain⟨hk,kO⟩:=tR i;refine aa5 ⟨?_,?_⟩ ?_
    ·show(_++_:ae).length<=12;rw[pU,pU,fE,eK];show a+1+_<=12;lia
    ·refine(((bc.slice ax (J ((a:Nat):Int))).app (mI.one ?_)).app (bc.slice (J ((a:Nat):Int)) ax)).s;rw[eJ,cI (by lia)];exact List.getElem_mem _
    ·show 0<(_++_:ae).length;rw[pU,pU];show 0<_+1+_;lia
noncomputable def sJ:ae:=ae.ofString "nothing"
noncomputable def uH:ae:=ae.ofString "truth"
noncomputable def uI:ae:=ae.ofString "whole"
noncomputable def sL:ae:=ae.ofString "span"
noncomputable def uF:ae:=ae.ofString "fraction"
noncomputable def uG:ae:=ae.ofString "letters"
noncomputable def DY:ae:=ae.ofString "maybe"
noncomputable def Kh:ae:=ae.ofString "many"
noncomputable def Ki:ae:=ae.ofString "record"
noncomputable def SA:ae:=ae.ofString "choice"
noncomputable def Kj:ae:=ae.ofString "turned"
def Simp(H:al)(v:V):Prop:=∃T,v=.ref T/\((∃w,w∈[sJ,uH,uI,uF]/\H T=J (.tup [.str w]))\/(∃a b:Int,H T=J (.tup [.str sL,.int a,.int b])/\a<=b/\b-a<2^190/\a.natAbs<10^58/\b.natAbs<10^58)\/(∃s:ae,H T=J (.tup [.str uG,.str s])/\oU s=ah/\s.length<=60))
def ow(X:List af)(H:al):Prop:=∀x,x∈X->∃l,H x=J (.lst l)
def ow.grow(h:ow X H)(g:ez p H H'):ow X H':=fun x aq=>by
 by_cases z:x=p
 ·subst z;obtain⟨ns,e,_⟩:=g.l;exact⟨_,e⟩
 ·obtain⟨l,e⟩:=h x aq;exact⟨l,g.k _ _ z e⟩
inductive RW(vs:List V)(H:al)(Q:bI)(E:cB):Prop where
 |mk (p:af) (way:Nat) (aX:vs=[.ref p,.int ((way:Nat):Int)]) (ai:way<6) (ar:ox p H) (bz:∀v H',ez p H H'->Simp H' v->Q v H')
def YF(F:dD K mg "_law_simple" FL ["_law_pool_here","_law_way"] f fd)(jw:aY P w K mg zn 1 "_law_next" ["_law_pool_here"] Ru)(Eo:aY P w K mg zn 1 "_law_signs" ["_law_cell"] RV):aY P w K mg zn 2 "_law_simple" ["_law_pool_here","_law_way"] RW:=by
 refine F.eg Fv (fun H vs Q E aw h=>?_);obtain⟨p,way,rfl,hw,cV,q⟩:=h
 refine⟨_,(aI (cw (b9 c6 (ab 1) aC) (aI (bM 2 Fv.bj (aO gc (aO dX (bT jw aw (aj (ab 0) az)) (aO yj aC aC)) (aO yj aC aC)))
   (aI (bM 3 Fv.bj (bT jw aw (aj (ab 0) az)))
   (aJ (bt (jm (aj cY (aj (ab 2) (aj (aO el (ab 2) (aO dX (aO hn (ab 3) aC) (bW bY (hB (aj aC (aj aC (aj aC (aj (aO yj aC aC) az))))) (aO dX (ab 3) aC)))) az)))))))) cx)
  (aI (cw (b9 c6 (ab 1) aC) (aJ (bt (jm (aj cY (aj (bT Eo aw (aj (bT jw aw (aj (ab 0) az)) az)) az))))) cx)
  (aJ (bt (jm (aj (bW bY (hB (aj cY (aj cY (aj cY (aj cY (aj cY az)))))) (ab 1)) az)))))),?_⟩
 ac_rfl;refine⟨_,I,I,_,I,fl (fun hP=>?_) (fun hP=>?_)⟩
 ·refine⟨_,I,p,I,cV,fun rP e0 qa=>?_⟩;have cF:=ez.pop cV qa;have w0:∀n:Int,n=57\/n=56->Af 10 n:=fun n aV=>by rcases aV with rfl|rfl<;>(refine⟨?_,?_,?_⟩<;>decide)
  have Qh:(0:Int)<10^Int.toNat 57:=⋯;refine⟨_,_,I,I,w0 _ (.inl I),_,_,I,I,Qh,_,_,I,I,w0 _ (.inr I),_,_,I,I,?_⟩;dsimp only
  have afd:∃low:Int,low=rP%10^Int.toNat 57-10^Int.toNat 56/\-(10^57)<=low/\low<=10^57:=by
   refine⟨_,I,?_⟩;have a1:=hY rP (show(10:Int)^Int.toNat 57≠0 by decide+kernel);have a2:=ib rP Qh;rw[show Int.toNat 57=57 from rfl]at a1 a2 ⊢;rw[show Int.toNat 56=56 from rfl];lia
  obtain⟨low,h1,alS,alT⟩:=afd;rw[<-h1];clear h1;refine⟨_,I,p,I,cF.l,fun c dS mX=>?_⟩;have e9:=cF.trans (ez.pop cF.l mX);generalize upd (upd H p (.lst (e0.map V.int))) p (.lst (dS.map V.int))=ao at e9 ⊢;refine⟨_,I,_,I,_,I,_,_,I,I,⟨by decide,by decide⟩,_,_,rfl,rfl,w0 _ (.inl rfl),(by show 4<=cg;decide),fun g bb=>?_⟩;obtain⟨x,aq,lU⟩:=vM V.int [1,5,300,10^Int.toNat 57] c 4 rfl (by show 0<4;decide)
  obtain⟨wD,alJ,qd⟩:0<x/\x<2^190/\x<=10^57:=by
   have:∀y∈([1,5,300,10^Int.toNat 57]:List Int),0<y/\y<2^190/\y<=10^57:=⋯;exact this x aq
  refine⟨_,I,_,_,I,I,(by show(0:Int)<4;decide),xz aG lU ⟨_,_,I,I,wD,.inl ⟨_,_,I,I,(by show 3<=cg;decide),fun T cc=>?_⟩⟩⟩;have fE:=hY (c/4) (show x≠0 by lia);have eK:=ib (c/4) wD;have hh:=(e9.ext (Ext.lst bb)).ext (Ext.tup (xs:=[V.str sL,.int low,.int (low+c/4%x)]) cc);exact⟨_,hh.sub,q _ _ hh ⟨T,I,.inr (.inl ⟨low,_,aG,by lia,by lia,by lia,by lia⟩)⟩⟩
 ·refine⟨_,I,I,_,I,fl (fun Cf=>?_) (fun Cf=>?_)⟩
  ·refine⟨_,I,p,I,cV,fun rP e0 qa=>?_⟩;have cF:=ez.pop cV qa;refine⟨rP,I,fun cu bb aB=>⟨jA,fun T cc=>?_⟩⟩;have hh:=cF.ext (Ext.tup (xs:=[V.str uG,.str cu]) cc);exact⟨_,hh.sub,q _ _ hh ⟨T,I,.inr (.inr ⟨cu,aG,bb,aB⟩)⟩⟩
  ·have aeF:way≠3/\way≠5:=⟨fun z=>hP (by rw[z];rfl),fun z=>Cf (by rw[z];rfl)⟩
   obtain⟨hW,aeG,y9⟩:∃hW,hW∈[sJ,uH,uI,uF]/\ed ([sJ,uH,uI,sL,uF].map V.str) ((way:Nat):Int)=J (.str hW):=by
    have:way=0\/way=1\/way=2\/way=4:=by lia
    rcases this with rfl|rfl|rfl|rfl
    .exact⟨sJ,by simp,cT (j:=0) rfl⟩
    .exact⟨uH,by simp,cT (j:=1) rfl⟩
    .exact⟨uI,by simp,cT (j:=2) rfl⟩
    .exact⟨uF,by simp,cT (j:=4) rfl⟩
   refine⟨(by show 5<=cg;decide),fun g bb=>⟨_,I,xz aG y9 ⟨(by show 1<=cg;decide),fun T cc=>?_⟩⟩⟩;have hh:=((ez.refl cV).ext (Ext.lst bb)).ext (Ext.tup (xs:=[V.str hW]) cc);exact⟨_,hh.sub,q _ _ hh ⟨T,I,.inl ⟨hW,aeG,aG⟩⟩⟩
mutual
noncomputable def d3:bH->Nat
 |.bare _=>1
 |.sp _ _=>1
 |.le _=>1
 |.one _ f=>d3 f+1
 |.two _ _ fs=>kD fs+1
noncomputable def kD:List bH->Nat
 |[]=>0
 |f::fs=>d3 f+kD fs
end
noncomputable def Kk(k:Fin 4):ae:=[sJ,uH,uI,uF].getD k.val sJ
noncomputable def qj(k:Fin 3):ae:=[DY,Kh,Kj].getD k.val DY
noncomputable def uJ(k:Fin 2):ae:=[Ki,SA].getD k.val Ki
mutual
noncomputable def e4:bH->D
 |.bare k =>.tup [.str (Kk k)]
 |.sp a b =>.tup [.str sL,.int a,.int b]
 |.le s =>.tup [.str uG,.str s]
 |.one k f =>.tup [.str (qj k),e4 f]
 |.two k ns fs =>.tup [.str (uJ k),.lst (iw fs ns)]
noncomputable def iw:List bH->List ae->List D
 |[],_=>[]
 |f::fs,ns =>.tup [.str (ns.headD ae.empty),e4 f]::iw fs ns.tail
end
mutual
noncomputable def fz:bH->Prop
 |.bare _=>True
 |.sp a b=>a<=b/\b-a<2^190/\a.natAbs<10^58/\b.natAbs<10^58
 |.le s=>oU s=ah/\s.length<=60
 |.one _ f=>fz f
 |.two _ ns fs=>lP ns=ah/\ns.length=fs.length/\h3 fs
noncomputable def h3:List bH->Prop
 |[]=>True
 |f::fs=>fz f/\h3 fs
end
theorem vL:∀(fs:List bH)(ns:List ae),(iw fs ns).length=fs.length
 |[],ns=>by rw[iw];rfl
 |f::fs,ns=>by rw[iw,eb,vL fs ns.tail,eb]
theorem MQ(n:ae)(f:bH):∀(fs:List bH)(ns:List ae),ns.length=fs.length->iw (fs++[f]) (ns++[n])=iw fs ns++[.tup [.str n,e4 f]]
 |[],ns,h=>by
  obtain rfl:=List.eq_nil_of_length_eq_zero (by simpa using h);show iw [f] [n]=iw [] []++_;rw[iw,iw,iw];rfl
 |g::fs,[],h=>by cases h
 |g::fs,m::ns,h=>by
  show iw (g::(fs++[f])) (m::(ns++[n]))=iw (g::fs) (m::ns)++_;rw[iw,iw];show _::iw (fs++[f]) (ns++[n])=_::iw fs ns++_;rw[MQ n f fs ns (by simpa using h)];rfl
theorem ME{f:bH}(h:fz f):∀{fs:List bH},h3 fs->h3 (fs++[f])
 |[],_=>by show h3 [f];rw[h3,h3];exact⟨h,trivial⟩
 |g::fs,hs=>by
  rw[h3]at hs;show h3 (g::(fs++[f]));rw[h3];exact⟨hs.1,ME h hs.2⟩
theorem Nq{f:bH}{n:Nat}(h:bc f<=n):∀{fs:List bH},gV fs<=n->gV (fs++[f])<=n
 |[],_=>by show gV [f]<=n;rw[gV,gV];lia
 |g::fs,hs=>by
  rw[gV]at hs;show gV (g::(fs++[f]))<=n;rw[gV];have:=Nq h (fs:=fs) (by lia);lia
theorem GO(f:bH):∀fs:List bH,kD (fs++[f])=kD fs+d3 f
 |[]=>by show kD [f]=kD []+_;simp only[kD];lia
 |g::fs=>by
  show kD (g::(fs++[f]))=kD (g::fs)+_;rw[kD,kD,GO f fs];lia
def ow.no(ef:ow X H)(e:H T=J (.tup xs)):T∉X:=fun z=>by obtain⟨l,h⟩:=ef T z;rw[h]at e;cases e
def Vm:∀k:Fin 4,(Kk k).length<=16000000:=⋯
def Vl:∀k:Fin 3,(qj k).length<=16000000:=⋯
def Vk:∀k:Fin 2,(uJ k).length<=16000000:=⋯
def Wo:∀w,w∈[sJ,uH,uI,uF]->∃k,w=Kk k:=fun w h=>by
 rcases(show w=sJ\/w=uH\/w=uI\/w=uF by simpa using h)with rfl|rfl|rfl|rfl
 .exact⟨0,I⟩
 .exact⟨1,I⟩
 .exact⟨2,I⟩
 .exact⟨3,I⟩
def Simp.ak(ef:ow X H)(h:Simp H v):∃f,b5 X H (e4 f) v/\fz f/\bc f=1/\d3 f=1:=by
 obtain⟨T,rfl,⟨w,hw,e⟩|⟨a,b,e,h⟩|⟨s,e,ai,ar⟩⟩:=h
 ·obtain⟨k,rfl⟩:=Wo w hw;exact⟨.bare k,by rw[e4];exact⟨T,_,I,ef.no e,e,⟨_,_,I,⟨I,Vm k⟩,I⟩,by simp⟩,by rw[fz];trivial,by rw[bc],by rw[d3]⟩
 .exact⟨.sp a b,by rw[e4];exact⟨T,_,I,ef.no e,e,⟨_,_,I,⟨I,by decide+kernel⟩,_,_,rfl,rfl,_,_,rfl,rfl,rfl⟩,by simp⟩,by rw[fz];exact h,by rw[bc],by rw[d3]⟩
 .exact⟨.le s,by rw[e4];exact⟨T,_,I,ef.no e,e,⟨_,_,I,⟨I,by decide+kernel⟩,_,_,rfl,⟨rfl,by lia⟩,rfl⟩,by simp⟩,by rw[fz];exact⟨ai,ar⟩,by rw[bc],by rw[d3]⟩
def b5.grow(aU:p∈X)(g:ez p H H'){d:D}(h:b5 X H d v):b5 X H' d v :=
 b5.keep (fun b u nb e=>g.k b u (fun z=>nb (by rw[z];exact aU)) e) d h
structure La(X:List af)(H:al)(f:bH)(v:V)(n m:Nat):Prop where
 d:b5 X H (e4 f) v
 o:fz f
 h:bc f<=n
 s:d3 f<=m
inductive Q0(d:Nat)(vs:List V)(H:al)(Q:bI)(E:cB):Prop where
 |mk (p:af) (deep:Nat) (X:List af) (aX:vs=[.ref p,.int ((deep:Nat):Int)]) (ai:deep<d) (ar:ox p H) (bz:p∈X) (c0:ow X H) (es:∀v H' f,ez p H H'->La X H' f v (deep+1) (20*deep+1)->Q v H')
structure An(X:List af)(l:af)(d m:Nat)(H:al)(ns:List ae)(i:Nat)(fs:List bH)(vs:List V):Prop where
 ls:H l=J (.lst vs)
 ds:bx (l::X) H (iw fs (ns.take i)) vs
 ln:fs.length=i
 ok:h3 fs
 bc:gV fs<=d
 d3:kD fs<=m
def An.step{l:af}{e:Nat}{n:ae}{f:bH}{fs:List bH}(aa:An X l d m ao ns i fs vs)(ef:ow (l::X) ao)(aU:p∈X)(mq:l≠p)(g:ez p ao H')(bR:La (l::X) H' f v e k)(he:e<=d)(cc:H' T=ax)(aV:ns[i]?=J n)(mX:n.length<=100):
  An X l d (m+k) (upd (upd H' T (.tup [.str n,v])) l (.lst (vs++[V.ref T]))) ns (i+1) (fs++[f]) (vs++[V.ref T])/\ow (l::X) (upd (upd H' T (.tup [.str n,v])) l (.lst (vs++[V.ref T])))/\
  (∀b u,b∉l::X->H' b=J u->upd (upd H' T (.tup [.str n,v])) l (.lst (vs++[V.ref T])) b=J u):=by
 have wk:=ef.grow g
 have jS:∀b u,b∉l::X->H' b=J u->upd (upd H' T (.tup [.str n,v])) l (.lst (vs++[V.ref T])) b=J u:=fun b u nb e=>by
  rw[bC (fun z=>nb (by rw[z];exact eA ..)),bC (fe e cc)];exact e
 have P4:T∉l::X:=fun z=>by
  obtain⟨y,aW⟩:=wk T z;rw[cc]at aW;cases aW
 have afK:T≠l:=fun z=>P4 (by rw[z];exact eA ..)
 have aF:i<ns.length:=by
  rcases g5 i ns.length with z|z
  .exact z
  .rw[vz z]at aV;cases aV
 refine⟨⟨aG,?_,by rw[dP,aa.ln];rfl,ME bR.o aa.ok,Nq (by have:=bR.h;lia) aa.bc,?_⟩,?_,jS⟩
 ·rw[iG,aV];show bx _ _ (iw (fs++[f]) (ns.take i++[n])) _;rw[MQ n f fs _ (by rw[hN,aa.ln];lia)];have e5:upd (upd H' T (.tup [.str n,v])) l (.lst (vs++[V.ref T])) T=J (.tup [.str n,v]):=by rw[bC afK,aG]
  have hd:b5 (l::X) (upd (upd H' T (.tup [.str n,v])) l (.lst (vs++[V.ref T]))) (.tup [.str n,e4 f]) (.ref T):=⟨T,_,rfl,P4,e5,⟨_,_,rfl,⟨rfl,by lia⟩,_,_,rfl,b5.keep jS _ bR.d,rfl⟩,by simp⟩;exact bx.snoc hd _ (bx.keep jS _ (bx.keep (fun b u nb e=>g.k b u (fun z=>nb (by rw[z];exact dw _ aU)) e) _ aa.ds))
 .rw[GO];have:=bR.s;have:=aa.d3;lia
 ·intro x aq;by_cases z:x=l
  .subst z;exact⟨_,aG⟩
  ·obtain⟨y,aW⟩:=wk x aq;exact⟨y,by rw[bC z,bC (fe aW cc)];exact aW⟩
def XG(nb:dn mg)(F:dD K mg "_law_form" Bz ["_law_pool_here","_law_deep"] f fd)(jw:aY P w K mg zn 1 "_law_next" ["_law_pool_here"] Ru)(uX:aY P w K mg zn 1 "_law_names" ["_law_cell","_law_many"] Rp)(uZ:aY P w K mg zn 2 "_law_simple" ["_law_pool_here","_law_way"] RW)
  (uV:aY P w K mg zn (d+3) "_law_form" ["_law_pool_here","_law_deep"] (Q0 d)):aY P w K mg zn (d+3+1) "_law_form" ["_law_pool_here","_law_deep"] (Q0 (d+1)):=by show_term
 refine F.eg qD (fun H vs Q E aw h=>?_);obtain⟨p,deep,X,rfl,hd,cV,eR,ef,q⟩:=h
 refine⟨_,(aI (bM 2 qD.bj (bT jw aw (aj (ab 0) az)))
  (aI (bM 3 qD.bj (aO dX (ab 2) aC))
  (aI (cw (b9 c6 (ab 1) aC) (aJ (bM 3 qD.bj (aO dX (ab 2) aC))) cx)
  (aI (cw (b9 iV (ab 3) aC) (aJ (bt (bT uZ aw (aj (ab 0) (aj (ab 3) az))))) cx)
  (aI (cw (gK.pt (lL (b9 c6 (ab 3) aC) (l9 (b9 c6 (ab 3) aC)))) (aI (bM 4 qD.bj (aO el aC (aO dX (aO hn (ab 2) aC) aC)))
   (B0 (cw (gK.pt (oL (b9 c6 (ab 1) aC) (pS (b9 c6 (aO dX (aO hn (ab 2) aC) aC) aC)))) (aJ (bM 4 qD.bj (aO el aC (aO dX (aO hn (ab 2) aC) aC)))) cx)
   (aI (bM 5 qD.bj (bT uX aw (aj (bT jw aw (aj (ab 0) az)) (aj (ab 4) az))))
   (aI (bM 6 qD.bj (hB az))
   (aI (ma iB.never rfl (mL rfl nb.kV (aj (ab 4) az)) (d5 (i:=7) qD.bj rfl (by exact Or.inl I))
    (aJ (ik (hZ PySem.F.plainAttrs_list PySem.F.slot_list_append PySem.F.type_list_append qt (ab 6) (aj (jm (aj (bW bY (ab 5) (ab 7)) (aj (bT uV aw (aj (ab 0) (aj (aO lW (aO gc (ab 1) aC) (oE rD rfl nb.pa oN (aj (fM c6 (ab 7) (aO dX (aO hn (ab 2) aC) (ab 4))) az))) az))) az))) az)))))
   (aJ (bt (jm (aj (bW bY (hB (aj cY (aj cY az))) (aO gc (ab 3) aC)) (aj (ab 6) az)))))))))) cx)
  (aJ (bt (jm (aj (bW bY (hB (aj cY (aj cY (aj cY (aj cY (aj cY az)))))) (aO gc (ab 3) aC)) (aj (bT uV aw (aj (ab 0) (aj (aO gc (ab 1) aC) az))) az)))))))))),?_⟩
 ac_rfl;refine⟨_,I,p,I,cV,fun c e0 qa=>?_⟩;have cF:=ez.pop cV qa;generalize upd H p (.lst (e0.map V.int))=H1 at cF ⊢
 have Qx:∀way:Nat,way<6->RW [.ref p,.int ((way:Nat):Int)] H1 (fun v H'=>kH H H' (Q v)) jx:=fun way hw=>⟨p,way,rfl,hw,cF.l,fun v H' g hs=>by
  obtain⟨f,ai,ar,bz,c0⟩:=Simp.ak (ef.grow (cF.trans g)) hs
  exact⟨_,(cF.trans g).sub,q v H' f (cF.trans g) ⟨ai,ar,by lia,by lia⟩⟩⟩
 obtain⟨ke,alI,acu⟩:=iI c 11 (by decide);have acs:c%11=((ke:Nat):Int):=acu;refine⟨_,I,_,_,I,I,(by show(0:Int)<11;decide),?_⟩;dsimp only;rw[acs];refine⟨_,I,I,_,I,fl (fun rP=>?_) (fun rP=>?_)⟩
 ·obtain⟨Sz,aeH,acw⟩:=iI c 6 (by decide);have acv:c%6=((Sz:Nat):Int):=acw;refine⟨_,I,_,_,I,I,(by show(0:Int)<6;decide),?_⟩;dsimp only;rw[acv];exact⟨_,I,.inl ⟨_,_,I,I,_,I,hU (by lia) ⟨_,I,_,I,Qx Sz aeH⟩⟩⟩
 have alh:deep≠0:=fun z=>rP (by rw[z];rfl);refine⟨_,I,.inl ⟨_,_,I,I,_,I,fl (fun abE=>?_) (fun abE=>?_)⟩⟩
 .exact⟨_,I,_,I,Qx ke (by lia)⟩
 refine⟨_,I,I,_,I,(fun(hF:(ke=8\/ke=9)->_)=>fl (fun Hu=>hF (.inl (by have:=V.int.inj Hu;lia))) (fun Hu=>⟨_,I,I,_,I,fl (fun Hv=>hF (.inr (by have:=V.int.inj Hv;lia))) (fun Hv=>?_)⟩)) (fun aeI=>?_)⟩
 ·obtain⟨t4,alu,aci⟩:=iI (c/11) 4 (by decide);have ach:c/11%4=((t4:Nat):Int):=aci;have aL:(1:Int)+((t4:Nat):Int)=((t4+1:Nat):Int):=by lia
  refine⟨_,I,_,_,I,I,⟨by decide,by decide⟩,_,_,rfl,rfl,(by show(0:Int)<4;decide),.inl ⟨_,_,rfl,rfl,?_⟩⟩;dsimp only;rw[ach,aL];refine⟨fun b2 H'=>H1=H'/\∃nS:Nat,0<nS/\nS<=20/\b2=[J (.ref p),J (.int ((deep:Nat):Int)),J (.int c),J (.int ((ke:Nat):Int)),J (.int ((nS:Nat):Int)),ax,ax,ax],?_,?_⟩
  ·refine⟨_,I,I,_,I,fl (fun iT=>?_) (fun iT=>⟨I,t4+1,by lia,by lia,rfl⟩)⟩;refine⟨_,I,_,_,I,I,⟨by decide,by decide⟩,_,_,rfl,rfl,(by show(0:Int)<6;decide),rfl,_,rfl,fl (fun jS=>?_) (fun jS=>⟨rfl,t4+1,by lia,by lia,rfl⟩)⟩;obtain⟨Dk,qO,acg⟩:=iI (c/264) 20 (by decide);have acf:c/264%20=((Dk:Nat):Int):=acg;refine⟨_,I,_,_,I,I,⟨by decide,by decide⟩,_,_,rfl,rfl,(by show(0:Int)<20;decide),.inl ⟨_,_,rfl,rfl,rfl,Dk+1,by lia,by lia,?_⟩⟩;dsimp only;rw[acf,show(1:Int)+((Dk:Nat):Int)=((Dk+1:Nat):Int) by lia];rfl
  rintro bE akN ⟨rfl,nS,IE,ad4,rfl⟩;refine⟨_,I,p,I,cF.l,fun iK dS mX=>⟨_,I,iK,nS,I,IE,ad4,fun D ns c2 kQ h2=>?_⟩⟩;have e9:=cF.trans (ez.pop cF.l mX);have hh:=e9.ext (Ext.lst (xs:=ns.map V.str) c2);refine⟨UF _,fun l aB=>?_⟩;have u4:=Ext.lst (xs:=[]) aB;have EG:=hh.ext u4;have kv:H l=ax:=hh.free aB;have CH:H D=ax:=e9.free c2;have mq:l≠p:=hh.ne aB;have adf:D≠l:=fun z=>by rw[<-z,aG]at aB;cases aB
  have wx:l∉X:=fun z=>by obtain⟨y,aW⟩:=ef l z;rw[kv]at aW;cases aW
  have H5:D∉l::X:=fun z=>by
   rcases dd.mp z with z|z
   .exact adf z
   .obtain⟨y,aW⟩:=ef D z;rw[CH]at aW;cases aW
  have iO:upd (upd (upd H1 p (.lst (dS.map V.int))) D (.lst (ns.map V.str))) l (.lst []) D=J (.lst (ns.map V.str)):=u4.s _ _ aG;have H9:=aG (H:=upd (upd H1 p (.lst (dS.map V.int))) D (.lst (ns.map V.str))) (a:=l) (o:=cX.lst []);generalize upd (upd (upd H1 p (.lst (dS.map V.int))) D (.lst (ns.map V.str))) l (.lst [])=gJ at EG iO H9 ⊢;obtain⟨eI,Ph,Ct⟩:=iI (c/264) nS IE;refine⟨_,I,_,I,by lia,by lia,?_⟩;have bX:(((nS:Nat):Int)).toNat=nS:=by lia
  rw[bX];refine qu (fun i U ao=>ez p H ao/\ow (l::X) ao/\ao D=J (.lst (ns.map V.str))/\∃fs vs z,U=[J (.ref p),J (.int ((deep:Nat):Int)),J (.int c),J (.int ((ke:Nat):Int)),J (.int ((nS:Nat):Int)),J (.ref D),J (.ref l),z]/\An X l deep (i+if eI<i then 20*(deep-1)else 0) ao ns i fs vs) ?_ ?_ ?_
  ·refine⟨EG,?_,iO,[],[],ax,I,⟨H9,by rw[List.take_zero,iw];rfl,rfl,by rw[h3];trivial,by rw[gV];lia,by rw[kD];lia⟩⟩;intro x aq;rcases dd.mp aq with z|z
   .subst z;exact⟨_,H9⟩
   .exact(ef.grow EG) x z
  ·rintro i U ao aF ⟨g2,qT,hR,fs,vs,z,rfl,aa⟩;have gy:i<ns.length:=by lia
   have Ps:ns[i]?=J ns[i]:=cI gy;have i4:ed (ns.map V.str) (0+((i:Nat):Int))=J (.str ns[i]):=by rw[Int.zero_add];exact cT (by rw[eD,Ps];rfl)
   refine⟨_,I,.inl ⟨I,_,ba aa.ls⟩,_,I,_,I,xz hR i4 ?_⟩;refine⟨_,I,_,I,_,_,I,I,_,I,_,I,_,_,I,I,⟨by decide,by decide⟩,_,rfl,_,_,rfl,rfl,(by lia),rfl,.inl (.inr ⟨_,rfl,?_⟩)⟩
   have abY:decide (V.int (0+((i:Nat):Int))=V.int (c/264%((nS:Nat):Int)))=decide (i=eI):=by
    rw[Ct];exact decide_eq_decide.mpr ⟨fun h=>by have:=V.int.inj h;lia,fun h=>by rw[h,Int.zero_add]⟩
   rw[abY];obtain⟨mf,adF,adG,ev,adH⟩:∃mf:Nat,mf<d/\mf+1<=deep/\(((deep:Nat):Int)-1)*(if decide (i=eI)=ah then 1 else 0)=((mf:Nat):Int)/\(mf=if i=eI then deep-1 else 0):=⟨if i=eI then deep-1 else 0,by split<;>lia,by split<;>lia,by by_cases z:i=eI<;>simp only[z,decide_true,decide_false,if_true,if_false]<;>simp<;>lia,rfl⟩;refine .inl ⟨_,_,I,I,.inr (by split<;>exact⟨by decide,by decide⟩),p,mf,l::X,(by rw[<-ev];rfl),adF,g2.l,dw _ eR,qT,fun part bp ak4 g3 aei=>⟨jA,fun T cc=>?_⟩⟩;have p9:bp l=J (.lst vs):=g3.k _ _ mq aa.ls;have u5:=Ext.tup (xs:=[V.str ns[i],part]) cc
   have c1:vs.length=i:=by
    rw[cj.len _ (bx.at _ aa.ds),vL,aa.ln]
   refine⟨l,_,_,I,I,u5.s _ _ p9,(by rw[c1];exact fK (show i<100000 by lia) (by decide)),?_⟩;obtain⟨h8,AD,gz⟩:=aa.step qT eR mq g3 aei adG cc Ps (by have:=(qH h2).2 _ (List.getElem_mem gy);lia);refine⟨((g2.trans g3).ext u5).set kv (u5.s _ _ p9) mq,AD,gz _ _ H5 (g3.k _ _ (fun z=>H5 (by rw[z];exact dw _ eR)) hR),_,_,_,I,⟨h8.ls,h8.ds,h8.ln,h8.ok,h8.bc,?_⟩⟩;refine dF h8.d3 ?_;rw[adH];by_cases z:i=eI
   .rw[if_pos z,if_neg (by lia),if_pos (by lia)];lia
   ·rw[if_neg z];by_cases dg:eI<i
    .rw[if_pos dg,if_pos (by lia)];lia
    .rw[if_neg dg];lia
  ·rintro U ao ⟨g2,qT,hR,fs,vs,z,rfl,aa⟩
   obtain⟨ww,y9⟩:∃ww:Fin 2,ed ([Ki,SA].map V.str) (((ke:Nat):Int)-8)=J (.str (uJ ww)):=by
    rcases aeI with rfl|rfl
    .exact⟨0,cT (j:=0) I⟩
    .exact⟨1,cT (j:=1) I⟩
   refine⟨jA,fun g bb=>⟨_,I,_,_,I,I,xz aG y9 ⟨_,I,jA,fun T cc=>?_⟩⟩⟩;have Ez:=(Ext.lst bb).trans (Ext.tup (xs:=[V.str (uJ ww),V.ref l]) cc);have tE:=g2.ext Ez;have agi:ns.take nS=ns:=UV (by lia);have eB:=aa.ds;rw[agi]at eB;have jR:vs.length=nS:=by rw[cj.len _ (bx.at _ aa.ds),vL,aa.ln]
   have jD:T∉X:=(ef.grow tE).no aG;refine⟨_,tE.sub,q _ _ (.two ww ns fs) tE ⟨?_,?_,?_,?_⟩⟩
   ·rw[e4];exact⟨T,_,I,jD,aG,⟨_,_,I,⟨I,Vk ww⟩,_,_,I,⟨l,vs,I,wx,Ez.s _ _ aa.ls,bx.weak (fun y aW=>dw _ aW) _ (bx.same Ez.s eB),by lia⟩,rfl⟩,by simp⟩
   .rw[fz];exact⟨h2,by rw[aa.ln,kQ],aa.ok⟩
   .rw[bc];have:=aa.bc;lia
   ·rw[d3];have:=aa.d3;rw[if_pos Ph]at this;lia
 have hw:ke=6\/ke=7\/ke=10:=by
  have mS:ke≠8:=fun z=>Hu (by rw[z];rfl);have mT:ke≠9:=fun z=>Hv (by rw[z];rfl);lia
 obtain⟨ww,y9⟩:∃ww:Fin 3,ed ([DY,Kh,ae.ofString "",ae.ofString "",Kj].map V.str) (((ke:Nat):Int)-6)=J (.str (qj ww)):=by
  rcases hw with rfl|rfl|rfl
  .exact⟨0,cT (j:=0) I⟩
  .exact⟨1,cT (j:=1) I⟩
  .exact⟨2,cT (j:=4) I⟩
 refine⟨(by show 5<=cg;decide),fun g bb=>⟨_,I,_,_,I,I,xz aG y9 ?_⟩⟩;have fA:=cF.ext (Ext.lst (xs:=[DY,Kh,ae.ofString "",ae.ofString "",Kj].map V.str) bb);have ev:((deep:Nat):Int)-1=((deep-1:Nat):Int):=by lia
 refine⟨_,I,_,I,_,_,I,I,p,deep-1,X,(by rw[<-ev];rfl),by lia,fA.l,eR,ef.grow fA,fun v H' f g' bR=>⟨jA,fun T cc=>?_⟩⟩;have u5:=Ext.tup (xs:=[V.str (qj ww),v]) cc;have tE:=(fA.trans g').ext u5;have jD:T∉X:=(ef.grow tE).no aG;refine⟨_,tE.sub,q _ _ (.one ww f) tE ⟨?_,?_,?_,?_⟩⟩
 .rw[e4];exact⟨T,_,I,jD,aG,⟨_,_,I,⟨I,Vl ww⟩,_,_,I,bR.d.same u5.s,I⟩,by simp⟩
 .rw[fz];exact bR.o
 .rw[bc];have:=bR.h;lia
 .rw[d3];have:=bR.s;lia
theorem LQ(nb:dn mg)(F:dD K mg "_law_form" Bz ["_law_pool_here","_law_deep"] f fd)(jw:aY P w K mg zn 1 "_law_next" ["_law_pool_here"] Ru)(uX:aY P w K mg zn 1 "_law_names" ["_law_cell","_law_many"] Rp)(uZ:aY P w K mg zn 2 "_law_simple" ["_law_pool_here","_law_way"] RW):∀d:Nat,aY P w K mg zn (d+3) "_law_form" ["_law_pool_here","_law_deep"] (Q0 d)
 |0=>aY.none F fun vs H Q E h=>by obtain⟨_,_,_,_,h,_⟩:=h;lia
 |d+1=>XG nb F jw uX uZ (LQ nb F jw uX uZ d)
theorem ti{X:List af}{H:al}:∀(fs:List bH)(ns:List ae){vs:List V}{i:Nat}{y:V},ns.length=fs.length->bx X H (iw fs ns) vs->vs[i]?=J y->∃f n T v,fs[i]?=J f/\ns[i]?=J n/\y=.ref T/\T∉X/\H T=J (.tup [.str n,v])/\b5 X H (e4 f) v
 |[],ns,vs,i,y,aX,h,e=>by
  rw[iw]at h;obtain rfl:vs=[]:=h;cases e
 |f::fs,[],vs,i,y,aX,h,e=>by cases aX
 |f::fs,n::ns,vs,0,y,aX,h,e=>by
  rw[iw]at h;obtain⟨v,r,rfl,⟨T,ws,rfl,cc,e5,⟨_,_,rfl,⟨rfl,_⟩,gH,_,rfl,bR,rfl⟩,_⟩,b1⟩:=h;cases e;exact⟨f,n,T,gH,I,I,I,cc,e5,bR⟩
 |f::fs,n::ns,vs,i+1,y,aX,h,e=>by
  rw[iw]at h;obtain⟨v,r,rfl,q,b1⟩:=h;exact ti fs ns (by simpa using aX) b1 e
theorem vJ:∀{fs:List bH}{i:Nat}{f:bH},h3 fs->fs[i]?=J f->fz f/\bc f<=gV fs
 |g::fs,0,f,h,e=>by
  cases e;rw[h3]at h;rw[gV];exact⟨h.1,by lia⟩
 |g::fs,i+1,f,h,e=>by
  rw[h3]at h;obtain⟨a,b⟩:=vJ h.2 (show fs[i]?=J f from e);rw[gV];exact⟨a,by lia⟩
def Lg(f:bH):1<=d3 f:=by cases f<;>simp only[d3]<;>lia
def jZ(X:List af)(H:al):Prop:=∀x,x∈X->∃o,H x=J o
def jZ.no(h:jZ X H){t:af}(e:H t=ax):t∉X:=fun z=>by
 obtain⟨o,q⟩:=h t z;rw[e]at q;cases q
def jZ.ext(h:jZ X H)(m:dY H H'):jZ X H':=fun x aq=>by
 obtain⟨u,q⟩:=h x aq;exact⟨u,m _ _ q⟩
def jZ.add{D:af}(h:jZ X H)(e:H D=J o):jZ (D::X) H:=fun x aq=>by
 rcases dd.mp aq with rfl|z
 .exact⟨o,e⟩
 .exact h x z
theorem e8.snoc{c:ey}{X:List af}{H:al}{f:bH}{o:af}(aA:b6 c X H f o):∀(fs:List bH){os:List af},e8 c X H fs os->e8 c X H (fs++[f]) (os++[o])
 |[],os,h=>by
  obtain rfl:os=[]:=h;exact⟨o,[],I,aA,I⟩
 |g::fs,os,h=>by
  obtain⟨a,r,rfl,q,b1⟩:=h;exact⟨a,r++[o],I,q,e8.snoc aA fs b1⟩
inductive Rl(c:ey)(d:Nat)(vs:List V)(H:al)(Q:bI)(E:cB):Prop where
 |mk (eN:V) (f:bH) (X:List af) (aX:vs=[eN]) (ai:jZ X H) (ar:b5 X H (e4 f) eN) (bz:fz f) (c0:bc f<=d) (es:∀o H',Ext H H'->b6 c X H' f o->Q (.ref o) H')
def XF{f:af}{fd:jc}{c:ey}(nb:dn mg)(F:dD K mg "_law_made" By ["_law_form_here"] f fd)
  (vc:l8 K (c.b 0)) (wU:mg "Nothing"=J (.ref (c.b 0))) (vd:l8 K (c.b 1)) (wV:mg "Truth"=J (.ref (c.b 1))) (ve:l8 K (c.b 2)) (wW:mg "Whole"=J (.ref (c.b 2))) (vb:l8 K (c.b 3)) (wR:mg "Fraction"=J (.ref (c.b 3)))
  (vl:j1 P w K mg zn 1 "Span" c.s ["self","low","high"] (RX c.s)) (vg:j1 P w K mg zn 2 "Letters" c.l ["self","signs"] (Rh c.l)) (vj:j1 P w K mg zn 4 "Record" (c.t 0) ["self","parts"] (R7 (c.t 0))) (vf:j1 P w K mg zn 4 "Choice" (c.t 1) ["self","cases"] (R7 (c.t 1)))
  (vi:j1 P w K mg zn 1 "Maybe" (c.o 0) ["self","inner"] (Rv (c.o 0))) (vh:j1 P w K mg zn 1 "Many" (c.o 1) ["self","inner"] (Rv (c.o 1))) (vm:j1 P w K mg zn 1 "Turned" (c.o 2) ["self","inner"] (Rv (c.o 2)))
  (qp:aY P w K mg zn (d+7) "_law_made" ["_law_form_here"] (Rl c d)):aY P w K mg zn (d+7+1) "_law_made" ["_law_form_here"] (Rl c (d+1)):=by show_term
 refine F.eg Mb (fun H vs Q E aw h=>?_);obtain⟨eN,g,X,rfl,ef,bR,aP,dq,q⟩:=h
 refine xg _ (aI (bM 1 Mb.bj (bW bY (ab 0) aC))
  (aI (cw (b9 c6 (ab 1) cY) (aJ (bt (BI vc rfl wU))) cx)
  (aI (cw (b9 c6 (ab 1) cY) (aJ (bt (BI vd rfl wV))) cx)
  (aI (cw (b9 c6 (ab 1) cY) (aJ (bt (BI ve rfl wW))) cx)
  (aI (cw (b9 c6 (ab 1) cY) (aJ (bt (BI vb rfl wR))) cx)
  (aI (cw (b9 c6 (ab 1) cY) (aJ (bt (pM vl aw (aj (bW bY (ab 0) aC) (aj (bW bY (ab 0) aC) az))))) cx)
  (aI (cw (b9 c6 (ab 1) cY) (aJ (bt (pM vg aw (aj (bW bY (ab 0) aC) az)))) cx)
  (aI (cw (b9 c6 (ab 1) cY) (aJ (bt (pM vj aw (aj (hO ["_law_name","_law_inner"] [] rfl ⋯ trivial (h4 (bW bY (ab 0) aC)) (oM rfl (jk (d5 (i:=0) (show(["_law_name","_law_inner"]:List ae).Nodup by decide+kernel)) (jk (d5 (i:=1) (show(["_law_name","_law_inner"]:List ae).Nodup by decide+kernel)) oy))) gs (jm (aj (ab 0) (aj (bT qp aw (aj (ab 1) az)) az)))) az)))) cx)
  (aI (cw (b9 c6 (ab 1) cY) (aJ (bt (pM vf aw (aj (hO ["_law_name","_law_inner"] [] rfl ⋯ trivial (h4 (bW bY (ab 0) aC)) (oM rfl (jk (d5 (i:=0) (show(["_law_name","_law_inner"]:List ae).Nodup by decide+kernel)) (jk (d5 (i:=1) (show(["_law_name","_law_inner"]:List ae).Nodup by decide+kernel)) oy))) gs (jm (aj (ab 0) (aj (bT qp aw (aj (ab 1) az)) az)))) az)))) cx)
  (aI (cw (b9 c6 (ab 1) cY) (aJ (bt (pM vi aw (aj (bT qp aw (aj (bW bY (ab 0) aC) az)) az)))) cx)
  (aI (cw (b9 c6 (ab 1) cY) (aJ (bt (pM vh aw (aj (bT qp aw (aj (bW bY (ab 0) aC) az)) az)))) cx)
  (aJ (bt (pM vm aw (aj (bT qp aw (aj (bW bY (ab 0) aC) az)) az))))))))))))))) fun G ew eH go=>?_
 try dsimp only[cN,cO,cP,cQ]at go
 have a0:∀(x:V)(r:List V),ed (x::r) 0=J x:=fun x r=>cT (j:=0) rfl;have a1:∀(x y:V)(r:List V),ed (x::y::r) 1=J y:=fun x y r=>cT (j:=1) rfl;cases g with
 | bare k =>
  rw[e4]at bR;obtain⟨T,_,rfl,jD,e,⟨_,_,rfl,⟨rfl,_⟩,rfl⟩,_⟩:=bR;obtain⟨l2,rW⟩:∃l2,l2=c.b k:=⟨_,rfl⟩;rcases v5 k with rfl|rfl|rfl|rfl
  all_goals
   subst eH;refine go (h6 I e ?_)
   iterate 3 (try refine fu I ⋯ ?_)
   refine kl I fun N=>?_;rw[<-rW];intro x ak ai ar mQ;have E:=Ext.made (C:=l2) (fs:=[]) ai ar mQ;exact⟨_,E.sub,q _ _ E ⟨ef.no ai,ak,by rw[<-rW];exact aG⟩⟩
 |sp lo aF =>
  rw[e4]at bR;rw[fz]at aP;obtain⟨T,_,rfl,jD,e,⟨_,_,rfl,⟨rfl,_⟩,_,_,rfl,rfl,_,_,rfl,rfl,rfl⟩,_⟩:=bR;subst eH;refine go (h6 I e ?_)
  iterate 4 refine fu I ⋯ ?_
  have a2:ed [V.str sL,V.int lo,V.int aF] 2=J (.int aF):=cT (j:=2) rfl;refine kl I fun N=>⟨_,I,x0 e (a1 _ _ _) ⟨_,I,x0 e a2 ?_⟩⟩;intro x ak ai ar mQ;refine⟨x,ak,lo,aF,I,aG,aP.1,I,?_⟩;rw[fW];have E:=Ext.made (C:=c.s) (fs:=Sf lo aF) ai ar mQ;exact⟨_,E.sub,q _ _ E ⟨ef.no ai,ak,aG⟩⟩
 |le cu =>
  rw[e4]at bR;rw[fz]at aP;obtain⟨T,_,rfl,jD,e,⟨_,_,rfl,⟨rfl,_⟩,_,_,rfl,⟨rfl,_⟩,rfl⟩,_⟩:=bR;subst eH;refine go (h6 I e ?_)
  iterate 5 refine fu I ⋯ ?_
  refine kl I fun N=>⟨_,I,x0 e (a1 _ _ _) ?_⟩;intro x ak ai ar mQ;refine⟨x,ak,cu,I,aG,by lia,aP.1,rfl,?_⟩;rw[fW];have E:=Ext.made (C:=c.l) (fs:=PS cu) ai ar mQ;exact⟨_,E.sub,q _ _ E ⟨ef.no ai,ak,aG⟩⟩
 | one k g =>
  rw[e4]at bR;rw[fz]at aP;rw[bc]at dq;obtain⟨T,_,rfl,jD,e,⟨_,_,rfl,⟨rfl,_⟩,gH,_,rfl,hd,rfl⟩,_⟩:=bR;have a1:=a1 (.str (qj k)) gH [];obtain⟨l2,rW⟩:∃l2,l2=c.o k:=⟨_,rfl⟩;rcases rS k with rfl|rfl|rfl
  all_goals
   subst eH;refine go (h6 I e ?_)
   iterate 10 (try refine fu I ⋯ ?_)
   try refine kl I fun N=>?_
   rw[<-rW];refine⟨_,I,x0 e a1 ⟨gH,g,X,I,ef,hd,aP,by lia,fun o H' gD yG=>?_⟩⟩;intro x ak ai ar mQ;refine⟨x,ak,o,I,aG,I,?_⟩;rw[fW];have E:=Ext.made (C:=l2) (fs:=[("inner",V.ref o)]) ai ar mQ;have M:=gD.trans E;exact⟨_,M.sub,q _ _ M ⟨(ef.ext gD.s).no ai,ak,o,by rw[<-rW];exact aG,b6.keep (fun b u _ e=>E.s b u e) g yG⟩⟩
 | two k ns fs =>
  rw[e4]at bR;rw[fz]at aP;rw[bc]at dq;obtain⟨h2,c1,qZ⟩:=aP;obtain⟨T,_,rfl,jD,e,⟨_,_,rfl,⟨rfl,_⟩,_,_,rfl,⟨l,lh,rfl,wx,h1,eB,Pk⟩,rfl⟩,_⟩:=bR;have jR:lh.length=fs.length:=by rw[cj.len _ (bx.at _ eB),vL]
  have a1:=a1 (.str (uJ k)) (.ref l) [];obtain⟨l2,rW⟩:∃l2,l2=c.t k:=⟨_,rfl⟩;rcases tC k with rfl|rfl
  all_goals
   subst eH;refine go (h6 I e ?_)
   iterate 7 (try refine fu I ⋯ ?_)
   refine kl I fun N=>?_;rw[<-rW];have adV:=qH h2;refine .inl ⟨_,I,x0 e a1 ⟨l,I,⟨_,ba h1⟩,fun D c2=>?_⟩⟩;have H5:D∉X:=ef.no c2;refine qF (K:=K) (a:=l) (xs:=lh) (fun i ay ao=>Ext H ao/\∃aQ:List (af×ae×af),ay=aQ.map (fun x=>V.ref x.1)/\hJ aQ=ns.take i/\(∀x,x∈aQ->x.1∉D::X/\ao x.1=J (.tup [.str x.2.1,.ref x.2.2]))/\e8 c (D::X) ao (fs.take i) (i3 aQ)) (fun U=>∃di dg,U=[di,dg]) (by lia) ⟨_,_,I⟩ ?_ ?_ ?_ ?_
   ·rintro i ay ao ⟨M2,_⟩;exact ba (M2.s _ _ h1)
   .exact⟨Ext.lst c2,[],I,I,(fun x aq=>nomatch aq),I⟩
   ·rintro i x aq ay bE H1 ⟨di,dg,rfl⟩ ⟨gD,aQ,rfl,o5,wy,tF⟩ ec jr R bN;obtain⟨g,nm,fU,gH,bb,lb,rfl,wj,oR,hd⟩:=ti fs ns c1 eB aq;obtain⟨q8,r7⟩:=vJ qZ bb;have r1:jZ (D::X) H1:=(ef.ext gD.s).add ec;have HN:fs.take (i+1)=fs.take i++[g]:=by rw[iG,bb];rfl
    refine⟨_,_,I,cC (gD.s _ _ oR),I,_,_,I,_,_,I,I,?_⟩;refine⟨_,I,_,I,gH,g,D::X,I,r1,b5.same gD.s (b5.add c2 _ hd),q8,by lia,fun o bp h9 adg=>⟨jA,fun km r0=>?_⟩⟩;have rA:=Ext.tup (xs:=[V.str nm,.ref o]) r0;have ado:=r1.ext h9.s;have O1:km∉D::X:=ado.no r0;have kt:bp D=J (.lst (aQ.map fun x=>V.ref x.1)):=h9.s _ _ ec;have yF:=rA.s _ _ kt;have adm:km≠D:=fun z=>O1 (by rw[z];exact eA ..)
    have eI:∀b u,b∉D::X->bp b=J u->upd (upd bp km (.tup [.str nm,.ref o])) D (.lst ((aQ.map fun x=>V.ref x.1)++[V.ref km])) b=J u:=fun b u nb e=>by
     rw[bC (fun z=>nb (by rw[z];exact eA ..))];exact rA.s _ _ e
    refine bN _ _ _ ⟨_,_,I⟩ yF ⟨⟨fun b u e=>?_,fun cl=>vw yF (rA.c (h9.c (gD.c cl)))⟩,aQ++[(km,nm,o)],by rw[fP];rfl,?_,fun y aW=>?_,?_⟩
    ·rw[bC (fe e c2)];exact rA.s _ _ (h9.s b u (gD.s b u e))
    ·unfold hJ at o5 ⊢;rw[fP,o5,iG,lb];rfl
    ·rcases List.mem_append.mp aW with z|z
     ·obtain⟨fE,eK⟩:=wy y z;exact⟨fE,eI _ _ fE (h9.s _ _ eK)⟩
     ·rw[ft.mp z];exact⟨O1,by show upd _ D _ km=_;rw[bC adm,aG]⟩
    ·rw[HN,show i3 (aQ++[(km,nm,o)])=i3 aQ++[o] by unfold i3;rw[fP];rfl];exact e8.snoc (b6.keep eI _ adg) _ (e8.keep eI _ (e8.keep (fun b u _ e=>h9.s b u e) _ tF))
   ·rintro ay H' jr jQ ⟨KS,aQ,rfl,o5,wy,tF⟩;rw[jR,UV (by lia)]at o5;rw[jR,UV (cp _)]at tF;rw[cA]at jr;have cV:Parts H' D aQ:=⟨jQ,fun x aq=>(wy x aq).2,by lia,fun x aq=>dF (adV.2 _ (by rw[<-o5];exact List.mem_map.mpr ⟨x,aq,I⟩)) (by decide)⟩;intro y ak aW CR mY;have SS:=Ext.made (C:=l2) (fs:=[]) aW CR mY;refine⟨y,ak,D,aQ,I,aG,cV.same SS.s,by rw[o5];exact h2,fun c9 dz ai ar mQ=>⟨I,?_⟩⟩;have e0:c9≠y:=fun z=>by rw[z,aG]at ai;cases ai
    have dS:dz≠y:=fun z=>by rw[z,aG]at ar;cases ar
    rw[BL dS,BL e0,fW];have EC:=Ext.made (C:=l2) (fs:=DW c9 dz) aW CR mY;have g1:upd (upd H' ak (.own y)) y (.ins l2 ak (DW c9 dz)) c9=ax:=by rw[bC e0]at ai ⊢;exact ai
    have ED:=Ext.lst (xs:=(hJ aQ).map V.str) g1;have g2:upd (upd (upd H' ak (.own y)) y (.ins l2 ak (DW c9 dz))) c9 (.lst ((hJ aQ).map V.str)) dz=ax:=by rw[bC (ei mQ)];rw[bC dS]at ar ⊢;exact ar
    have EE:=Ext.lst (xs:=(i3 aQ).map V.ref) g2;have E:=(EC.trans ED).trans EE;have M:=KS.trans E;have wk:=ef.ext KS.s;refine⟨_,M.sub,q _ _ M ⟨wk.no aW,ak,c9,dz,i3 aQ,by rw[<-rW];exact(ED.trans EE).s _ _ aG,wk.no (EC.s.free g1),wk.no ((EC.trans ED).s.free g2),by rw[<-o5];exact EE.s _ _ aG,aG,e8.keep (fun b u _ e=>E.s b u e) _ (e8.weak (fun x aq=>dw _ aq) _ tF)⟩⟩
theorem LP{f:af}{fd:jc}{c:ey}(nb:dn mg)(F:dD K mg "_law_made" By ["_law_form_here"] f fd)
  (vc:l8 K (c.b 0)) (wU:mg "Nothing"=J (.ref (c.b 0))) (vd:l8 K (c.b 1)) (wV:mg "Truth"=J (.ref (c.b 1))) (ve:l8 K (c.b 2)) (wW:mg "Whole"=J (.ref (c.b 2))) (vb:l8 K (c.b 3)) (wR:mg "Fraction"=J (.ref (c.b 3)))
  (vl:j1 P w K mg zn 1 "Span" c.s ["self","low","high"] (RX c.s)) (vg:j1 P w K mg zn 2 "Letters" c.l ["self","signs"] (Rh c.l)) (vj:j1 P w K mg zn 4 "Record" (c.t 0) ["self","parts"] (R7 (c.t 0))) (vf:j1 P w K mg zn 4 "Choice" (c.t 1) ["self","cases"] (R7 (c.t 1)))
  (vi:j1 P w K mg zn 1 "Maybe" (c.o 0) ["self","inner"] (Rv (c.o 0))) (vh:j1 P w K mg zn 1 "Many" (c.o 1) ["self","inner"] (Rv (c.o 1))) (vm:j1 P w K mg zn 1 "Turned" (c.o 2) ["self","inner"] (Rv (c.o 2))):∀d,aY P w K mg zn (d+7) "_law_made" ["_law_form_here"] (Rl c d)
 |0=>aY.none F fun vs H Q E z=>by obtain⟨_,g,_,_,_,_,_,h,_⟩:=z;have:=vR g;lia
 |d+1=>XF nb F vc wU vd wV ve wW vb wR vl vg vj vf vi vh vm (LP nb F vc wU vd wV ve wW vb wR vl vg vj vf vi vh vm d)
inductive Q3(vs:List V)(H:al)(Q:bI)(E:cB):Prop where
 |mk (a b:Int) (aX:vs=[.int a,.int b]) (ai:∀(p q:Int)(t:af)(H':al),Ext H H'->H t=ax->H' t=J (.tup [.int p,.int q])->cy (.tup [.int p,.int q])=ah->(a=0/\b=0->p=0/\q=1)->Q (.ref t) H')
def M3:3<=cg:=by decide
def XU(nb:dn mg)(F:dD K mg "_law_fraction" Fp ["_law_one","_law_other"] f fd):aY P w K mg zn 1 "_law_fraction" ["_law_one","_law_other"] Q3:=by show_term
 refine F.eg rK (fun H vs Q E aw h=>?_);obtain⟨a,b,rfl,q⟩:=h
 refine⟨_,(aI (bM 2 rK.bj (aO lW (aO dX (aO vI (ab 0) aC) (bW bY (hB (aj aC (aj aC (aj (aO yj aC aC) az)))) (aO dX (ab 0) aC))) (bW bY (hB (aj aC (aj (k7 k1 aC) az))) (aO dX (ab 1) aC))))
  (aI (bM 3 rK.bj (aO el aC (aO dX (aO vI (ab 1) aC) (bW bY (hB (aj aC (aj aC (aj (aO yj aC aC) az)))) (aO dX (aO vI (ab 1) aC) aC)))))
  (aI (bM 4 rK.bj (b8 Va rfl nb.abz WZ (aj (ab 2) az)))
  (aI (bM 5 rK.bj (ab 3))
  (aI (qC iB.never (b9 kz (ab 4) aC)
   (aI (bM 6 rK.bj (aO dX (ab 5) (ab 4)))
   (aI (bM 5 rK.bj (ab 4))
   (aJ (bM 4 rK.bj (ab 6))))))
  (aJ (bt (jm (aj (aO vI (ab 2) (ab 5)) (aj (aO vI (ab 3) (ab 5)) az)))))))))),?_⟩
 ac_rfl;have w0:Af 10 38:=by refine⟨?_,?_,?_⟩<;>decide
 obtain⟨M,qS,adk⟩:=vM V.int [10,1000,10^Int.toNat 38] a 3 rfl (by show 0<3;decide)
 have OV:0<M/\M<=10^38:=by
  have:∀y∈([10,1000,10^Int.toNat 38]:List Int),0<y/\y<=10^38:=⋯;exact this M qS
 obtain⟨S,df,CP⟩:=vM V.int [1,-1] b 2 rfl (by show 0<2;decide);have OY:S=1\/S = -1:=by simpa using df
 obtain⟨N,bP,Ia⟩:=vM V.int [6,1000,10^Int.toNat 38] (b/2) 3 rfl (by show 0<3;decide)
 have OW:0<N/\N<=10^38:=by
  have:∀y∈([6,1000,10^Int.toNat 38]:List Int),0<y/\y<=10^38:=⋯;exact this N bP
 have eZ:Ae (a/3%M) S:=by rcases OY with rfl|rfl<;>exact .inr ⟨by decide,by decide⟩
 have m0:=hY (a/3) (show M≠0 by lia);have fy:=ib (a/3) OV.1;have jt:=hY (b/6) (show N≠0 by lia);have e0:=ib (b/6) OW.1;refine⟨_,I,_,_,I,I,⟨by decide,.inl (by decide)⟩,_,_,rfl,rfl,w0,M3,fun g1 yT=>⟨_,rfl,_,_,rfl,rfl,(by show(0:Int)<3;decide),xz aG adk ⟨_,_,rfl,rfl,OV.1,_,rfl,jA,fun g2 r7=>⟨_,rfl,_,_,rfl,rfl,(by show(0:Int)<2;decide),xz aG CP (.inl ⟨_,_,rfl,rfl,eZ,?_⟩)⟩⟩⟩⟩;have iZ:=(Ext.lst (xs:=[V.int 10,.int 1000,.int (10^Int.toNat 38)]) yT).trans (Ext.lst (xs:=[V.int 1,.int (-1)]) r7);have cc:(a/3%M*S).natAbs<=10^38:=by rcases OY with rfl|rfl<;>lia
 have O0:a=0->a/3%M*S=0:=by rintro rfl;rw[Int.zero_ediv,Int.zero_emod,Int.zero_mul]
 dsimp only;generalize a/3%M*S=T at cc O0 ⊢;refine⟨_,I,_,_,I,I,⟨by decide,.inl (by decide)⟩,_,_,rfl,rfl,w0,M3,fun g3 adT=>⟨_,rfl,_,_,rfl,rfl,⟨by decide,.inl (by decide)⟩,_,_,rfl,rfl,(by show(0:Int)<3;decide),xz aG Ia ⟨_,_,rfl,rfl,OW.1,.inl ⟨_,_,rfl,rfl,?_⟩⟩⟩⟩;have lI:=iZ.trans (Ext.lst (xs:=[V.int 6,.int 1000,.int (10^Int.toNat 38)]) adT);have mh:0<1+b/6%N/\1+b/6%N<=10^38:=by lia
 have OL:b=0->1+b/6%N=1:=by rintro rfl;rw[Int.zero_ediv,Int.zero_emod];rfl
 dsimp only;generalize 1+b/6%N=B at mh OL ⊢;generalize upd (upd (upd H g1 _) g2 _) g3 _=bp at lI ⊢;refine⟨_,I,_,I,_,I,?_⟩;obtain⟨B,rfl⟩:∃n:Nat,B=n:=⟨B.toNat,by lia⟩;refine⟨fun m U ao=>bp=ao/\∃(y:Nat)(D0:Option V),U=[J (.int a),J (.int b),J (.int T),J (.int (B:Int)),J (.int (m:Nat)),J (.int (y:Nat)),D0]/\Nat.gcd y m=Nat.gcd B T.natAbs/\0<y,⟨T.natAbs,I,B,ax,?_,I,by lia⟩,?_⟩
 .rw[show(if T<0 then -T else T)=((T.natAbs:Nat):Int) by split<;>lia];rfl
 rintro m U ao ⟨rfl,y,D0,rfl,bb,aW⟩;refine⟨_,I,_,_,I,I,_,I,?_⟩;refine fl (fun c=>?_) (fun c=>?_)
 ·have hm:0<m:=by lia
  refine⟨fun b2 H'=>∃bU,bU<m/\(bp=H'/\∃(y:Nat)(D0:Option V),b2=[J (.int a),J (.int b),J (.int T),J (.int (B:Int)),J (.int (bU:Nat)),J (.int (y:Nat)),D0]/\Nat.gcd y bU=Nat.gcd B T.natAbs/\0<y),fun _ _ h=>h,?_⟩;refine⟨_,I,_,I,_,_,I,I,(by lia),_,I,_,I,y%m,Nat.mod_lt _ hm,I,m,J (.int ((y%m:Nat):Int)),?_,?_,hm⟩
  ·dsimp only;rw[<-Int.natCast_emod];rfl
  .rw[Nat.gcd_comm,<-Nat.gcd_rec,Nat.gcd_comm];exact bb
 ·have hm:m=0:=by lia
  subst hm;rw[Nat.gcd_zero_right]at bb;have alK:y<=B:=by rw[bb];exact Nat.gcd_le_left _ (by lia)
  have akY:(y:Int)∣T:=by rw[bb];exact Int.ofNat_dvd_left.mpr (Nat.gcd_dvd_right _ _)
  have abN:(y:Int)∣(B:Int):=by rw[bb];exact Int.natCast_dvd_natCast.mpr (Nat.gcd_dvd_left _ _)
  have r3:de.Int.intBits (y:Int)<=9000:=by
   rw[vP];have ac8:(10:Nat)^38<2^200:=⋯;exact dF (jl (show y<2^200 by lia)) (by decide)
  refine⟨_,I,_,I,_,_,I,I,⟨by lia,.inl r3⟩,_,rfl,_,rfl,_,_,rfl,rfl,⟨by lia,.inl r3⟩,jA,fun t bc=>?_⟩;have kM:=lI.trans (Ext.tup (xs:=[V.int (T/(y:Int)),.int ((B:Int)/(y:Int))]) bc);refine⟨_,kM.sub,q _ _ t _ kM (lI.s.free bc) aG (eT ⟨?_,?_,?_,?_⟩) (fun z=>?_)⟩
  .exact Int.ediv_pos_of_pos_of_dvd (by lia) (by lia) abN
  ·have:Int.gcd T (B:Int)=y:=by rw[bb,Nat.gcd_comm];rfl
   rw[<-this];exact Int.gcd_ediv_gcd_ediv_gcd (by rw[this];exact aW)
  ·have:=Int.natAbs_ediv_le_natAbs T (y:Int);lia
  ·have:=Int.ediv_le_self (a:=(B:Int)) (y:Int) (by lia);lia
  ·have ai:=O0 z.1;have ar:=OL z.2;have bz:y=1:=by lia
   rw[ai,ar,bz];exact⟨I,I⟩
def ae6{b:Bool}{B:Prop}(ai:b=ah->A)(ar:b=aE->B):if b=ah then A else B:=by
 cases b
 .exact da (ar I)
 .exact eP (ai I)
def WQ{w a b:ae}(ai:w≠a)(ar:w≠b):wG (.str w) [.str a,.str b]=aE:=by
 have aL:mO (.str a) (.str w)=aE:=by simp[mO,ei ai]
 have aS:mO (.str b) (.str w)=aE:=by simp[mO,ei ar]
 unfold wG;rw[List.any_cons,List.any_cons,aL,aS];rfl
def Cb:(∀k:Fin 3,qj k≠ae.ofString "truth"/\qj k≠ae.ofString "nothing")/\(∀k:Fin 2,uJ k≠ae.ofString "truth"/\uJ k≠ae.ofString "nothing")/\(sL≠ae.ofString "truth"/\sL≠ae.ofString "nothing")/\uG≠ae.ofString "truth"/\uG≠ae.ofString "nothing":=⋯
theorem Wa:∀f:bH,∃w r,e4 f=.tup (.str w::r)/\(r=[]/\d3 f=1\/r≠[]/\w≠ae.ofString "truth"/\w≠ae.ofString "nothing")
 |.bare k=>⟨_,_,by rw[e4],.inl ⟨rfl,by rw[d3]⟩⟩
 |.sp a b=>⟨_,_,by rw[e4],.inr ⟨lG _ _,Cb.2.2.1⟩⟩
 |.le s=>⟨_,_,by rw[e4],.inr ⟨lG _ _,Cb.2.2.2⟩⟩
 |.one k f=>⟨_,_,by rw[e4],.inr ⟨lG _ _,Cb.1 k⟩⟩
 |.two k ns fs=>⟨_,_,by rw[e4],.inr ⟨lG _ _,Cb.2.1 k⟩⟩
def G3{n:Int}(h:ih n):(gY n).length<=270:=by
 obtain⟨ai,ar⟩:=h
 have key:∀m:Nat,m+1<2^255->(cnt m).length<=269:=fun m hm=>by
  have:=xS hm;have:=jl hm;lia
 unfold gY;split
 ·rw[eb,cA];have:=key (-1-n).toNat (by lia);lia
 ·rw[eb];have:=key n.toNat (by lia);lia
theorem Ni:∀(s:List Int),(∀x∈s,h7 (x-1))->(more s).length<=271*s.length+1
 |[],_=>by rw[more];exact cp _
 |b::r,h=>by
  obtain⟨ai,ar⟩:=h b (eA ..);have hm:(b-1).toNat+1<2^255:=by lia
  have a1:=xS hm;have a2:=jl hm;have:=Ni r fun x aq=>h x (dw _ aq);rw[more,eb,cA,dP,eb];lia
def abg{d:D}(h:cy d=ah):(bL d).length<=100000:=by
 obtain⟨p,q,rfl,ai,ar,bz,c0,es,iN⟩:=xQ h;show(jP (fx p q)).length<=_;rw[ni ai]at c0 es iN ⊢;rw[jP,dP];have a1:=G3 (es _ (eA ..));have a2:=Ni _ iN;have a3:((p/q::fx q (p%q)).drop 1).length=(fx q (p%q)).length:=rfl;rw[eb]at c0;rw[a3]at a2;have a4:(more ((p/q::fx q (p%q)).drop 1)).length=(more (fx q (p%q))).length:=rfl;lia
def abf:(bL (.tup [.int 0,.int 1])).length<=300:=by
 show(jP (fx 0 1)).length<=_;rw[ni (by decide)];show(jP (0::fx 1 0)).length<=_;rw[rO];decide+kernel
def VZ{s t:ae}(h:s.length<=60):(zm s (.str t)).length<=7*t.length+1:=by
 have ag:aD (s.length-1)<=6:=jl (w:=6) (by lia)
 have key:∀l:List Nat,((l.map fun c=>ah::dB (s.cps.toList.idxOf c) (aD (s.length-1))).flatten).length<=7*l.length:=by
  intro l
  induction l with
  |nil=>exact cp _
  |cons c l bK =>
   rw[fB,lH,dP,eb,ji,eb];lia
 show(_++[aE]).length<=_;rw[dP];have:=key t.cps.toList;rw[jh]at this;exact Nat.succ_le_succ this
theorem My{fw:D->List Bool}{f:bH}{d:D}:∀(fs:List bH)(ds:List D),ds.length=fs.length->gk fw (fs++[f]) (ds++[d])=gk fw fs ds++aT fw f d
 |[],[],_=>by
  show gk fw (f::[]) (d::[])=gk fw [] []++_;rw[gk,gk,gk];show aT fw f d++[]=[]++_;rw[List.append_nil,List.nil_append]
 |[],_::_,h=>by cases h
 |_::_,[],h=>by cases h
 |g::fs,e::ds,h=>by
  have:=My fs ds (by simpa using h) (fw:=fw) (f:=f) (d:=d);show gk fw (g::(fs++[f])) (e::(ds++[d]))=gk fw (g::fs) (e::ds)++_;rw[gk,gk];show aT fw g e++gk fw (fs++[f]) (ds++[d])=aT fw g e++gk fw fs ds++_;rw[this,gL]
def mE(m bU L s:Nat):Prop:=bU<=m/\(L<=150000*(m-bU)\/m=0/\L<=300*s)
def xI(m fy:Nat)(c:Int):Prop:=m=fy+1\/m=0/\fy=0/\c=0
def mE.leaf{L s:Nat}{c:Int}(hc:xI m fy c)(hs:1<=s)(gj:L<=150000)(bV:c=0->L<=300):mE m fy L s:=by
 rcases hc with z|⟨di,dg,gS⟩
 .exact⟨by lia,.inl (by lia)⟩
 ·have:=bV gS;exact⟨by lia,.inr ⟨di,by lia⟩⟩
def mE.wrap{L AD s br:Nat}{c:Int}(hc:xI m fy c)(h:mE fy bU L s)(hs:s+1<=br)(ka:br<=150)(gj:AD<=L+300):mE m bU AD br:=by
 obtain⟨ai,ar⟩:=h;rcases hc with z|⟨di,dg,gS⟩
 .exact⟨by lia,.inl (by lia)⟩
 .exact⟨by lia,.inr ⟨di,by lia⟩⟩
def qI(X:Ext H H')(h:ox p H):pl H' p=pl H p:=by
 obtain⟨ns,e,_⟩:=h;rw[vT e,vT (X.s _ _ e)]
def vU{D:af}(h:D≠p):pl (upd H D o) p=pl H p:=by
 unfold pl;rw[bC (ei h)]
def qg{R:fb}{D:Ends}(aq:U[i]?=J (J (.ref p)))(cV:ox p H)(h:∀c H1,ez p H H1->xI (pl H p) (pl H1 p) c->R D (U.set j (J (.int c))) H1):kY (w9 (J3 Rt [] jx (Sn (pw i) DT)) (wa j)) R D U H:=⟨_,aq,p,rfl,cV,fun c ns qa hc=>h c _ (ez.pop cV qa) (by
 rw[vT aG,cA];rcases hc with z|⟨di,dg,gS⟩
 .exact .inl z
 .exact .inr ⟨di,by rw[dg];rfl,gS⟩)⟩
def NC{D:af}(n:Nat)(xs:Nat->V)(Inv:Nat->List V->al->Prop)(S:St->Prop)(bV:n<=100000)(aX:S ew)
  (yU:∀i H,i<n->bF.go i H) (IX:∀H,bF.stop n H) (aW:∀i H x H',i<n->bF.pD i H x H'->H'=H/\x=xs i) (ai:Inv 0 [] (upd H D (.lst [])))
  (bc:∀i,i<n->∀ay bE H1,S bE->Inv i ay H1->H1 D=J (.lst ay)->ay.length=i->∀R:St->V->al->Prop,(∀bg y bp,S bg->bp D=J (.lst ay)->Inv (i+1) (ay++[y]) (upd bp D (.lst (ay++[y])))->R bg y bp)->g (xs i) bE H1 fun bg ao=>cJ bg ao fun y bp=>R bg y bp)
  (bo:∀(ay:List V)(H':al),ay.length=n->H' D=J (.lst ay)->Inv n ay H'->Q (.ref D) H') :
  k0 bF g n4 cJ Q ew H D:=by
 refine⟨fun i m bE ao=>i<=n/\m=n-i/\S bE/\∃ay:List V,ay.length=i/\ao D=J (.lst ay)/\Inv i ay ao,⟨n,UF _,I,aX,[],I,aG,ai⟩,?_⟩;rintro i m bE ao ⟨aF,rfl,ar,ay,jr,iO,cV⟩;rcases g5 i n with z|z
 ·refine .inr ⟨yU i _ z,fun x bp y=>?_⟩;obtain⟨rfl,rfl⟩:=aW i _ x bp z y;refine bc i z ay bE _ ar cV iO jr (fun bg y dm=>∃zs bU,dm D=J (.lst zs)/\zs.length<cg/\bU<n-i/\(i+1<=n/\bU=n-(i+1)/\S bg/\∃ws:List V,ws.length=i+1/\upd dm D (.lst (zs++[y])) D=J (.lst ws)/\Inv (i+1) ws (upd dm D (.lst (zs++[y]))))) fun bg y dm eS p5 yI=>?_;exact⟨ay,n-(i+1),p5,fK (show ay.length<100000 by lia) (by decide),by lia,by lia,rfl,eS,ay++[y],by rw[dP,jr];rfl,aG,yI⟩
 ·have e:i=n:=by lia
  subst e;exact .inl ⟨IX _,bo ay ao jr iO cV⟩
def jZ.grow(h:jZ X H)(g:ez p H H'):jZ X H':=fun x aq=>by
 by_cases z:x=p
 ·subst z;obtain⟨ns,e,_⟩:=g.l;exact⟨_,e⟩
 ·obtain⟨l,e⟩:=h x aq;exact⟨l,g.k _ _ z e⟩
theorem MN{bD:D->Bool}{f:bH}{d:D}(h:bJ bD f d=ah):∀(fs:List bH)(ds:List D),eL bD fs ds=ah->eL bD (fs++[f]) (ds++[d])=ah
 |[],[],_=>by show eL bD [f] [d]=ah;rw[eL,eL];simp[h]
 |[],e::ds,h=>by rw[eL]at h;cases h
 |g::fs,[],h=>by rw[eL]at h;cases h
 |g::fs,e::ds,hs=>by
  rw[eL]at hs;show eL bD (g::(fs++[f])) (e::(ds++[d]))=ah;rw[eL];have hs:(bJ bD g e&&eL bD fs ds)=ah:=hs;show(bJ bD g e&&eL bD (fs++[f]) (ds++[d]))=ah;rw[g4]at hs ⊢;exact⟨hs.1,MN h fs ds hs.2⟩
theorem MR{d:D}{n:Nat}(h:dK d<=n):∀{ds:List D},er ds<=n->er (ds++[d])<=n
 |[],_=>by show er [d]<=n;rw[er,er];lia
 |g::fs,hs=>by
  rw[er]at hs;show er (g::(fs++[d]))<=n;rw[er];have:=MR h (ds:=fs) (by lia);lia
theorem G4:∀{fs:List bH}{i:Nat}{g:bH},fs[i]?=J g->d3 g<=kD fs
 |[],i,g,h=>by cases h
 |f::fs,0,g,h=>by cases h;rw[kD];lia
 |f::fs,i+1,g,h=>by have:=G4 (fs:=fs) (i:=i) h;rw[kD];lia
inductive R9(d:Nat)(vs:List V)(H:al)(Q:bI)(E:cB):Prop where
 |mk (p:af) (eN:V) (f:bH) (X:List af) (aX:vs=[.ref p,eN]) (ai:p∈X) (ar:ox p H) (bz:jZ X H) (c0:b5 X H (e4 f) eN) (es:fz f) (iN:bc f<=d) (mR:d3 f<=150) (mS:∀v jn H',ez p H H'->b5 X H' jn v->bJ cy f jn=ah->dK jn<=bc f+1->mE (pl H p) (pl H' p) (aT bL f jn).length (d3 f)->Q v H')
theorem Ny{n:Nat}:∀(ds:List D),(∀d,d∈ds->dK d<=n)->er ds<=n
 |[],_=>by rw[er];lia
 |d::ds,h=>by
  rw[er];have:=h d (eA ..);have:=Ny ds fun e he=>h e (dw _ he);lia
def Vf(t:ae)(c:Nat):(t++(⟨#[c]⟩:ae)).cps.toList=t.cps.toList++[c]:=by rw[vQ]
def Xu(nb:dn mg)(F:dD K mg "_law_value" Bo ["_law_pool_here","_law_form_here"] f fd)(jw:aY P w K mg zn 1 "_law_next" ["_law_pool_here"] Rt)(sS:aY P w K mg zn 2 "_law_signed" ["_law_cell"] RT)(uW:aY P w K mg zn 1 "_law_fraction" ["_law_one","_law_other"] Q3)
  (qq:aY P w K mg zn (d+3) "_law_value" ["_law_pool_here","_law_form_here"] (R9 d)):aY P w K mg zn (d+3+1) "_law_value" ["_law_pool_here","_law_form_here"] (R9 (d+1)):=by show_term
 refine F.eg nw (fun H vs Q E aw h=>?_);obtain⟨p,eN,g,X,rfl,eR,cV,ef,bR,aP,dq,g9,q⟩:=h
 refine xg _ (aI (bM 2 nw.bj (bW bY (ab 1) aC))
  (aI (cw (b9 c6 (ab 2) cY) (aJ (bt pV)) cx)
  (aI (bM 3 nw.bj (bT jw aw (aj (ab 0) az)))
  (aI (cw (b9 c6 (ab 2) cY) (aJ (bt (fM c6 (aO dX (ab 3) aC) aC))) cx)
  (aI (cw (gK.pt (oL (b9 c6 (ab 2) cY) (pS (b9 kz (b8 dx rfl nb.dr dv (aj (ab 0) az)) aC)))) (aJ (bt (bT sS aw (aj (ab 3) az)))) cx)
  (aI (cw (b9 c6 (ab 2) cY) (aJ (bt (bT sS aw (aj (aO dX (ab 3) aC) az)))) cx)
  (aI (cw (b9 c6 (ab 2) cY) (aJ (bt (aO el (bW bY (ab 1) aC) (aO dX (ab 3) (aO el (aO gc (bW bY (ab 1) aC) (bW bY (ab 1) aC)) aC))))) cx)
  (aI (cw (b9 c6 (ab 2) cY) (aJ (bt (bT uW aw (aj (ab 3) (aj (bT jw aw (aj (ab 0) az)) az))))) cx)
  (aI (cw (b9 c6 (ab 2) cY) (B0 (bM 4 nw.bj (bW bY (hB (aj (aO dX (ab 3) aC) (aj aC az))) (oE rD rfl nb.pa oN (aj (il (fM c6 (aO dX (ab 3) aC) aC) (il (fM iV (b8 dx rfl nb.dr dv (aj (bW bY (ab 1) aC) az)) aC) (jB (fM kz (b8 dx rfl nb.dr dv (aj (ab 0) az)) aC)))) az))))
   (aI (bM 5 nw.bj cY)
   (aI (ma iB.never rfl (mL rfl nb.kV (aj (ab 4) az)) (d5 (i:=6) nw.bj rfl (by first|exact Or.inl I|exact Or.inr I))
    (aI (bM 5 nw.bj (aO el (ab 5) (bW bY (bW bY (ab 1) aC) (aO dX (aO hn (ab 3) aC) (b8 dx rfl nb.dr dv (aj (bW bY (ab 1) aC) az))))))
    (aJ (bM 3 nw.bj (aO hn (ab 3) (b8 dx rfl nb.dr dv (aj (bW bY (ab 1) aC) az)))))))
   (aJ (bt (ab 5)))))) cx)
  (aI (cw (gK.pt (oL (b9 c6 (ab 2) cY) (pS (b9 c6 (aO dX (ab 3) aC) aC)))) (aJ (bt (jm az))) cx)
  (aI (cw (b9 c6 (ab 2) cY) (aJ (bt (jm (aj (bT qq aw (aj (ab 0) (aj (bW bY (ab 1) aC) az))) az)))) cx)
  (aI (cw (b9 c6 (ab 2) cY) (B0 (bM 4 nw.bj (aO dX (ab 3) (bW bY (hB (aj aC (aj aC az))) (oE rD rfl nb.pa oN (aj (fM kz (b8 dx rfl nb.dr dv (aj (ab 0) az)) aC) az)))))
   (B0 (cw (x8 GC (bW bY (bW bY (ab 1) aC) aC) (hB (aj cY (aj cY az))) (by with_unfolding_all rfl)) (aJ (bM 4 nw.bj (aO dX (aO hn (ab 3) aC) aC))) cx)
   (aJ (bt (hO ["_law_k"] [(0,"_law_pool_here"),(1,"_law_form_here")] rfl ⋯ ⟨rfl,.inl rfl,rfl,.inl rfl,trivial⟩ (mL rfl nb.kV (aj (ab 4) az)) (d5 (i:=0) (show(["_law_k","_law_pool_here","_law_form_here"]:List ae).Nodup by decide+kernel)) gs (bT qq aw (aj (ab 1) (aj (bW bY (ab 2) aC) az)))))))) cx)
  (aI (cw (b9 c6 (ab 2) cY) (aJ (bt (oE FF rfl nb.pz oG (aj (hO ["_law_name","_law_inner"] [(0,"_law_pool_here")] rfl ⋯ ⟨rfl,.inl rfl,trivial⟩ (h4 (bW bY (ab 1) aC)) (oM rfl (jk (d5 (i:=0) (show(["_law_name","_law_inner","_law_pool_here"]:List ae).Nodup by decide+kernel)) (jk (d5 (i:=1) (show(["_law_name","_law_inner","_law_pool_here"]:List ae).Nodup by decide+kernel)) oy))) gs (bT qq aw (aj (ab 2) (aj (ab 1) az)))) az)))) cx)
  (aI (cw (b9 c6 (ab 2) cY) (aI (Ws (bW bY (bW bY (ab 1) aC) (aO dX (ab 3) (b8 dx rfl nb.dr dv (aj (bW bY (ab 1) aC) az)))) (oM rfl (jk (d5 (i:=7) nw.bj rfl (by first|exact Or.inl I|exact Or.inr I)) (jk (d5 (i:=8) nw.bj rfl (by first|exact Or.inl I|exact Or.inr I)) oy))))
   (aJ (bt (jm (aj (ab 7) (aj (bT qq aw (aj (ab 0) (aj (ab 8) az))) az)))))) cx)
  (aJ (bt (bT qq aw (aj (ab 0) (aj (bW bY (ab 1) aC) az))))))))))))))))))) fun G ew eH go=>?_
 try dsimp only[cN,cO,cP,cQ]at go
 have a0:∀(x:V)(r:List V),ed (x::r) 0=J x:=fun x r=>cT (j:=0) rfl;have a1:∀(x y:V)(r:List V),ed (x::y::r) 1=J y:=fun x y r=>cT (j:=1) rfl;have mj:∀{T:af},T∉X->T≠p:=fun h z=>h (by rw[z];exact eR);cases g with
 | bare k =>
  rw[e4]at bR;rw[bc]at q;obtain⟨T,_,rfl,jD,e,⟨_,_,rfl,⟨rfl,_⟩,rfl⟩,_⟩:=bR;rcases v5 k with rfl|rfl|rfl|rfl
  ·skip;subst eH;refine go (h6 I e ?_);refine kl I fun N=>⟨_,(ez.refl cV).sub,q _ .bf _ (ez.refl cV) I (by rw[bJ];rfl) (by rw[dK];lia) (by rw[aT];exact⟨cp _,.inl (UF _)⟩)⟩
  ·skip;subst eH;refine go (h6 I e ?_);refine fu I ⋯ ?_;refine qg I cV fun cl H1 cF hc=>?_;refine kl I fun N=>⟨_,I,_,_,I,I,(by show(0:Int)<2;decide),I,_,cF.sub,q _ (.aK _) _ cF I (by rw[bJ];rfl) (by rw[dK];lia) (by rw[aT,d3];exact mE.leaf hc (cp _) (show 1<=150000 by decide) (fun _=>show 1<=300 by decide))⟩
  ·skip;subst eH;refine go (h6 I e ?_);refine fu I ⋯ ?_;refine qg I cV fun cl H1 cF hc=>?_;refine fu I ⋯ ?_;obtain⟨fy,kR,CV⟩:=cF.l;have dp:∀n:Int,ih n->kH H H1 (Q (.int n)):=fun n aV=>⟨_,cF.sub,q _ (.int n) _ cF rfl (by rw[bJ];exact eT aV) (by rw[dK];lia) (by rw[aT,d3];exact mE.leaf hc (cp _) (dF (G3 aV) (by decide)) (fun _=>dF (G3 aV) (by decide)))⟩;refine⟨_,I,I,_,I,hU I ⟨_,I,_,_,I,.inl ⟨_,ba kR,I⟩,_,_,I,I,_,I,fl (fun eE=>⟨_,I,cl,I,dp⟩) (fun eE=>?_)⟩⟩;exact kl I fun N=>⟨_,I,_,_,I,I,(by show(0:Int)<1000;decide),_,I,dp⟩
  ·skip;subst eH;refine go (h6 I e ?_);refine fu I ⋯ ?_;refine qg I cV fun cl H1 cF hc=>?_
   iterate 4 (first|refine fu I ⋯ ?_|refine uz I ⋯ ?_)
   refine kl I fun N=>⟨_,I,_,I,p,I,cF.l,fun iK dS mX p6=>⟨cl,iK,I,fun pp aiI t H' mJ lg IZ aA bV=>?_⟩⟩;have e9:=(cF.trans (ez.pop cF.l mX)).ext mJ;have aeA:t∉X:=(ef.grow (cF.trans (ez.pop cF.l mX))).no lg;refine⟨_,e9.sub,q _ (.tup [.int pp,.int aiI]) _ e9 ⟨t,_,I,aeA,IZ,⟨_,_,I,I,_,_,I,I,I⟩,by simp⟩ (by rw[bJ];exact aA) (by rw[dK,er,er,er,dK,dK];lia) ?_⟩;rw[vT (mJ.s p (.lst (dS.map V.int)) aG),cA,aT,d3];have gj:=abg aA
   have ar:dS.length<=pl H1 p:=by
    rcases p6 with y|⟨_,kF,_⟩
    .omega
    .rw[kF];exact UF _
   rcases hc with z|⟨di,dg,gS⟩
   .exact⟨by lia,.inl (dF gj (by lia))⟩
   ·rcases p6 with y|⟨rn,kF,Kn⟩
    .omega
    ·obtain⟨rfl,rfl⟩:=bV ⟨gS,Kn⟩;exact⟨by rw[kF];exact UF _,.inr ⟨di,abf⟩⟩
 |sp lo aF =>
  rw[e4]at bR;rw[fz]at aP;rw[bc]at q;obtain⟨T,_,rfl,jD,e,⟨_,_,rfl,⟨rfl,_⟩,_,_,rfl,rfl,_,_,rfl,rfl,rfl⟩,_⟩:=bR;subst eH;refine go (h6 I e ?_);refine fu I ⋯ ?_;refine qg I cV fun cl H1 cF hc=>?_
  iterate 3 (first|refine fu I ⋯ ?_|refine uz I ⋯ ?_)
  have aL:=cF.k _ _ (mj jD) e;have a2:ed [V.str sL,V.int lo,V.int aF] 2=J (.int aF):=cT (j:=2) rfl;have m0:=hY cl (show aF-lo+1≠0 by lia);have fy:=ib cl (show 0<aF-lo+1 by lia);refine kl I fun N=>⟨_,I,x0 aL (a1 _ _ _) ⟨_,I,_,I,x0 aL a2 ⟨_,I,x0 aL (a1 _ _ _) ⟨_,_,I,I,.inl ⟨_,_,I,I,_,_,I,I,(by lia),.inl ⟨_,_,I,I,?_⟩⟩⟩⟩⟩⟩;refine⟨_,cF.sub,q _ (.int _) _ cF I (by rw[bJ];exact eT ⟨by lia,by lia⟩) (by rw[dK];lia) ?_⟩;have ag:aD (aF-lo).toNat<=190:=jl (by lia);rw[aT,d3];have gj:(dB (lo+cl%(aF-lo+1)-lo).toNat (aD (aF-lo).toNat)).length<=190:=by rw[ji];exact ag
  exact mE.leaf hc (cp _) (dF gj (by decide)) (fun _=>dF gj (by decide))
 | le cu =>
  have I4:=bR;rw[e4]at bR;rw[bc]at q;have Ir:=aP;rw[fz]at Ir;obtain⟨T,_,rfl,jD,e,⟨_,_,rfl,⟨rfl,_⟩,_,_,rfl,⟨rfl,tU⟩,rfl⟩,_⟩:=bR
  have aer:0<cu.length:=by
   have:=Ir.1;unfold oU at this;simp only[g4,kn]at this;lia
  subst eH;refine go (h6 I e ?_);refine fu I ⋯ ?_;refine qg I cV fun cl H1 cF hc=>?_
  iterate 5 (first|refine fu I ⋯ ?_|refine uz I ⋯ ?_)
  have aL:=cF.k _ _ (mj jD) e;have Dj:cu.length<=cg:=fC (by lia);obtain⟨fy,kR,CV⟩:=cF.l;refine kl I fun N=>⟨fun b2 H'=>Ext H1 H'/\∃n:Nat,n<=200/\(cl=0->n=0)/\b2=[J (.ref p),J (.ref T),J (.str uG),J (.int cl),J (.int ((n:Nat):Int)),ax,ax,ax,ax],?_,?_⟩
  ·obtain⟨so,alz,HJ⟩:=iI cl 7 (by decide);have HJ:cl%7=((so:Nat):Int):=HJ;refine⟨_,I,_,_,I,I,(by show(0:Int)<7;decide),jA,fun g1 yT=>?_⟩;have iu:=Ext.lst (xs:=[V.int (cl%7),.int 200]) yT
   have dp:∀b:Bool,(b=ah->cl%41=40)->∃v:Nat,(v<=200/\(cl=0->v=0))/\ed [V.int (cl%7),.int 200] (if b=ah then 1 else 0)=J (.int ((v:Nat):Int)):=fun b ag=>by
    cases b
    .exact⟨so,⟨by lia,by rintro rfl;lia⟩,by rw[HJ];exact cT (j:=0) I⟩
    .exact⟨200,⟨by lia,by rintro rfl;exact absurd (ag I) (by decide)⟩,cT (j:=1) rfl⟩
   refine⟨_,I,_,_,I,I,(by show(0:Int)<41;decide),I,_,I,fl (fun iK=>?_) (fun iK=>?_)⟩
   ·refine⟨_,I,x0 (iu.s _ _ aL) (a1 _ _ _) ⟨_,_,I,⟨Dj,I⟩,.inl ⟨_,_,I,I,_,I,fl (fun hP=>?_) (fun hP=>?_)⟩⟩⟩
    ·refine⟨_,I,_,_,I,.inl ⟨_,ba (iu.s _ _ kR),I⟩,_,_,I,I,?_⟩;obtain⟨v,i7,kx⟩:=dp (decide (70<(((fy.map V.int).length:Nat):Int))) (fun _=>V.int.inj iK);exact .inl (.inr ⟨_,I,xz aG kx ⟨iu,v,i7.1,i7.2,I⟩⟩)
    ·obtain⟨v,i7,kx⟩:=dp aE (fun z=>nomatch z);exact .inl (.inr ⟨_,I,xz aG kx ⟨iu,v,i7.1,i7.2,I⟩⟩)
   ·obtain⟨v,i7,kx⟩:=dp aE (fun z=>nomatch z);exact .inl (.inr ⟨_,I,xz aG kx ⟨iu,v,i7.1,i7.2,I⟩⟩)
  rintro akK gZ ⟨jN,n,aV,mr,rfl⟩;have hc:xI (pl H p) (pl gZ p) cl:=by rw[qI jN cF.l];exact hc
  have aL:=jN.s _ _ aL;have cF:=cF.ext jN;refine⟨_,I,_,I,by lia,by lia,?_⟩;rw[show(((n:Nat):Int)).toNat=n by lia];refine qu (fun i U ao=>gZ=ao/\∃(t:ae)(c:Int)(uK:Option V),U=[J (.ref p),J (.ref T),J (.str uG),J (.int c),J (.int ((n:Nat):Int)),J (.str t),uK,ax,ax]/\t.length=i/\js t cu=ah) ⟨I,ae.ofString "",cl,ax,I,by decide+kernel,rfl⟩ ?_ ?_
  ·rintro i U ao aF ⟨rfl,t,c,uK,rfl,C9,CW⟩;obtain⟨k,hk,kO⟩:=iI (c/287) cu.length aer;have r8:k<cu.cps.toList.length:=by rw[jh];exact hk
   have i4:ed cu.cps.toList (c/287%((cu.length:Nat):Int))=J cu.cps.toList[k]:=by rw[kO];exact cT (cI r8)
   refine⟨_,I,_,I,x0 aL (a1 _ _ _) ⟨_,I,_,_,I,I,⟨by decide,by decide⟩,_,rfl,x0 aL (a1 _ _ _) ⟨_,_,rfl,⟨Dj,rfl⟩,_,_,rfl,rfl,(by lia),.inr ⟨_,_,_,rfl,rfl,Dj,i4,.inr ⟨_,_,rfl,rfl,?_,?_⟩⟩⟩⟩⟩
   ·show t.length+1<=cg;exact fC (by lia)
   refine⟨_,I,_,I,x0 aL (a1 _ _ _) ⟨_,_,I,⟨Dj,I⟩,_,_,I,I,⟨by lia,by lia⟩,rfl,_,_,_,rfl,?_,?_⟩⟩
   .rw[pU,C9];rfl
   ·unfold js at CW ⊢;rw[Vf,List.all_append,CW];simp
  ·rintro U ao ⟨rfl,t,c,uK,rfl,C9,CW⟩;refine⟨_,I,_,cF.sub,q _ (.str t) _ cF ⟨I,by lia⟩ (by rw[bJ];exact nt.mpr ⟨eT (by lia),CW⟩) (by rw[dK];lia) ?_⟩;have gj:=VZ (t:=t) Ir.2;rw[aT,d3];exact mE.leaf hc (cp _) (by lia) (fun z=>by have:=mr z;lia)
 | one k g =>
  have tT:d3 g+1<=150:=by rw[d3]at g9;exact g9
  have I4:=bR;have alC:=aP;rw[e4]at bR;rw[fz]at aP;rw[bc]at dq;rw[bc]at q;obtain⟨T,_,rfl,jD,e,⟨_,_,rfl,⟨rfl,_⟩,gH,_,rfl,hd,rfl⟩,_⟩:=bR;rcases rS k with rfl|rfl|rfl
  ·skip;subst eH;refine go (h6 I e ?_);refine fu I ⋯ ?_;refine qg I cV fun cl H1 cF hc=>?_
   iterate 6 (first|refine fu I ⋯ ?_|refine uz I ⋯ ?_)
   have aL:=cF.k _ _ (mj jD) e;refine⟨_,I,I,_,I,hU I ⟨_,I,_,_,I,I,(by show(0:Int)<2;decide),I,_,I,fl (fun eE=>?_) (fun eE=>?_)⟩⟩
   ·refine⟨UF _,fun t lg=>?_⟩;have e9:=cF.ext (Ext.tup (xs:=[]) lg);exact⟨_,e9.sub,q _ (.tup []) _ e9 ⟨t,[],I,(ef.grow cF).no lg,aG,I,by simp⟩ (by rw[bJ];rfl) (by rw[dK,er];lia) (by rw[qI (Ext.tup lg) cF.l,aT];exact mE.leaf hc (Lg _) (show 1<=150000 by decide) (fun _=>show 1<=300 by decide))⟩
   refine kl I fun N=>⟨_,I,_,I,x0 aL (a1 _ _ _) ⟨p,gH,g,X,I,eR,cF.l,ef.grow cF,b5.grow eR cF hd,aP,by lia,by lia,fun v jn H' G o1 hT qW m2=>⟨B9,fun t lg=>?_⟩⟩⟩;have rz:=Ext.tup (xs:=[v]) lg;have e9:=(cF.trans G).ext rz;refine⟨_,e9.sub,q _ (.tup [jn]) _ e9 ⟨t,_,I,(ef.grow (cF.trans G)).no lg,aG,⟨_,_,I,o1.same rz.s,I⟩,by simp⟩ ?_ (by rw[dK,er,er];lia) ?_⟩
   .rw[bJ];exact hT
   ·rw[qI rz (cF.trans G).l,aT,d3];exact m2.wrap hc (cp _) (by lia) (show(aT bL g jn).length+1<=_ by lia)
  ·skip;subst eH;refine go (h6 I e ?_);refine fu I ⋯ ?_;refine qg I cV fun cl H1 cF hc=>?_
   iterate 8 (first|refine fu I ⋯ ?_|refine uz I ⋯ ?_)
   have aL:=cF.k _ _ (mj jD) e;obtain⟨fy,kR,CV⟩:=cF.l;obtain⟨hW,eW,hQ,kr⟩:=Wa g;have ku:=b5.grow eR cF hd;rw[hQ]at ku;obtain⟨fU,ws,rfl,wj,e',⟨_,al5,rfl,⟨rfl,aeF⟩,d1⟩,Dc⟩:=ku;refine kl I fun N=>⟨fun b2 H'=>Ext H1 H'/\∃n:Nat,n<=3/\(cl=0->n=0)/\b2=[J (.ref p),J (.ref T),J (.str (qj 1)),J (.int cl),J (.int ((n:Nat):Int)),ax,ax,ax,ax],?_,?_⟩
   ·refine⟨_,I,jA,fun g2 r7=>?_⟩;have iZ:=Ext.lst (xs:=[V.int 2,.int 4]) r7
    obtain⟨v,⟨I4,i7⟩,kx⟩:∃v:Nat,(0<v/\v<=4)/\ed [V.int 2,.int 4] (if decide (50<(((fy.map V.int).length:Nat):Int))=ah then 1 else 0)=J (.int ((v:Nat):Int)):=by
     cases decide (50<(((fy.map V.int).length:Nat):Int))
     .exact⟨2,by lia,cT (j:=0) rfl⟩
     .exact⟨4,by lia,cT (j:=1) rfl⟩
    obtain⟨n,aV,bX⟩:=iI cl v I4;refine⟨_,I,_,_,I,.inl ⟨_,ba (iZ.s _ _ kR),I⟩,_,_,I,I,.inl (.inr ⟨_,I,xz aG kx ⟨_,_,I,I,(by lia),iZ,n,by lia,(fun z=>by rw[z,Int.zero_emod]at bX;lia),?_⟩⟩)⟩;dsimp only;rw[bX];rfl
   rintro al7 gJ ⟨kM,jt,mr,aeK,rfl⟩;refine⟨fun b2 H'=>Ext H1 H'/\∃n:Nat,n<=60/\(n<=3\/d3 g=1)/\(cl=0->n=0)/\b2=[J (.ref p),J (.ref T),J (.str (qj 1)),J (.int cl),J (.int ((n:Nat):Int)),ax,ax,ax,ax],?_,?_⟩
   ·refine⟨_,I,x0 (kM.s _ _ aL) (a1 _ _ _) (x0 (kM.s _ _ e') (a0 _ _) ⟨jA,fun g1 yT=>?_⟩)⟩;have mK:=kM.trans (Ext.lst (xs:=[V.str "truth",.str "nothing"]) yT);refine⟨_,_,I,.inl (ba aG),I,I,_,I,ae6 (fun abF=>?_) (fun _=>⟨mK,jt,by lia,.inl mr,aeK,rfl⟩)⟩
    have ajl:d3 g=1:=by
     rcases kr with⟨_,z⟩|⟨_,di,dg⟩
     .exact z
     ·exfalso;exact absurd (abF.symm.trans (WQ di dg)) (by decide)
    obtain⟨n,aV,bX⟩:=iI (cl/4) 61 (by decide);have bX:cl/4%61=((n:Nat):Int):=bX;refine⟨_,I,_,_,I,I,⟨by decide,by decide⟩,_,_,rfl,rfl,(by show(0:Int)<61;decide),mK,n,by lia,.inr ajl,(fun z=>by subst z;lia),?_⟩;dsimp only;rw[bX];rfl
   rintro akK gZ ⟨jN,n,aV,Pr,mr,rfl⟩;have hc:xI (pl H p) (pl gZ p) cl:=by rw[qI jN cF.l];exact hc
   have aL:=jN.s _ _ aL;have cF:=cF.ext jN;refine⟨_,I,_,I,by lia,by lia,fun c3 ec=>?_⟩;rw[show(((n:Nat):Int)).toNat=n by lia];have r1:=ef.grow cF;have CI:c3∉X:=r1.no ec;have qR:c3≠p:=fun z=>CI (by rw[z];exact eR);have jx:=Ext.lst (xs:=[]) ec;have oV:∀{ao:al},ez p gZ ao->ao T=J (.tup [.str (qj 1),.ref fU]):=fun G=>G.k _ _ (mj jD) aL;refine NC n (fun i =>.int (0+((i:Nat):Int))) (fun i ay ao=>ez p gZ ao/\∃ds,ds.length=i/\bx (c3::X) ao ds ay/\(∀x,x∈ds->bJ cy g x=ah/\dK x<=bc g+1)/\pl ao p<=pl gZ p/\((ds.map fun d=>ah::aT bL g d).flatten).length<=150000*(pl gZ p-pl ao p)+i*(1+300*d3 g)) (fun U=>∃z,U=[z,J (.ref p),J (.ref T)]) (by lia) ⟨_,I⟩ (fun i H aF=>aF) (fun H=>cp _) (fun i H x H' aF h=>⟨h.1,h.2⟩) ⟨(ez.refl cF.l).ext jx,[],I,I,(fun x aq=>nomatch aq),by rw[qI jx cF.l];exact cp _,UF _⟩ ?_ ?_
   ·rintro i aF ay bE ao ⟨z,rfl⟩ ⟨e9,ds,la,eB,f9,o4,we⟩ hS jr R bN;have qT:jZ (c3::X) ao:=(r1.grow e9).add hS;refine⟨_,I,_,I,x0 (oV e9) (a1 _ _ _) ⟨p,.ref fU,g,c3::X,I,dw _ eR,e9.l,qT,b5.grow (dw _ eR) e9 (b5.add ec _ (b5.grow eR cF hd)),aP,by lia,by lia,fun v jn bp hh o1 hT qW m2=>?_⟩⟩;have kt:bp c3=J (.lst ay):=hh.k _ _ qR hS;have eI:∀b u,b∉c3::X->bp b=J u->upd bp c3 (.lst (ay++[v])) b=J u:=fun b u nb e=>by rw[bC (fun z=>nb (by rw[z];exact eA ..))];exact e
    have sj:∀b u,b∉c3::X->ao b=J u->bp b=J u:=fun b u nb e=>hh.k b u (fun z=>nb (by rw[z];exact dw _ eR)) e;refine bN _ _ _ ⟨_,I⟩ kt ⟨(e9.trans hh).set ec kt qR,ds++[jn],by rw[dP,la];rfl,bx.snoc (b5.keep eI _ o1) _ (bx.keep eI _ (bx.keep sj _ eB)),fun x aq=>?_,?_,?_⟩
    ·rcases List.mem_append.mp aq with z|z
     .exact f9 x z
     .rw[ft.mp z];exact⟨hT,qW⟩
    .rw[vU qR];exact dF m2.1 o4
    ·rw[vU qR,fP,List.flatten_append,dP];have aL:(List.map (fun d=>ah::aT bL g d) [jn]).flatten.length=(aT bL g jn).length+1:=by simp
     obtain⟨fE,eK⟩:=m2;have aS:(i+1)*(1+300*d3 g)=i*(1+300*d3 g)+(1+300*d3 g):=Nat.succ_mul ..;rw[aL,aS];generalize i*(1+300*d3 g)=alL at we ⊢;lia
   ·rintro ay H' jr jQ ⟨e9,ds,la,eB,f9,o4,we⟩;have hh:=cF.trans e9;refine⟨_,hh.sub,q _ (.lst ds) _ hh ⟨c3,ay,I,CI,jQ,bx.weak (fun x aq=>dw _ aq) _ eB,by lia⟩ ?_ ?_ ?_⟩
    ·rw[bJ];exact nt.mpr ⟨eT (by lia),ig.mpr fun x aq=>(f9 x aq).1⟩
    ·have:=Ny ds fun x aq=>(f9 x aq).2;rw[dK];lia
    ·rw[d3]at g9
     have alA:n*(1+300*d3 g)<=140000:=by
      rcases Pr with z|z
      .exact dF (Nat.mul_le_mul z (show 1+300*d3 g<=45001 by lia)) (by decide)
      .rw[z];exact dF (Nat.mul_le_mul aV (cp _)) (by decide)
     rw[aT]
     have HG:(Dy 1 (aT bL g) (.lst ds)).length=((ds.map fun d=>ah::aT bL g d).flatten).length+1:=by
      show(_++[aE]).length=_;rw[dP];rfl
     rw[HG];rcases hc with z|⟨di,dg,gS⟩
     .exact⟨by lia,.inl (by lia)⟩
     ·have adI:ds=[]:=List.length_eq_zero_iff.mp (by rw[la];exact mr gS);have:=Lg (.one 1 g);exact⟨by lia,.inr ⟨di,by rw[adI];show 0+1<=_;lia⟩⟩
  ·skip;subst eH;refine go (h6 I e ?_);refine fu I ⋯ ?_;refine qg I cV fun cl H1 cF hc=>?_
   iterate 11 (first|refine fu I ⋯ ?_|refine uz I ⋯ ?_)
   have aL:=cF.k _ _ (mj jD) e;refine⟨_,I,_,I,x0 aL (a1 _ _ _) ⟨p,gH,g,X,I,eR,cF.l,ef.grow cF,b5.grow eR cF hd,aP,by lia,by lia,fun v jn H' G o1 hT qW m2=>?_⟩⟩;exact⟨_,(cF.trans G).sub,q _ jn _ (cF.trans G) o1 (by rw[bJ];exact hT) (by lia) (by rw[aT,d3];exact m2.wrap hc (cp _) (by rw[d3]at g9;exact g9) (by show((aT bL g jn).map (!·)).length<=_;rw[cA];lia))⟩
 | two k ns fs =>
  have tT:∀{i:Nat}{g:bH},fs[i]?=J g->d3 g<=150:=fun h=>by
   have:=G4 h;rw[d3]at g9;lia
  rw[e4]at bR;rw[fz]at aP;rw[bc]at dq;rw[bc]at q;obtain⟨h2,c1,qZ⟩:=aP;obtain⟨T,_,rfl,jD,e,⟨_,_,rfl,⟨rfl,_⟩,_,_,rfl,⟨l,lh,rfl,wx,h1,eB,Pk⟩,rfl⟩,_⟩:=bR;have jR:lh.length=fs.length:=by rw[cj.len _ (bx.at _ eB),vL]
  have p7:0<fs.length/\fs.length<=20:=by
   have h:=h2;unfold lP at h;simp only[g4,kn]at h;lia
  rcases tC k with rfl|rfl
  ·skip;subst eH;refine go (h6 I e ?_);refine fu I ⋯ ?_;refine qg I cV fun cl H1 cF hc=>?_
   iterate 9 (first|refine fu I ⋯ ?_|refine uz I ⋯ ?_)
   have aL:=cF.k _ _ (mj jD) e;have yy:=cF.k _ _ (mj wx) h1;have r1:=ef.grow cF;refine kl I fun N=>?_;refine .inl ⟨_,I,x0 aL (a1 _ _ _) ⟨l,I,⟨_,ba yy⟩,fun c3 ec=>?_⟩⟩;have CI:c3∉X:=r1.no ec;have qR:c3≠p:=fun z=>CI (by rw[z];exact eR);have jx:=Ext.lst (xs:=[]) ec;refine qF (K:=K) (a:=l) (xs:=lh) (fun i ay ao=>ez p H1 ao/\∃ds,ds.length=i/\bx (c3::X) ao ds ay/\eL cy (fs.take i) ds=ah/\er ds<=gV fs+1/\pl ao p<=pl H1 p/\(gk bL (fs.take i) ds).length<=150000*(pl H1 p-pl ao p)+300*kD (fs.take i)) (fun U=>∃di dg,U=[di,dg,J (.ref p)]) (by lia) ⟨_,_,I⟩ ?_ ⟨(ez.refl cF.l).ext jx,[],I,I,by rw[List.take_zero,eL];rfl,by rw[er];lia,by rw[qI jx cF.l];exact cp _,by rw[List.take_zero,gk];exact UF _⟩ ?_ ?_
   ·rintro i ay ao ⟨e9,_⟩;exact ba (e9.k _ _ (mj wx) yy)
   ·rintro i x aq ay bE ao ⟨di,dg,rfl⟩ ⟨e9,ds,la,r6,nM,mW,o4,we⟩ hS jr R bN;obtain⟨g,nm,fU,gH,bb,lb,rfl,wj,oR,hd⟩:=ti fs ns c1 eB aq;obtain⟨q8,r7⟩:=vJ qZ bb;have qT:jZ (c3::X) ao:=(r1.grow e9).add hS;refine⟨_,_,I,cC (e9.k _ _ (mj wj) (cF.k _ _ (mj wj) oR)),I,_,_,I,_,_,I,I,?_⟩;refine⟨_,I,_,I,p,gH,g,c3::X,I,dw _ eR,e9.l,qT,b5.grow (dw _ eR) e9 (b5.add ec _ (b5.grow eR cF hd)),q8,by lia,tT bb,fun v jn bp hh o1 hT qW m2=>?_⟩;have kt:bp c3=J (.lst ay):=hh.k _ _ qR hS;have eI:∀b u,b∉c3::X->bp b=J u->upd bp c3 (.lst (ay++[v])) b=J u:=fun b u nb e=>by rw[bC (fun z=>nb (by rw[z];exact eA ..))];exact e
    have sj:∀b u,b∉c3::X->ao b=J u->bp b=J u:=fun b u nb e=>hh.k b u (fun z=>nb (by rw[z];exact dw _ eR)) e;refine bN _ _ _ ⟨_,_,I⟩ kt ⟨(e9.trans hh).set ec kt qR,ds++[jn],by rw[dP,la];rfl,bx.snoc (b5.keep eI _ o1) _ (bx.keep eI _ (bx.keep sj _ r6)),?_,MR (by lia) mW,?_,?_⟩
    ·rw[iG,bb];exact MN hT _ _ nM
    .rw[vU qR];exact dF m2.1 o4
    ·have Pb:i<=fs.length:=Nat.le_of_lt (gr.mp bb).1;rw[vU qR,iG,bb];show(gk bL (fs.take i++[g]) (ds++[jn])).length<=150000*_+300*kD (fs.take i++[g]);rw[My _ _ (by rw[hN,la];lia),GO,dP];obtain⟨fE,eK⟩:=m2;lia
   ·rintro ay H' jr jQ ⟨e9,ds,la,r6,nM,mW,o4,we⟩;rw[jR,UV (cp _)]at nM we;refine⟨_,_,I,.inl ⟨ba jQ,fun t lg=>?_⟩⟩;have rA:=Ext.tup (xs:=ay) lg;have hh:=(cF.trans e9).ext rA;refine⟨_,hh.sub,q _ (.tup ds) _ hh ⟨t,ay,I,(ef.grow (cF.trans e9)).no lg,aG,(bx.weak (fun x aq=>dw _ aq) _ r6).same rA.s,by lia⟩ ?_ ?_ ?_⟩
    .rw[bJ,if_pos rfl];exact nM
    .rw[dK];lia
    ·rw[qI rA (cF.trans e9).l,aT,if_pos rfl,d3];rw[d3]at g9;show mE _ _ (gk bL fs ds).length _;rcases hc with z|⟨di,dg,gS⟩
     .exact⟨by lia,.inl (by lia)⟩
     .exact⟨by lia,.inr ⟨di,by lia⟩⟩
  ·skip;subst eH;refine go (h6 I e ?_);refine fu I ⋯ ?_;refine qg I cV fun cl H1 cF hc=>?_
   iterate 10 (first|refine fu I ⋯ ?_|refine uz I ⋯ ?_)
   have aL:=cF.k _ _ (mj jD) e;have yy:=cF.k _ _ (mj wx) h1;refine kl I fun N=>?_;obtain⟨j,b0,gx⟩:=iI cl lh.length (by lia);obtain⟨y,aW⟩:∃y,lh[j]?=J y:=⟨_,cI b0⟩;obtain⟨g,nm,fU,gH,bb,lb,rfl,wj,oR,hd⟩:=ti fs ns c1 eB aW;obtain⟨q8,r7⟩:=vJ qZ bb;refine⟨_,I,x0 aL (a1 _ _ _) ⟨_,I,_,I,x0 aL (a1 _ _ _) ⟨_,_,I,.inl ⟨_,ba yy,I⟩,_,_,I,I,(by lia),xz yy (by rw[gx];exact cT aW) ?_⟩⟩⟩;refine⟨_,_,I,cC (cF.k _ _ (mj wj) oR),I,_,_,I,_,_,I,I,?_⟩;refine⟨_,I,_,I,_,I,p,gH,g,X,I,eR,cF.l,ef.grow cF,b5.grow eR cF hd,q8,by lia,tT bb,fun v jn H' G o1 hT qW m2=>⟨jA,fun t lg=>?_⟩⟩;have rz:=Ext.tup (xs:=[V.str nm,v]) lg;have e9:=(cF.trans G).ext rz;have kQ:nm.length<=12:=(qH h2).2 nm (eY lb);refine⟨_,e9.sub,q _ (.tup [.str nm,jn]) _ e9 ⟨t,_,I,(ef.grow (cF.trans G)).no lg,aG,⟨_,_,I,⟨I,by lia⟩,_,_,rfl,o1.same rz.s,rfl⟩,by simp⟩ ?_ (by rw[dK,er,er,er,dK];lia) ?_⟩
   ·rw[bJ,if_neg (by decide)];show jC cy fs ns nm jn=ah;rw[rN fs ns nm (eY lb) c1,xE h2 lb,eJ,bb];exact hT
   ·rw[qI rz (cF.trans G).l,aT,if_neg (by decide),d3];show mE _ _ (kX bL fs ns 0 (fs.length-1) nm jn).length _;rw[vH fs ns 0 nm (eY lb) c1,xE h2 lb,eJ,bb,dP,ji];have ag:aD (fs.length-1)<=5:=jl (w:=5) (by lia);exact m2.wrap hc (Nat.succ_le_succ (G4 bb)) (by rw[d3]at g9;exact g9) (by show _+(aT bL g jn).length<=_;lia)
theorem LK(nb:dn mg)(F:dD K mg "_law_value" Bo ["_law_pool_here","_law_form_here"] f fd)(jw:aY P w K mg zn 1 "_law_next" ["_law_pool_here"] Rt)(sS:aY P w K mg zn 2 "_law_signed" ["_law_cell"] RT)(uW:aY P w K mg zn 1 "_law_fraction" ["_law_one","_law_other"] Q3):∀d:Nat,aY P w K mg zn (d+3) "_law_value" ["_law_pool_here","_law_form_here"] (R9 d)
 |0=>aY.none F fun vs H Q E z=>by obtain⟨_,_,g,_,_,_,_,_,_,_,h,_⟩:=z;have:=vR g;lia
 |d+1=>Xu nb F jw sS uW (LK nb F jw sS uW d)
noncomputable def sgn(a b:Int):Int:=(if b<a then 1 else 0)-(if a<b then 1 else 0)
noncomputable def items:D->List D
 |.tup ds=>ds
 |.lst ds=>ds
 |_=>[]
noncomputable def sv:D->Int
 |.int i=>i
 |.aK b=>PyProof.Rows.b2i b
 |_=>0
noncomputable def xd:D->Int
 |.tup (.int p::_)=>p
 |_=>0
noncomputable def vY:D->Int
 |.tup [_,.int q]=>q
 |_=>0
noncomputable def Sw:D->ae
 |.str t=>t
 |_=>ae.empty
noncomputable def t7:D->ae
 |.tup (.str n::_)=>n
 |_=>ae.empty
noncomputable def Qj:D->D
 |.tup [_,x]=>x
 |_ =>.bf
noncomputable def o8(s t:ae):List Int:=t.cps.toList.map fun c=>((s.cps.toList.idxOf c:Nat):Int)
noncomputable def qh(a b:List Int):Int:=(if du.lexLt b a=ah then 1 else 0)-(if du.lexLt a b=ah then 1 else 0)
noncomputable def Hs(k:Fin 4)(a b:D):Int:=if k=0 then 0 else if k=3 then sgn (xd a*vY b) (xd b*vY a)else sgn (sv a) (sv b)
noncomputable def kb(g:Nat->D->D->Int):List D->List D->Nat->Int
 |x::xs,y::ay,k=>if g k x y=0 then kb g xs ay (k+1)else g k x y
 |xs,ay,_=>sgn xs.length ay.length
mutual
noncomputable def dV:bH->D->D->Int
 |.bare k,a,b=>Hs k a b
 |.sp _ _,a,b=>sgn (sv a) (sv b)
 |.le s,a,b=>qh (o8 s (Sw a)) (o8 s (Sw b))
 |.one k f,a,b=>if k=2 then 0-dV f a b else kb (fun _=>dV f) (items a) (items b) 0
 |.two k ns fs,a,b=>if k=0 then kb (fun i=>(iy fs).getD (i%fs.length) fun _ _=>0) (items a) (items b) 0 else if t7 a=t7 b then(iy fs).getD (ns.idxOf (t7 a)) (fun _ _=>0) (Qj a) (Qj b)else sgn (ns.idxOf (t7 a)) (ns.idxOf (t7 b))
noncomputable def iy:List bH->List (D->D->Int)
 |[]=>[]
 |f::fs=>dV f::iy fs
end
theorem xT:∀(fs:List bH)(i:Nat)(f:bH),fs[i]?=J f->(iy fs).getD i (fun _ _=>0)=dV f
 |[],i,f,h=>by cases h
 |g::fs,0,f,h=>by cases h;rw[iy];rfl
 |g::fs,i+1,f,h=>by rw[iy];exact xT fs i f h
def tf(a b:Int):sgn b a = -sgn a b:=by unfold sgn;lia
def te{a b:Int}:sgn a b=0↔a=b:=by
 unfold sgn;constructor
 ·intro h;rcases Int.lt_trichotomy a b with z|z|z
  .rw[if_neg (by lia),if_pos z]at h;lia
  .exact z
  .rw[if_pos z,if_neg (by lia)]at h;lia
 ·rintro rfl;rw[if_neg (by lia)];rfl
def w1{a b:Int}:sgn a b<0↔a<b:=by
 unfold sgn;constructor
 ·intro h;rcases Int.lt_trichotomy a b with z|z|z
  .exact z
  .subst z;rw[if_neg (by lia)]at h;lia
  .rw[if_pos z,if_neg (by lia)]at h;lia
 ·intro z;rw[if_neg (by lia),if_pos z];lia
theorem Hc:∀a:List Int,du.lexLt a a=aE
 |[]=>rfl
 |x::a=>by rw[du.wM,if_pos rfl];exact Hc a
theorem Hb:∀a b:List Int,a≠b->(du.lexLt a b=ah/\du.lexLt b a=aE)\/(du.lexLt b a=ah/\du.lexLt a b=aE)
 |[],[],h=>absurd rfl h
 |[],y::b,_ =>.inl ⟨rfl,rfl⟩
 |x::a,[],_ =>.inr ⟨rfl,rfl⟩
 | x::a,y::b,h=>by
  rw[du.wM,du.wM];by_cases z:x=y
  ·subst z;rw[if_pos rfl,if_pos rfl];exact Hb a b fun e=>h (by rw[e])
  ·rw[if_neg z,if_neg (ei z)];rcases Int.lt_or_gt_of_ne z with q|q
   .exact .inl ⟨eT q,fL (by lia)⟩
   .exact .inr ⟨eT q,fL (by lia)⟩
def aaC(a b:List Int):qh b a = -qh a b:=by unfold qh;lia
def aaB{a b:List Int}:qh a b=0↔a=b:=by
 unfold qh;constructor
 ·intro h;by_cases z:a=b
  .exact z
  .rcases Hb a b z with⟨ck,b1⟩|⟨ck,b1⟩<;>(rw[ck,b1]at h;simp at h)
 ·rintro rfl;rw[Hc];rfl
def ai8{a b:List Int}:qh a b<0↔du.lexLt a b=ah:=by
 unfold qh;by_cases z:a=b
 .subst z;rw[Hc];simp
 .rcases Hb a b z with⟨ck,b1⟩|⟨ck,b1⟩<;>(rw[ck,b1];simp)
theorem GY(g:Nat->D->D->Int)(h:∀k x y,g k y x = -g k x y):∀(xs ay:List D)(k:Nat),kb g ay xs k = -kb g xs ay k
 |[],[],k=>by show sgn _ _ = -sgn _ _;exact tf _ _
 |[],y::ay,k=>by show sgn _ _ = -sgn _ _;exact tf _ _
 |x::xs,[],k=>by show sgn _ _ = -sgn _ _;exact tf _ _
 |x::xs,y::ay,k=>by
  show(if g k y x=0 then _ else _) = -(if g k x y=0 then _ else _);have e:=h k x y;by_cases z:g k x y=0
  .rw[if_pos z,if_pos (by lia)];exact GY g h xs ay (k+1)
  .rw[if_neg z,if_neg (by lia)];exact e
mutual
theorem x2:∀(f:bH)(a b:D),dV f b a = -dV f a b
 | .bare k,a,b=>by
  rw[dV,dV];unfold Hs;split
  .rfl
  ·split
   .exact tf _ _
   .exact tf _ _
 |.sp _ _,a,b=>by rw[dV,dV];exact tf _ _
 |.le s,a,b=>by rw[dV,dV];exact aaC _ _
 |.one k f,a,b=>by
  rw[dV,dV];split
  .have:=x2 f a b;lia
  .exact GY _ (fun _ x y=>x2 f x y) _ _ 0
 | .two k ns fs,a,b=>by
  rw[dV,dV];split
  .exact GY (fun i=>(iy fs).getD (i%fs.length) fun _ _=>0) (fun i x y=>GB fs (i%fs.length) x y) _ _ 0
  ·by_cases z:t7 a=t7 b
   .rw[if_pos z,if_pos z.symm,z];exact GB fs _ _ _
   .rw[if_neg z,if_neg (ei z)];exact tf _ _
theorem GB:∀(fs:List bH)(i:Nat)(x y:D),(iy fs).getD i (fun _ _=>0) y x = -(iy fs).getD i (fun _ _=>0) x y
 |[],i,x,y=>by rw[iy];rfl
 |f::fs,0,x,y=>by rw[iy];exact x2 f x y
 |f::fs,i+1,x,y=>by rw[iy];exact GB fs i x y
end
structure Good(g:D->D->Int)(x y:D):Prop where
 z:g x y=0↔x=y
 e:fv x y=ah↔x=y
theorem BP(g:Nat->D->D->Int):∀(xs ay:List D)(k:Nat),(∀(i:Nat)(x y:D),xs[i]?=J x->ay[i]?=J y->Good (g (k+i)) x y)->(kb g xs ay k=0↔xs=ay)
 |[],[],k,_=>⟨fun _=>rfl,fun _=>rfl⟩
 |[],y::ay,k,_=>by
  show sgn _ _=0↔_;rw[te];constructor
  .intro h;simp at h;lia
  .intro h;cases h
 |x::xs,[],k,_=>by
  show sgn _ _=0↔_;rw[te];constructor
  .intro h;simp at h;lia
  .intro h;cases h
 | x::xs,y::ay,k,h=>by
  have aX:=h 0 x y rfl rfl;rw[Nat.add_zero]at aX;rw[kb];by_cases z:x=y
  ·rw[if_pos (aX.z.mpr z),BP g xs ay (k+1) fun i a b aM ag=>by
    have:=h (i+1) a b aM ag
    rwa [show k+1+i=k+(i+1) by lia],z]
   simp
  ·have uL:g k x y≠0:=fun q=>z (aX.z.mp q);rw[if_neg uL];exact⟨fun q=>absurd q uL,fun q=>absurd (List.head_eq_of_cons_eq q) z⟩
theorem BU:∀(xs ay:List D),(∀(i:Nat)(x y:D),xs[i]?=J x->ay[i]?=J y->(fv x y=ah↔x=y))->(gN xs ay=ah↔xs=ay)
 |[],[],_=>by rw[gN];simp
 |[],y::ay,_=>by rw[gN];simp
 |x::xs,[],_=>by rw[gN];simp
 |x::xs,y::ay,h=>by
  rw[gN];show(fv x y&&gN xs ay)=ah↔_;rw[g4,h 0 x y rfl rfl,BU xs ay fun i a b aM ag=>h (i+1) a b aM ag];simp
theorem yd{bD:D->Bool}:∀{fs:List bH}{ds:List D},eL bD fs ds=ah->ds.length=fs.length/\∀(i:Nat)(f:bH)(d:D),fs[i]?=J f->ds[i]?=J d->bJ bD f d=ah
 |[],[],_=>⟨rfl,fun i f d h=>by cases h⟩
 |[],e::ds,h=>by rw[eL]at h;cases h
 |g::fs,[],h=>by rw[eL]at h;cases h
 |g::fs,e::ds,h=>by
  rw[eL]at h;have h:(bJ bD g e&&eL bD fs ds)=ah:=h;rw[g4]at h;obtain⟨a,b⟩:=yd h.2;refine⟨by rw[eb,eb,a],fun i f d aA hd=>?_⟩;cases i with
  |zero=>cases aA;cases hd;exact h.1
  |succ i=>exact b i f d aA hd
theorem Np{s:ae}:∀(a b:List Nat),(∀c,c∈a->c∈s.cps.toList)->(∀c,c∈b->c∈s.cps.toList)->(a.map fun c=>((s.cps.toList.idxOf c:Nat):Int))=(b.map fun c=>((s.cps.toList.idxOf c:Nat):Int))->a=b
 |[],[],_,_,_=>rfl
 |[],y::b,_,_,h=>by cases h
 |x::a,[],_,_,h=>by cases h
 |x::a,y::b,ai,ar,h=>by
  rw[fB,fB]at h;have aL:=List.head_eq_of_cons_eq h;have aS:=List.tail_eq_of_cons_eq h;have aL:s.cps.toList.idxOf x=s.cps.toList.idxOf y:=by lia
  have aq:=oD (ai x (eA ..));have aW:=oD (ar y (eA ..));have ac5:s.cps.toList[s.cps.toList.idxOf x]=x:=List.getElem_idxOf aq;have ac6:s.cps.toList[s.cps.toList.idxOf y]=y:=List.getElem_idxOf aW;have acx:x=y:=by rw[<-ac5,<-ac6];congr 1
  rw[acx,Np a b (fun c hc=>ai c (dw _ hc)) (fun c hc=>ar c (dw _ hc)) aS]
def N1{q p t:Int}(h:q∣p*t)(hc:Int.gcd p q=1):q∣t:=by
 have h':=Int.natAbs_dvd_natAbs.mpr h;rw[Int.natAbs_mul]at h';have:Nat.Coprime q.natAbs p.natAbs:=by unfold Nat.Coprime;rw[Nat.gcd_comm];exact hc
 exact Int.natAbs_dvd_natAbs.mp (this.dvd_of_dvd_mul_left h')
def V6{p q r t:Int}(ai:0<q)(ar:Int.gcd p q=1)(bz:0<t)(c0:Int.gcd r t=1)(h:p*t=r*q):p=r/\q=t:=by
 have hC:q∣t:=N1 (by rw[h];exact Int.dvd_mul_left r q) ar;have iq:t∣q:=N1 (by rw[<-h];exact Int.dvd_mul_left p t) c0;have e:q=t:=Int.dvd_antisymm (by lia) (by lia) hC iq;subst e;exact⟨Int.eq_of_mul_eq_mul_right (by lia) h,I⟩
set_option tactic.hygienic true in
mutual
theorem th:∀(f:bH)(a b:D),fz f->bJ cy f a=ah->bJ cy f b=ah->Good (dV f) a b
 | .bare k,a,b,_,ai,ar=>by
  rw[bJ]at ai ar;rcases v5 k with rfl|rfl|rfl|rfl
  ·cases a<;>first|cases ai|skip
   cases b<;>first|cases ar|skip
   exact⟨⟨fun _=>I,fun _=>by rw[dV];rfl⟩,⟨fun _=>rfl,fun _=>by rw[fv];rfl⟩⟩
  ·cases a<;>first|cases ai|skip
   rename_i x;cases b<;>first|cases ar|skip
   rename_i y;refine⟨?_,?_⟩
   ·rw[dV];show sgn (PyProof.Rows.b2i x) (PyProof.Rows.b2i y)=0↔_;rw[te];cases x<;>cases y<;>simp[PyProof.Rows.b2i]
   .rw[fv];cases x<;>cases y<;>simp[Ow]
  ·cases a<;>first|cases ai|skip
   rename_i x;cases b<;>first|cases ar|skip
   rename_i y;refine⟨?_,?_⟩
   ·rw[dV];show sgn x y=0↔_;rw[te];simp
   .rw[fv];simp[Cw]
  ·replace ai:cy a=ah:=ai
   replace ar:cy b=ah:=ar
   unfold cy at ai ar;split at ai
   ·rename_i p q;split at ar
    ·rename_i r t;have ai:=hX ai;have ar:=hX ar;refine⟨?_,?_⟩
     ·rw[dV];show sgn (p*t) (r*q)=0↔_;rw[te];constructor
      ·intro h;obtain⟨aL,aS⟩:=V6 ai.1 ai.2.1 ar.1 ar.2.1 h;rw[aL,aS]
      ·intro h;simp at h;rw[h.1,h.2]
     ·rw[fv];show gN _ _=ah↔_;simp[gN,fv,Cw]
    .cases ar
   .cases ai
 | .sp lo aF,a,b,_,ai,ar=>by
  rw[bJ]at ai ar;cases a<;>first|cases ai|skip
  rename_i x;cases b<;>first|cases ar|skip
  rename_i y;refine⟨?_,?_⟩
  ·rw[dV];show sgn x y=0↔_;rw[te];simp
  .rw[fv];simp[Cw]
 | .le s,a,b,_,ai,ar=>by
  rw[bJ]at ai ar;cases a<;>first|cases ai|skip
  rename_i x;cases b<;>first|cases ar|skip
  rename_i y;have ai:(decide (x.length<=200)&&js x s)=ah:=ai;have ar:(decide (y.length<=200)&&js y s)=ah:=ar;rw[g4]at ai ar;have g1:=ai.2;have g2:=ar.2;unfold js at g1 g2;rw[ig]at g1 g2;refine⟨?_,?_⟩
  ·rw[dV];show qh (o8 s x) (o8 s y)=0↔_;rw[aaB];constructor
   ·intro h;have:=Np x.cps.toList y.cps.toList (fun c hc=>hX (g1 c hc)) (fun c hc=>hX (g2 c hc)) h
    have:x=y:=by
     cases x;cases y;congr 1;exact Array.toList_inj.mp this
    rw[this]
   ·intro h;simp at h;rw[h]
  .rw[fv];simp[Cx]
 | .one k f,a,b,aP,ai,ar=>by
  rw[fz]at aP;rw[bJ]at ai ar;rcases rS k with rfl|rfl|rfl
  ·have aM:∃xs,a=.tup xs/\∀x,x∈xs->bJ cy f x=ah:=by
    have ai:nT (bJ cy f) a=ah:=ai;unfold nT at ai;split at ai
    .exact⟨[],I,fun x aq=>nomatch aq⟩
    .exact⟨[_],I,fun y aW=>by rw[ft.mp aW];exact ai⟩
    .cases ai
   have ag:∃xs,b=.tup xs/\∀x,x∈xs->bJ cy f x=ah:=by
    have ar:nT (bJ cy f) b=ah:=ar;unfold nT at ar;split at ar
    .exact⟨[],I,fun x aq=>nomatch aq⟩
    .exact⟨[_],I,fun y aW=>by rw[ft.mp aW];exact ar⟩
    .cases ar
   obtain⟨xs,rfl,aq⟩:=aM;obtain⟨ay,rfl,aW⟩:=ag;have all:∀(i:Nat)(x y:D),xs[i]?=J x->ay[i]?=J y->Good (dV f) x y:=fun i x y aL aS=>th f x y aP (aq x (eY aL)) (aW y (eY aS));refine⟨?_,?_⟩
   ·rw[dV,if_neg (by decide)];show kb _ xs ay 0=0↔_;rw[BP _ xs ay 0 all];simp
   ·rw[fv];show gN xs ay=ah↔_;rw[BU xs ay fun i x y aL aS=>(all i x y aL aS).e];simp
  ·replace ai:t5 (bJ cy f) a=ah:=ai
   replace ar:t5 (bJ cy f) b=ah:=ar
   cases a<;>first|cases ai|skip
   rename_i xs;cases b<;>first|cases ar|skip
   rename_i ay;have ai:(decide (xs.length<=60)&&xs.all (bJ cy f))=ah:=ai;have ar:(decide (ay.length<=60)&&ay.all (bJ cy f))=ah:=ar;rw[g4,ig]at ai ar;have all:∀(i:Nat)(x y:D),xs[i]?=J x->ay[i]?=J y->Good (dV f) x y:=fun i x y aL aS=>th f x y aP (ai.2 x (eY aL)) (ar.2 y (eY aS));refine⟨?_,?_⟩
   ·rw[dV,if_neg (by decide)];show kb _ xs ay 0=0↔_;rw[BP _ xs ay 0 all];simp
   ·rw[fv];show gN xs ay=ah↔_;rw[BU xs ay fun i x y aL aS=>(all i x y aL aS).e];simp
  ·have g:=th f a b aP ai ar;refine⟨?_,g.e⟩;rw[dV,if_pos rfl,<-g.z];lia
 | .two k ns fs,a,b,aP,ai,ar=>by
  rw[fz]at aP;rw[bJ]at ai ar;rcases tC k with rfl|rfl
  ·rw[if_pos rfl]at ai ar;cases a<;>first|cases ai|skip
   rename_i xs;cases b<;>first|cases ar|skip
   rename_i ay;obtain⟨c9,g1⟩:=yd (show eL cy fs xs=ah from ai);obtain⟨dz,g2⟩:=yd (show eL cy fs ay=ah from ar)
   have all:∀(i:Nat)(x y:D),xs[i]?=J x->ay[i]?=J y->Good ((iy fs).getD ((0+i)%fs.length) fun _ _=>0) x y:=fun i x y aL aS=>by
    have aF:i<fs.length:=by
     rcases g5 i xs.length with z|z
     .omega
     .rw[vz z]at aL;cases aL
    rw[Nat.zero_add,Nat.mod_eq_of_lt aF];have aA:=cI aF;exact GJ fs i x y _ aA aP.2.2 (g1 i _ x aA aL) (g2 i _ y aA aS)
   refine⟨?_,?_⟩
   ·rw[dV,if_pos rfl];show kb _ xs ay 0=0↔_;rw[BP _ xs ay 0 all];simp
   ·rw[fv];show gN xs ay=ah↔_;rw[BU xs ay fun i x y aL aS=>(all i x y aL aS).e];simp
  ·rw[if_neg (by decide)]at ai ar;unfold ts at ai ar;split at ai
   ·rename_i n x;split at ar
    ·rename_i m y;have mem:∀{n:ae}{x:D},jC cy fs ns n x=ah->n∈ns:=fun{n x}h=>rM fs ns n x aP.2.1 h;have aV:=mem ai;have hm:=mem ar;rw[rN fs ns n aV aP.2.1]at ai;rw[rN fs ns m hm aP.2.1]at ar;have gy:=oD aV;have Iy:=oD hm;have ac4:ns[ns.idxOf n]=n:=List.getElem_idxOf gy;have ac3:ns[ns.idxOf m]=m:=List.getElem_idxOf Iy;rw[aP.2.1]at gy;have aA:=cI gy;have o5:ns.idxOf n=ns.idxOf m↔n=m:=⟨fun h=>by rw[<-ac4,<-ac3];congr 1,fun h=>by rw[h]⟩;by_cases z:n=m
     ·subst z;rw[eJ,aA]at ai ar;have g:=GJ fs _ x y _ aA aP.2.2 ai ar;refine⟨?_,?_⟩
      ·rw[dV,if_neg (by decide)];show(if n=n then _ else _)=0↔_;rw[if_pos rfl];show(iy fs).getD (ns.idxOf n) _ x y=0↔_;rw[g.z];simp
      ·rw[fv];show gN _ _=ah↔_;simp[gN,fv,Cx,g.e]
     ·refine⟨?_,?_⟩
      ·rw[dV,if_neg (by decide)];show(if n=m then _ else _)=0↔_;rw[if_neg z];show sgn (ns.idxOf n) (ns.idxOf m)=0↔_;rw[te];constructor
       ·intro h;exact absurd (o5.mp (by lia)) z
       ·intro h;simp at h;exact absurd h.1 z
      ·rw[fv];show gN _ _=ah↔_;simp[gN,fv,Cx,z]
    .cases ar
   .cases ai
theorem GJ:∀(fs:List bH)(i:Nat)(x y:D)(f:bH),fs[i]?=J f->h3 fs->bJ cy f x=ah->bJ cy f y=ah->Good ((iy fs).getD i fun _ _=>0) x y
 |[],i,x,y,f,e,_,_,_=>by cases e
 |g::fs,0,x,y,f,e,ok,ai,ar=>by
  cases e;rw[h3]at ok;rw[iy];exact th g x y ok.1 ai ar
 |g::fs,i+1,x,y,f,e,ok,ai,ar=>by
  rw[h3]at ok;rw[iy];exact GJ fs i x y f e ok.2 ai ar
end
theorem cj.ge{H:al}:∀(ds:List D){vs:List V}{i:Nat}{d:D},cj H ds vs->ds[i]?=J d->∃v,vs[i]?=J v/\dj H d v
 |[],vs,i,d,h,e=>by cases e
 |d::ds,vs,0,x,h,e=>by
  obtain⟨o',r,rfl,q,b1⟩:=h;cases e;exact⟨_,I,q⟩
 |d::ds,vs,i+1,x,h,e=>by
  obtain⟨o',r,rfl,q,b1⟩:=h;obtain⟨v,ai,ar⟩:=cj.ge (vs:=r) ds b1 (show ds[i]?=J x from e);exact⟨v,ai,ar⟩
def tZ{K:bS}{l:List V}(h:H p=J (.lst l)\/H p=J (.tup l)):KQ K (.ref p) H l.length:=h.elim (fun e =>.inl ⟨_,ba e,rfl⟩) (fun e =>.inr ⟨_,cC e,rfl⟩)
def Wd{n:Nat}{d:D}(h:er ds<=n)(e:ds[i]?=J d):dK d<=n:=nA (eY e) h
inductive Rw(d:Nat)(vs:List V)(H:al)(Q:bI)(E:cB):Prop where
 |mk (eN n6 n7:V) (f:bH) (a b:D) (aX:vs=[eN,n6,n7]) (ai:dj H (e4 f) eN) (ar:fz f) (bz:bc f<=d) (c0:dj H a n6) (es:dj H b n7) (iN:bJ cy f a=ah) (mR:bJ cy f b=ah) (mS:dK a<=50) (mT:Q (.int (dV f a b)) H)
noncomputable def zo(fs:List bH):Nat->D->D->Int:=fun i=>(iy fs).getD (i%fs.length) fun _ _=>0
inductive Rj(d:Nat)(vs:List V)(H:al)(Q:bI)(E:cB):Prop where
 |mk (lf:af) (n6 n7:V) (fs:List bH) (rV c9 dz:List V) (xs ay:List D) (aX:vs=[.ref lf,n6,n7]) (ai:H lf=J (.lst rV)) (ar:cj H (fs.map e4) rV) (bz:0<fs.length) (c0:fs.length<=20) (es:h3 fs) (iN:gV fs<=d) (mR:(∃a,n6=.ref a/\(H a=J (.lst c9)\/H a=J (.tup c9)))) (mS:(∃a,n7=.ref a/\(H a=J (.lst dz)\/H a=J (.tup dz)))) (mT:cj H xs c9) (CD:cj H ay dz) (yE:xs.length<=1000) (mQ:ay.length<=1000) (OK:er xs<=50) (ak5:(∀(i:Nat)(f:bH)(x:D),fs[i%fs.length]?=J f->xs[i]?=J x->bJ cy f x=ah)) (ak6:(∀(i:Nat)(f:bH)(y:D),fs[i%fs.length]?=J f->ay[i]?=J y->bJ cy f y=ah)) (ak7:Q (.int (kb (zo fs) xs ay 0)) H)
theorem VW(g:Nat->D->D->Int):∀(xs ay:List D)(k:Nat),xs=[]\/ay=[]->kb g xs ay k=sgn xs.length ay.length
 |[],ay,k,_=>by cases ay<;>rfl
 |x::xs,[],k,_=>rfl
 |x::xs,y::ay,k,h=>by rcases h with h|h<;>cases h
def Vu(m n:Nat):(if decide ((n:Int)<(m:Int))=ah then(1:Int)else 0)-(if decide ((m:Int)<(n:Int))=ah then 1 else 0)=sgn m n:=by unfold sgn;simp only[kn]
def YH(nb:dn mg)(F:dD K mg "_law_listed" Bd ["_law_forms","_law_one","_law_other"] f fd)(oo:aY P w K mg zn (2*d+4) "_law_order" ["_law_form_here","_law_one","_law_other"] (Rw d)):aY P w K mg zn (2*d+5) "_law_listed" ["_law_forms","_law_one","_law_other"] (Rj d):=by show_term
 refine F.eg Fw (fun H vs Q E aw h=>?_);obtain⟨lf,n6,n7,fs,rV,c9,dz,xs,ay,rfl,Po,nM,adM,alk,qZ,alm,⟨c4,rfl,kR⟩,⟨cn,rfl,mv⟩,sf,Dd,qa,mX,CR,gP,nI,q⟩:=h;have afe:=cj.len xs sf;have aff:=cj.len ay Dd;have afh:rV.length=fs.length:=by rw[cj.len _ nM,cA]
 refine⟨_,(aI (ma iB.never I (mL I nb.kV (aj (b8 (xY I) I nb.zr ym (aj (b8 dx I nb.dr dv (aj (ab 1) az)) (aj (b8 dx I nb.dr dv (aj (ab 2) az)) az))) az)) (d5 (i:=3) Fw.bj I (by exact Or.inl rfl))
   (aI (bM 4 Fw.bj (bT oo aw (aj (bW bY (ab 0) (aO dX (ab 3) (b8 dx rfl nb.dr dv (aj (ab 0) az)))) (aj (bW bY (ab 1) (ab 3)) (aj (bW bY (ab 2) (ab 3)) az)))))
   (aJ (cw (b9 sx (ab 4) aC) (aJ (bt (ab 4))) cx))))
  (aJ (bt (aO gc (oE rD rfl nb.pa oN (aj (fM kz (b8 dx rfl nb.dr dv (aj (ab 1) az)) (b8 dx rfl nb.dr dv (aj (ab 2) az))) az)) (oE rD rfl nb.pa oN (aj (fM iV (b8 dx rfl nb.dr dv (aj (ab 1) az)) (b8 dx rfl nb.dr dv (aj (ab 2) az))) az)))))),?_⟩
 ac_rfl;refine⟨_,I,.ref c4,c9.length,I,tZ kR,_,I,.ref cn,dz.length,I,tZ mv,_,_,I,?_⟩;obtain⟨nV,alx,ack⟩:∃nV:Nat,nV=min c9.length dz.length/\(if((dz.length:Nat):Int)<((c9.length:Nat):Int)then((dz.length:Nat):Int)else((c9.length:Nat):Int))=((nV:Nat):Int):=⟨_,rfl,by split<;>lia⟩;refine⟨((nV:Nat):Int),by rw[ack],by lia,by lia,?_⟩;rw[show(((nV:Nat):Int)).toNat=nV by lia];refine qu (fun i U ao=>H=ao/\kb (zo fs) xs ay 0=kb (zo fs) (xs.drop i) (ay.drop i) i/\∃gS ro,U=[J (.ref lf),J (.ref c4),J (.ref cn),gS,ro]) ?_ ?_ ?_
 .exact⟨I,I,_,_,I⟩
 ·rintro i U ao aF ⟨rfl,he,gS,ro,rfl⟩;rw[Int.zero_add];have fE:i<xs.length:=by lia
  have eK:i<ay.length:=by lia
  obtain⟨oa,ex,abO⟩:=cj.ge xs sf (cI fE);obtain⟨Kg,nC,abS⟩:=cj.ge ay Dd (cI eK);have hm:i%fs.length<fs.length:=Nat.mod_lt _ adM;have aA:=cI hm;obtain⟨eN,acb,abJ⟩:=cj.ge (fs.map e4) nM (show(fs.map e4)[i%fs.length]?=J (e4 fs[i%fs.length]) by rw[eD,aA];rfl);obtain⟨q8,r7⟩:=vJ qZ aA;have qP:=Wd CR (cI fE);have em:((i:Nat):Int)%((rV.length:Nat):Int)=((i%fs.length:Nat):Int):=by rw[afh];exact(Int.natCast_emod ..).symm
  have acd:ed rV (((i:Nat):Int)%((rV.length:Nat):Int))=J eN:=by rw[em];exact cT acb
  have oS:zo fs i=dV fs[i%fs.length]:=xT fs _ _ aA;rw[nq fE,nq eK,kb,oS]at he;refine⟨_,I,_,I,_,I,.ref lf,rV.length,I,tZ (.inl Po),_,_,I,I,(by lia),xz Po acd ⟨_,I,_,I,wH kR ex ⟨_,I,_,I,wH mv nC ⟨eN,oa,Kg,fs[i%fs.length],xs[i],ay[i],I,abJ,q8,by lia,abO,abS,gP i _ _ aA (cI fE),nI i _ _ aA (cI eK),qP,?_⟩⟩⟩⟩;refine⟨_,I,I,_,I,?_⟩;by_cases z:dV fs[i%fs.length] xs[i] ay[i]=0
  ·rw[if_pos z]at he;rw[eT (by rw[z])];exact da ⟨I,he,_,_,I⟩
  ·rw[if_neg z]at he;rw[fL (fun e=>z (V.int.inj e))];refine eP ⟨_,I,H,.refl (c5 _),?_⟩;rw[<-he];exact q
 ·rintro U ao ⟨rfl,he,gS,ro,rfl⟩;refine⟨_,I,.ref c4,c9.length,I,tZ kR,_,I,.ref cn,dz.length,I,tZ mv,_,_,I,I,.inl (.inr ⟨_,I,_,I,.ref c4,c9.length,I,tZ kR,_,I,.ref cn,dz.length,I,tZ mv,.inl ⟨_,_,I,I,.inl (.inr ⟨_,I,_,_,I,I,H,.refl (c5 _),?_⟩)⟩⟩)⟩
  have eV:xs.drop nV=[]\/ay.drop nV=[]:=by
   rcases Nat.le_total xs.length ay.length with z|z
   .exact .inl (List.drop_eq_nil_of_le (by lia))
   .exact .inr (List.drop_eq_nil_of_le (by lia))
  rw[he,VW _ _ _ _ eV,ie,ie]at q;have aZ:sgn ((xs.length-nV:Nat):Int) ((ay.length-nV:Nat):Int)=sgn xs.length ay.length:=by unfold sgn;lia
  rw[aZ]at q;dsimp only;rw[afe,aff,Vu];exact q
def VX(g:bH):zo [g]=fun _=>dV g:=by
 funext i;show(iy [g]).getD (i%1) (fun _ _=>0)=dV g;rw[Nat.mod_one];exact xT [g] 0 g I
set_option tactic.hygienic true in
def MD{k:Fin 3}{g:bH}{a:D}(hk:k≠2)(h:dj H a v)(fa:bJ cy (.one k g) a=ah):∃c9 xs,(∃p,v=.ref p/\(H p=J (.lst c9)\/H p=J (.tup c9)))/\cj H xs c9/\items a=xs/\xs.length<=1000/\(∀n,dK a<=n->er xs<=n)/\∀x,x∈xs->bJ cy g x=ah:=by
 rw[bJ]at fa;rcases rS k with rfl|rfl|rfl
 ·replace fa:nT (bJ cy g) a=ah:=fa
  unfold nT at fa;split at fa
  ·obtain⟨t,vs,rfl,e,hd,aB⟩:=h;exact⟨vs,[],⟨t,I,.inr e⟩,hd,I,UF _,fun n _=>by rw[er];lia,fun x aq=>nomatch aq⟩
  ·obtain⟨t,vs,rfl,e,hd,aB⟩:=h;exact⟨vs,_,⟨t,I,.inr e⟩,hd,I,by simp,fun n h=>by rw[dK]at h;lia,fun y aW=>by rw[ft.mp aW];exact fa⟩
  .cases fa
 ·replace fa:t5 (bJ cy g) a=ah:=fa
  cases a<;>first|cases fa|skip
  rename_i xs
  replace fa:(decide (xs.length<=60)&&xs.all (bJ cy g))=ah:=fa
  rw[g4,ig,kn]at fa;obtain⟨t,vs,rfl,e,hd,aB⟩:=h;exact⟨vs,xs,⟨t,I,.inl e⟩,hd,I,by lia,fun n h=>by rw[dK]at h;lia,fa.2⟩
 .exact absurd I hk
def xZ(m n:Int):(if decide (n<m)=ah then(1:Int)else 0)-(if decide (m<n)=ah then 1 else 0)=sgn m n:=by unfold sgn;simp only[kn]
set_option tactic.hygienic true in
def XY(nb:dn mg)(F:dD K mg "_law_order" Bp ["_law_form_here","_law_one","_law_other"] f fd)(Kz:aY P w K mg zn (2*d+5) "_law_listed" ["_law_forms","_law_one","_law_other"] (Rj d))
  (oo:aY P w K mg zn (2*d+4) "_law_order" ["_law_form_here","_law_one","_law_other"] (Rw d)):aY P w K mg zn (2*d+6) "_law_order" ["_law_form_here","_law_one","_law_other"] (Rw (d+1)):=by show_term
 refine F.eg pP (fun H vs Q E aw h=>?_);obtain⟨eN,n6,n7,g,a,b,rfl,bR,aP,dq,aM,ag,fa,hE,qP,q⟩:=h
 refine xg _ (aI (bM 3 pP.bj (bW bY (ab 0) aC))
  (aI (cw (b9 c6 (ab 3) cY) (aJ (bt aC)) cx)
  (aI (cw (b9 c6 (ab 3) cY) (aJ (bt (aO gc aC (bT oo aw (aj (bW bY (ab 0) aC) (aj (ab 1) (aj (ab 2) az))))))) cx)
  (aI (cw (gK.pt (lL (b9 c6 (ab 3) cY) (l9 (b9 c6 (ab 3) cY)))) (aJ (bt (bT Kz aw (aj (hB (aj (bW bY (ab 0) aC) az)) (aj (ab 1) (aj (ab 2) az)))))) cx)
  (aI (cw (b9 c6 (ab 3) cY) (aJ (bt (bT Kz aw (aj (hO ["_law_name","_law_inner"] [] rfl ⋯ trivial (h4 (bW bY (ab 0) aC)) (oM rfl (jk (d5 (i:=0) (show(["_law_name","_law_inner"]:List ae).Nodup by decide+kernel)) (jk (d5 (i:=1) (show(["_law_name","_law_inner"]:List ae).Nodup by decide+kernel)) oy))) gs (ab 1)) (aj (ab 1) (aj (ab 2) az)))))) cx)
  (aI (cw (b9 c6 (ab 3) cY) (aI (pR (i:=4)  ["_law_name","_law_inner"] [] pP.bj rfl rfl rfl ⋯ trivial (h4 (bW bY (ab 0) aC)) (oM rfl (jk (d5 (i:=0) (show(["_law_name","_law_inner"]:List ae).Nodup by decide+kernel)) (jk (d5 (i:=1) (show(["_law_name","_law_inner"]:List ae).Nodup by decide+kernel)) oy))) gs (ab 0))
   (aI (cw (b9 c6 (bW bY (ab 1) aC) (bW bY (ab 2) aC)) (aJ (bt (bT oo aw (aj (bW bY (bW bY (bW bY (ab 0) aC) (hZ PySem.F.plainAttrs_list PySem.F.slot_list_index PySem.F.type_list_index xU (ab 4) (aj (bW bY (ab 1) aC) az))) aC) (aj (bW bY (ab 1) aC) (aj (bW bY (ab 2) aC) az)))))) cx)
   (aI (bM 1 pP.bj (hZ PySem.F.plainAttrs_list PySem.F.slot_list_index PySem.F.type_list_index xU (ab 4) (aj (bW bY (ab 1) aC) az)))
   (aJ (bM 2 pP.bj (hZ PySem.F.plainAttrs_list PySem.F.slot_list_index PySem.F.type_list_index xU (ab 4) (aj (bW bY (ab 2) aC) az))))))) cx)
  (aI (cw (b9 c6 (ab 3) cY) (aI (bM 5 pP.bj (bW bY (ab 1) aC))
   (aI (bM 1 pP.bj (aO Ha (bW bY (ab 1) aC) (bW bY (ab 2) aC)))
   (aJ (bM 2 pP.bj (aO Ha (bW bY (ab 2) aC) (ab 5)))))) cx)
  (aI (cw (b9 c6 (ab 3) cY) (aI (pR (i:=1)  ["_law_sign"] [(0,"_law_form_here")] pP.bj rfl rfl rfl ⋯ ⟨rfl,.inl rfl,trivial⟩ (h4 (ab 1)) (d5 (i:=0) (show(["_law_sign","_law_form_here"]:List ae).Nodup by decide+kernel)) gs (hZ PySem.F.plainAttrs_str PySem.F.slot_str_index PySem.F.type_str_index Go (bW bY (ab 1) aC) (aj (ab 0) az)))
   (aJ (pR (i:=2)  ["_law_sign"] [(0,"_law_form_here")] pP.bj rfl rfl rfl ⋯ ⟨rfl,.inl rfl,trivial⟩ (h4 (ab 2)) (d5 (i:=0) (show(["_law_sign","_law_form_here"]:List ae).Nodup by decide+kernel)) gs (hZ PySem.F.plainAttrs_str PySem.F.slot_str_index PySem.F.type_str_index Go (bW bY (ab 1) aC) (aj (ab 0) az))))) cx)
  (aJ (bt (aO gc (oE rD rfl nb.pa oN (aj (fM (agl (DC aw)) (ab 1) (ab 2)) az)) (oE rD rfl nb.pa oN (aj (fM (ago (DC aw)) (ab 1) (ab 2)) az))))))))))))) fun G ew eH go=>?_
 try dsimp only[cN,cO,cP,cQ]at go
 have a0:∀(x:V)(r:List V),ed (x::r) 0=J x:=fun x r=>cT (j:=0) rfl;have a1:∀(x y:V)(r:List V),ed (x::y::r) 1=J y:=fun x y r=>cT (j:=1) rfl;cases g with
 | bare k =>
  rw[e4]at bR;rw[bJ]at fa hE;rw[dV]at q;obtain⟨T,_,rfl,e,⟨_,_,rfl,⟨rfl,_⟩,rfl⟩,_⟩:=bR;clear qP;rcases v5 k with rfl|rfl|rfl|rfl
  ·skip;subst eH;refine go (h6 I e ?_);exact kl I fun N=>⟨H,.refl (c5 _),q⟩
  ·cases a<;>first|cases fa|skip
   rename_i x;cases b<;>first|cases hE|skip
   rename_i y;obtain rfl:n6=.aK x:=aM;obtain rfl:n7=.aK y:=ag;subst eH;refine go (h6 I e ?_)
   iterate 2 refine fu I ⋯ ?_
   refine uA I ⋯ ⋯ ?_
   iterate 4 refine fu I ⋯ ?_
   refine⟨_,I,_,I,.inr ⟨_,_,I,I,.inl (.inr ⟨_,I,_,I,_,I,.inr ⟨_,_,I,I,.inl (.inr ⟨_,I,_,_,I,I,H,.refl (c5 _),?_⟩)⟩⟩)⟩⟩;dsimp only;rw[xZ];exact q
  ·cases a<;>first|cases fa|skip
   rename_i x;cases b<;>first|cases hE|skip
   rename_i y;obtain rfl:n6=.int x:=aM;obtain rfl:n7=.int y:=ag;subst eH;refine go (h6 I e ?_)
   iterate 2 refine fu I ⋯ ?_
   refine uA I ⋯ ⋯ ?_
   iterate 4 refine fu I ⋯ ?_
   refine⟨_,I,_,I,.inl (.inl ⟨_,_,I,I,.inl (.inr ⟨_,I,_,I,_,I,.inl (.inl (.inl ⟨_,_,I,I,.inl (.inr ⟨_,I,_,_,I,I,H,.refl (c5 _),?_⟩)⟩))⟩)⟩)⟩;dsimp only;rw[xZ];exact q
  ·replace fa:cy a=ah:=fa
   replace hE:cy b=ah:=hE
   unfold cy at fa hE;split at fa
   ·rename_i c4 ck;split at hE
    ·rename_i cn b1;obtain⟨t1,_,rfl,aL,⟨_,_,rfl,rfl,_,_,rfl,rfl,rfl⟩,_⟩:=aM;obtain⟨hb,_,rfl,aS,⟨_,_,rfl,rfl,_,_,rfl,rfl,rfl⟩,_⟩:=ag;have fa:=hX fa;have hE:=hX hE;have ac8:(10:Nat)^38<2^200:=⋯;have Ce:∀{x:Int},x.natAbs<=10^38->de.Int.intBits x<=2^20:=fun{x}h=>dF (N7 (k:=200) (show x.natAbs<2^200 by lia)) (by decide);subst eH;refine go (h6 I e ?_)
     iterate 2 refine fu I ⋯ ?_
     refine uA I ⋯ ⋯ ?_
     iterate 2 refine fu I ⋯ ?_
     refine J8 I fun N bP=>⟨_,I,x0 aL (a1 _ _ _) ⟨_,I,x0 aL (a0 _ _) ⟨_,I,x0 aS (a1 _ _ _) ⟨_,_,I,I,⟨Ce fa.2.2.1,Ce (by lia)⟩,?_⟩⟩⟩⟩;refine⟨_,I,x0 aS (a0 _ _) ⟨_,I,_,_,I,I,⟨Ce hE.2.2.1,Ce (by lia)⟩,bP _ _ ?_⟩⟩;refine fu I ⋯ ?_;refine⟨_,I,_,I,.inl (.inl ⟨_,_,I,I,.inl (.inr ⟨_,I,_,I,_,I,.inl (.inl (.inl ⟨_,_,I,I,.inl (.inr ⟨_,I,_,_,I,I,H,.refl (c5 _),?_⟩)⟩))⟩)⟩)⟩;dsimp only;rw[xZ];exact q
    .cases hE
   .cases fa
 |sp lo aF =>
  rw[e4]at bR;rw[bJ]at fa hE;rw[dV]at q;obtain⟨T,_,rfl,e,⟨_,_,rfl,⟨rfl,_⟩,_,_,rfl,rfl,_,_,rfl,rfl,rfl⟩,_⟩:=bR;clear qP;cases a<;>first|cases fa|skip
  rename_i x;cases b<;>first|cases hE|skip
  rename_i y;obtain rfl:n6=.int x:=aM;obtain rfl:n7=.int y:=ag;subst eH;refine go (h6 I e ?_)
  iterate 2 refine fu I ⋯ ?_
  refine uA I ⋯ ⋯ ?_
  iterate 4 refine fu I ⋯ ?_
  refine⟨_,I,_,I,.inl (.inl ⟨_,_,I,I,.inl (.inr ⟨_,I,_,I,_,I,.inl (.inl (.inl ⟨_,_,I,I,.inl (.inr ⟨_,I,_,_,I,I,H,.refl (c5 _),?_⟩)⟩))⟩)⟩)⟩;dsimp only;rw[xZ];exact q
 | le cu =>
  rw[e4]at bR;rw[bJ]at fa hE;rw[dV]at q;obtain⟨T,_,rfl,e,⟨_,_,rfl,⟨rfl,_⟩,_,_,rfl,⟨rfl,tU⟩,rfl⟩,_⟩:=bR;clear qP;cases a<;>first|cases fa|skip
  rename_i x;cases b<;>first|cases hE|skip
  rename_i y
  replace fa:(decide (x.length<=200)&&js x cu)=ah:=fa
  replace hE:(decide (y.length<=200)&&js y cu)=ah:=hE
  rw[g4,kn]at fa hE;obtain⟨rfl,_⟩:=aM;obtain⟨rfl,_⟩:=ag;subst eH;refine go (h6 I e ?_)
  iterate 2 refine fu I ⋯ ?_
  refine uA I ⋯ ⋯ ?_
  iterate 3 refine fu I ⋯ ?_
  refine J8 I fun N bP=>?_;refine .inr ⟨_,I,_,I,fun c3 ec=>?_⟩;refine BW (fun c=>V.int ((cu.cps.toList.idxOf c:Nat):Int)) (fun U=>∃z,U=[z,J (.ref T)]) (fC (by show x.length<=_;lia)) ⟨_,I⟩ ec ?_ ?_
  ·rintro ch hc bE H1 ⟨z,rfl⟩ eo R bN;refine⟨_,I,x0 (eo _ _ e) (a1 _ _ _) ⟨I,_,I,cu,ch,I,I,hX (ig.mp fa.2 ch hc),bN _ ⟨_,I⟩⟩⟩
  have eX:=cE (o:=cX.lst (x.cps.toList.map fun c=>V.int ((cu.cps.toList.idxOf c:Nat):Int))) ec;have g1:upd H c3 (.lst (x.cps.toList.map fun c=>V.int ((cu.cps.toList.idxOf c:Nat):Int))) c3=_:=aG;generalize upd H c3 (.lst (x.cps.toList.map fun c=>V.int ((cu.cps.toList.idxOf c:Nat):Int)))=H1 at eX g1 ⊢;refine .inr ⟨_,I,_,I,fun gC hR=>?_⟩;refine BW (fun c=>V.int ((cu.cps.toList.idxOf c:Nat):Int)) (fun U=>∃z,U=[z,J (.ref T)]) (fC (by show y.length<=_;lia)) ⟨_,I⟩ hR ?_ ?_
  ·rintro ch hc bE ao ⟨z,rfl⟩ eo R bN;refine⟨_,I,x0 (eo _ _ (eX _ _ e)) (a1 _ _ _) ⟨I,_,I,cu,ch,I,I,hX (ig.mp hE.2 ch hc),bN _ ⟨_,I⟩⟩⟩
  have d7:=cE (o:=cX.lst (y.cps.toList.map fun c=>V.int ((cu.cps.toList.idxOf c:Nat):Int))) hR;have g2:upd H1 gC (.lst (y.cps.toList.map fun c=>V.int ((cu.cps.toList.idxOf c:Nat):Int))) gC=_:=aG;have g1:=d7 _ _ g1;generalize upd H1 gC (.lst (y.cps.toList.map fun c=>V.int ((cu.cps.toList.idxOf c:Nat):Int)))=ao at d7 g1 g2 ⊢;have fk:∀t:ae,(t.cps.toList.map fun c=>V.int ((cu.cps.toList.idxOf c:Nat):Int))=(o8 cu t).map V.int:=fun t=>by unfold o8;rw[gg];rfl
  rw[fk]at g1 g2;refine bP _ _ ?_;exact⟨_,I,_,I,.inl (.inr ⟨_,_,_,_,I,I,ba g1,ba g2,.inl (.inr ⟨_,I,_,I,_,I,.inl (.inr ⟨_,_,_,_,I,I,ba g1,ba g2,.inl (.inr ⟨_,I,_,_,I,I,H,.refl (eX.trans d7),q⟩)⟩)⟩)⟩)⟩
 | one k g =>
  rw[e4]at bR;rw[fz]at aP;rw[bc]at dq;obtain⟨T,_,rfl,e,⟨_,_,rfl,⟨rfl,_⟩,gH,_,rfl,hd,rfl⟩,_⟩:=bR;by_cases hk:k=2
  ·subst hk;rw[dV,if_pos rfl]at q;rw[bJ]at fa hE;subst eH;refine go (h6 I e ?_);refine fu I ⋯ ?_;exact kl I fun N=>⟨_,I,x0 e (a1 _ _ _) ⟨_,I,_,I,gH,n6,n7,g,a,b,I,hd,aP,by lia,aM,ag,fa,hE,qP,_,_,rfl,rfl,H,.refl (c5 _),q⟩⟩
  ·obtain⟨c9,xs,kR,hC,kE,e0,iT,f1⟩:=MD hk aM fa;obtain⟨dz,ay,mv,iq,fj,dS,jS,f2⟩:=MD hk ag hE;rw[dV,if_neg hk,<-VX g,kE,fj]at q;have yD:∀{i:Nat}{f:bH},[g][i%1]?=J f->f=g:=fun{i f}h=>by rw[Nat.mod_one]at h;exact(gq h).symm
   have dp:∀c3,H c3=ax->Rj d [.ref c3,n6,n7] (upd H c3 (.lst [gH])) (fun v H'=>kH H H' (Q v)) jx:=fun c3 ec=>by
    have eX:=cE (o:=cX.lst [gH]) ec;obtain⟨c4,rfl,aL⟩:=kR;obtain⟨cn,rfl,aS⟩:=mv;exact⟨c3,.ref c4,.ref cn,[g],[gH],c9,dz,xs,ay,I,aG,⟨gH,[],I,dj.same eX _ hd,I⟩,Nat.one_pos,(by show 1<=20;decide),(by rw[h3,h3];exact⟨aP,trivial⟩),(by rw[gV,gV];lia),⟨c4,I,aL.imp (eX _ _) (eX _ _)⟩,⟨cn,I,aS.imp (eX _ _) (eX _ _)⟩,cj.same eX _ hC,cj.same eX _ iq,e0,dS,iT _ qP,(fun i f x aA aq=>by rw[yD aA];exact f1 x (eY aq)),(fun i f x aA aq=>by rw[yD aA];exact f2 x (eY aq)),H,.refl eX,q⟩
   rcases rS k with rfl|rfl|rfl
   ·skip;subst eH;refine go (h6 I e ?_)
    iterate 2 refine fu I ⋯ ?_
    exact Sp I (.inl I) fun N=>⟨_,I,x0 e (a1 _ _ _) ⟨B9,fun c3 ec=>⟨_,I,_,I,dp c3 ec⟩⟩⟩
   ·skip;subst eH;refine go (h6 I e ?_)
    iterate 2 refine fu I ⋯ ?_
    exact Sp I (.inr I) fun N=>⟨_,I,x0 e (a1 _ _ _) ⟨B9,fun c3 ec=>⟨_,I,_,I,dp c3 ec⟩⟩⟩
   .exact absurd I hk
 | two k ns fs =>
  have bR:=dj.ak _ bR;rw[e4]at bR;rw[fz]at aP;rw[bc]at dq;obtain⟨h2,c1,qZ⟩:=aP;obtain⟨T,_,rfl,_,e,⟨_,_,rfl,⟨rfl,_⟩,_,_,rfl,⟨l,lh,rfl,_,h1,eB,Pk⟩,rfl⟩,_⟩:=bR;have jR:lh.length=fs.length:=by rw[cj.len _ (bx.at _ eB),vL]
  have p7:0<fs.length/\fs.length<=20:=by
   have h:=h2;unfold lP at h;simp only[g4,kn]at h;lia
  rcases tC k with rfl|rfl
  ·rw[bJ,if_pos rfl]at fa hE;rw[dV,if_pos rfl]at q;obtain⟨xs,rfl⟩:∃xs,a=.tup xs:=by cases a<;>first|cases fa|exact⟨_,I⟩
   obtain⟨ay,rfl⟩:∃ay,b=.tup ay:=by cases b<;>first|cases hE|exact⟨_,I⟩
   obtain⟨alV,gP⟩:=yd (show eL cy fs xs=ah from fa);obtain⟨ln2,nI⟩:=yd (show eL cy fs ay=ah from hE);obtain⟨t1,c9,rfl,aL,sf,_⟩:=aM;obtain⟨hb,dz,rfl,aS,Dd,_⟩:=ag;rw[dK]at qP;subst eH;refine go (h6 I e ?_)
   iterate 2 refine fu I ⋯ ?_
   refine uA I ⋯ ⋯ ?_;refine kl I fun N=>?_;refine .inl ⟨_,I,x0 e (a1 _ _ _) ⟨l,I,⟨_,ba h1⟩,fun c3 ec=>?_⟩⟩;have rH:=cE (o:=cX.lst []) ec;refine qF (K:=K) (a:=l) (xs:=lh) (fun i ay ao=>dY H ao/\bx [] H ((fs.take i).map e4) ay) (fun U=>∃di dg,U=[di,dg]) (by lia) ⟨_,_,I⟩ ?_ ⟨rH,I⟩ ?_ ?_
   ·rintro i ay ao ⟨d7,_⟩;exact ba (d7 _ _ h1)
   ·rintro i x aq vs bE ao ⟨di,dg,rfl⟩ ⟨d7,r6⟩ hS jr R bN;obtain⟨g,nm,fU,gH,bb,lb,rfl,_,oR,hd⟩:=ti fs ns c1 eB aq;refine⟨_,_,I,cC (d7 _ _ oR),I,_,_,I,_,_,I,I,?_⟩;refine⟨_,I,bN _ _ _ ⟨_,_,I⟩ hS ⟨fun b u eG=>by rw[bC (fe eG ec)];exact d7 _ _ eG,?_⟩⟩;rw[iG,bb,fP];exact bx.snoc hd _ r6
   ·rintro vs ao jr hR ⟨d7,r6⟩;rw[jR,UV (cp _)]at r6;have PY:∀{i:Nat},i<fs.length->i%fs.length=i:=fun h=>Nat.mod_eq_of_lt h;have bd:∀{α:Type}{ds:List α}{i:Nat}{x:α},ds[i]?=J x->i<ds.length:=fun h=>(gr.mp h).1;exact⟨_,I,_,I,c3,.ref t1,.ref hb,fs,vs,c9,dz,xs,ay,I,hR,cj.same d7 _ (bx.at _ r6),p7.1,p7.2,qZ,by lia,⟨t1,rfl,.inr (d7 _ _ aL)⟩,⟨hb,rfl,.inr (d7 _ _ aS)⟩,cj.same d7 _ sf,cj.same d7 _ Dd,by lia,by lia,by lia,(fun i f x aA aq=>gP i f x (by rw[PY (by have:=bd aq;lia)]at aA;exact aA) aq),(fun i f x aA aq=>nI i f x (by rw[PY (by have:=bd aq;lia)]at aA;exact aA) aq),H,.refl d7,q⟩
  ·rw[bJ,if_neg (by decide)]at fa hE
   have ex:∀{d:D}{v:V},ts (jC cy fs ns) d=ah->dj H d v->∃t m x oa,v=.ref t/\d=.tup [.str m,x]/\H t=J (.tup [.str m,oa])/\dj H x oa/\m∈ns/\bJ cy (fs.getD (ns.idxOf m) (.bare 0)) x=ah:=fun{d v}ai ar=>by
    unfold ts at ai;split at ai
    ·obtain⟨t,_,rfl,e,⟨_,_,rfl,⟨rfl,_⟩,oa,_,rfl,aq,rfl⟩,_⟩:=ar;have hm:=rM fs ns _ _ c1 ai;rw[rN fs ns _ hm c1]at ai;exact⟨t,_,_,oa,I,I,e,aq,hm,ai⟩
    .cases ai
   obtain⟨t1,fy,x,oa,rfl,rfl,aL,aq,CV,gP⟩:=ex fa aM;obtain⟨hb,kT,y,Kg,rfl,rfl,aS,aW,o4,nI⟩:=ex hE ag;rw[dK,er,er,er,dK]at qP
   have pb:∀{m:ae},m∈ns->ns[ns.idxOf m]?=J m/\(∀j,j<ns.idxOf m->ns[j]?≠J m)/\ns.idxOf m<fs.length:=fun{m}hm=>by
    have hk:=oD hm;refine⟨?_,fun j b0 hw=>?_,by rw[<-c1];exact hk⟩
    .rw[cI hk,List.getElem_idxOf hk]
    ·have:=xE h2 hw;lia
   obtain⟨dC,cW,aeT⟩:=pb CV;obtain⟨De,zg,alN⟩:=pb o4;rw[dV,if_neg (by decide)]at q
   replace q:Q (.int (if fy=kT then(iy fs).getD (ns.idxOf fy) (fun _ _=>0) x y else sgn (ns.idxOf fy) (ns.idxOf kT))) H:=q
   subst eH;refine go (h6 I e ?_)
   iterate 2 refine fu I ⋯ ?_
   refine uA I ⋯ ⋯ ?_;refine fu I ⋯ ?_;refine J8 I fun N bP=>?_;refine .inl ⟨_,I,x0 e (a1 _ _ _) ⟨l,I,⟨_,ba h1⟩,fun c3 ec=>?_⟩⟩;have rH:=cE (o:=cX.lst []) ec;refine qF (K:=K) (a:=l) (xs:=lh) (fun i ay ao=>dY H ao/\ay=(ns.take i).map V.str) (fun U=>∃di dg,U=[di,dg]) (by lia) ⟨_,_,I⟩ ?_ ⟨rH,I⟩ ?_ ?_
   ·rintro i ay ao ⟨d7,_⟩;exact ba (d7 _ _ h1)
   ·rintro i x aq vs bE ao ⟨di,dg,rfl⟩ ⟨d7,q5⟩ hS jr R bN;obtain⟨g,nm,fU,gH,bb,lb,rfl,_,oR,hd⟩:=ti fs ns c1 eB aq;refine⟨_,_,I,cC (d7 _ _ oR),I,_,_,I,_,_,I,I,?_⟩;refine⟨_,I,bN _ _ _ ⟨_,_,I⟩ hS ⟨fun b u eG=>by rw[bC (fe eG ec)];exact d7 _ _ eG,?_⟩⟩;rw[iG,lb,fP,q5];rfl
   ·rintro vs ao jr hR ⟨d7,q5⟩;rw[jR,<-c1,UV (cp _)]at q5;subst q5;refine⟨_,I,x0 (d7 _ _ aL) (a0 _ _) ⟨_,I,x0 (d7 _ _ aS) (a0 _ _) ⟨I,_,I,?_⟩⟩⟩;by_cases z:fy=kT
    ·subst z;rw[if_pos rfl]at q;have aA:=cI aeT;rw[eJ,aA]at gP nI;obtain⟨q8,r7⟩:=vJ qZ aA;rw[xT fs _ _ aA]at q;rw[eT rfl];refine eP ?_;obtain⟨DZ,wF⟩:∃DZ,lh[ns.idxOf fy]?=J DZ:=⟨_,cI (by lia)⟩;obtain⟨g,nm,fU,gH,bb,lb,rfl,_,oR,hd⟩:=ti fs ns c1 eB wF;rw[aA]at bb;obtain rfl:=gq bb;exact⟨_,I,x0 (d7 _ _ e) (a1 _ _ _) ⟨_,I,.inl ⟨I,_,ba hR⟩,_,I,x0 (d7 _ _ aL) (a0 _ _) ⟨c3,ns,fy,ns.idxOf fy,I,I,hR,dC,cW,by lia,xz (d7 _ _ h1) (cT wF) (x0 (d7 _ _ oR) (a1 _ _ _) ⟨_,rfl,x0 (d7 _ _ aL) (a1 _ _ _) ⟨_,rfl,x0 (d7 _ _ aS) (a1 _ _ _) ⟨gH,oa,Kg,_,x,y,rfl,dj.same d7 _ (b5.at _ hd),q8,by lia,dj.same d7 _ aq,dj.same d7 _ aW,gP,nI,by lia,H,.refl d7,q⟩⟩⟩)⟩⟩⟩
    ·rw[if_neg z]at q;rw[fL (fun e=>z (V.str.inj e))];refine da ⟨_,I,.inl ⟨I,_,ba hR⟩,_,I,x0 (d7 _ _ aL) (a0 _ _) ⟨c3,ns,fy,ns.idxOf fy,I,I,hR,dC,cW,by lia,_,rfl,.inl ⟨rfl,_,ba hR⟩,_,rfl,x0 (d7 _ _ aS) (a0 _ _) ⟨c3,ns,kT,ns.idxOf kT,rfl,rfl,hR,De,zg,by lia,bP _ _ ?_⟩⟩⟩
     iterate 2 refine fu I ⋯ ?_
     refine⟨_,I,_,I,.inl (.inl ⟨_,_,I,I,.inl (.inr ⟨_,I,_,I,_,I,.inl (.inl (.inl ⟨_,_,I,I,.inl (.inr ⟨_,I,_,_,I,I,H,.refl d7,?_⟩)⟩))⟩)⟩)⟩;dsimp only;rw[xZ];exact q
inductive RO(d:Nat)(vs:List V)(H:al)(Q:bI)(E:cB):Prop where
 |mk (v1 v2:V) (iL:D) (aX:vs=[v1,v2]) (ai:dj H iL v1) (ar:dj H iL v2) (bz:dK iL<=d) (c0:Q (.aK ah) H)
theorem nA:∀(ds:List D){d:D},d∈ds->dK d<=er ds
 |[],d,h=>nomatch h
 |e::ds,d,h=>by
  rw[er];rcases dd.mp h with rfl|h
  .omega
  .have:=nA ds h;lia
def Yl(nb:dn mg)(F:dD K mg "_law_same" Bx ["_law_found","_law_due"] f fd)(l4:aY P w K mg zn (d+1) "_law_same" ["_law_found","_law_due"] (RO d)):aY P w K mg zn (d+1+1) "_law_same" ["_law_found","_law_due"] (RO (d+1)):=by show_term
 refine F.eg Zr (fun H vs Q E aw h=>?_);obtain⟨v1,v2,iL,rfl,ai,ar,qW,q⟩:=h
 refine xg _ (aI (cw (b9 B8 (ab 1) pV) (aJ (bt (fM B8 (ab 0) pV))) cx)
  (aI (cw (f6 (b8 i0 rfl nb.iR iH (aj (ab 1) (aj (iv (v :=.ty "bool") rfl nb.yq Zip rfl) az)))) (aJ (bt (il (b8 i0 rfl nb.iR iH (aj (ab 0) (aj (iv (v :=.ty "bool") rfl nb.yq Zip rfl) az))) (jB (fM c6 (ab 0) (ab 1)))))) cx)
  (aI (cw (f6 (b8 i0 rfl nb.iR iH (aj (ab 1) (aj (iv (v :=.ty "int") rfl nb.pa oN rfl) az)))) (aJ (bt (il (b8 i0 rfl nb.iR iH (aj (ab 0) (aj (iv (v :=.ty "int") rfl nb.pa oN rfl) az))) (il (B1 (b8 i0 rfl nb.iR iH (aj (ab 0) (aj (iv (v :=.ty "bool") rfl nb.yq Zip rfl) az)))) (jB (fM c6 (ab 0) (ab 1))))))) cx)
  (aI (cw (f6 (b8 i0 rfl nb.iR iH (aj (ab 1) (aj (iv (v :=.ty "str") rfl nb.J1 Hq rfl) az)))) (aJ (bt (il (b8 i0 rfl nb.iR iH (aj (ab 0) (aj (iv (v :=.ty "str") rfl nb.J1 Hq rfl) az))) (jB (fM c6 (ab 0) (ab 1)))))) cx)
  (aI (cw (gK.pt (lL (gK.pt (oL (f6 (b8 i0 rfl nb.iR iH (aj (ab 1) (aj (iv (v :=.ty "tuple") rfl nb.pz oG rfl) az)))) (pS (iJ (f6 (b8 i0 rfl nb.iR iH (aj (ab 0) (aj (iv (v :=.ty "tuple") rfl nb.pz oG rfl) az)))))))) (l9 (gK.pt (oL (f6 (b8 i0 rfl nb.iR iH (aj (ab 1) (aj (iv (v :=.ty "list") rfl nb.wO vO rfl) az)))) (pS (iJ (f6 (b8 i0 rfl nb.iR iH (aj (ab 0) (aj (iv (v :=.ty "list") rfl nb.wO vO rfl) az))))))))))) (aJ (bt jf)) cx)
  (aI (cw (b9 sx (b8 dx rfl nb.dr dv (aj (ab 0) az)) (b8 dx rfl nb.dr dv (aj (ab 1) az))) (aJ (bt jf)) cx)
  (aJ (bt (fM c6 (b8 dx rfl nb.dr dv (aj (hO ["_law_k"] [(0,"_law_found"),(1,"_law_due")] rfl ⋯ ⟨rfl,.inl rfl,rfl,.inl rfl,trivial⟩ (mL rfl nb.kV (aj (b8 dx rfl nb.dr dv (aj (ab 1) az)) az)) (d5 (i:=0) (show(["_law_k","_law_found","_law_due"]:List ae).Nodup by decide+kernel)) (G7 (iJ (f6 (bT l4 aw (aj (bW bY (ab 1) (ab 0)) (aj (bW bY (ab 2) (ab 0)) az)))))) (ab 0)) az)) aC))))))))) fun G ew eH go=>?_
 try dsimp only[cN,cO,cP,cQ]at go
 have rn:=ai.ty (K:=K);have kF:=ar.ty (K:=K);have dp:kH H H (Q (.aK ah)):=⟨H,.refl (c5 _),q⟩;cases iL with
 |bf =>
  obtain rfl:v1=.bf:=ai;obtain rfl:v2=.bf:=ar;subst eH;exact go ⟨_,I,I,_,I,hU I ⟨_,I,I,dp⟩⟩
 |aK b =>
  obtain rfl:v1=.aK b:=ai;obtain rfl:v2=.aK b:=ar;subst eH;refine go ⟨_,I,I,_,I,fh (fun z=>nomatch z) ?_⟩;refine⟨_,I,.inl ⟨_,_,_,_,I,kF,ek K _ (by decide),_,I,eP ?_⟩⟩;refine⟨_,I,.inl ⟨_,_,_,_,I,rn,ek K _ (by decide),?_⟩⟩;refine⟨ah,I,eP ⟨_,I,_,I,I,?_⟩⟩;rw[eT rfl];exact dp
 |int i =>
  obtain rfl:v1=.int i:=ai;obtain rfl:v2=.int i:=ar;subst eH;refine go ⟨_,I,I,_,I,fh (fun z=>nomatch z) ?_⟩;refine⟨_,I,.inl ⟨_,_,_,_,I,kF,ek K _ (by decide),_,I,da ?_⟩⟩;refine⟨_,I,.inl ⟨_,_,_,_,I,kF,ek K _ (by decide),_,I,eP ?_⟩⟩;refine⟨_,I,.inl ⟨_,_,_,_,I,rn,ek K _ (by decide),ah,I,eP ?_⟩⟩;refine⟨_,I,.inl ⟨_,_,_,_,I,rn,ek K _ (by decide),?_⟩⟩;refine⟨aE,I,ah,I,eP ⟨_,I,_,I,I,?_⟩⟩;rw[eT rfl];exact dp
 |str t =>
  obtain⟨rfl,_⟩:=ai;obtain⟨rfl,_⟩:=ar;subst eH;refine go ⟨_,I,I,_,I,fh (fun z=>nomatch z) ?_⟩;refine⟨_,I,.inl ⟨_,_,_,_,I,kF,ek K _ (by decide),_,I,da ?_⟩⟩;refine⟨_,I,.inl ⟨_,_,_,_,I,kF,ek K _ (by decide),_,I,da ?_⟩⟩;refine⟨_,I,.inl ⟨_,_,_,_,I,kF,ek K _ (by decide),_,I,eP ?_⟩⟩;refine⟨_,I,.inl ⟨_,_,_,_,I,rn,ek K _ (by decide),ah,I,eP ⟨_,I,_,I,I,?_⟩⟩⟩;rw[eT rfl];exact dp
 | tup ds =>
  obtain⟨c4,lu,rfl,aL,ku,c9⟩:=ai;obtain⟨cn,gX,rfl,aS,dH,dz⟩:=ar;subst eH;refine go ⟨_,I,I,_,I,fh (fun z=>nomatch z) ?_⟩
  iterate 3 refine⟨_,I,.inl ⟨_,_,_,_,I,kF,ek K _ (by decide),_,I,da ?_⟩⟩
  refine⟨_,I,.inl ⟨_,_,_,_,I,kF,ek K _ (by decide),_,I,eP ?_⟩⟩;refine⟨_,I,.inl ⟨_,_,_,_,I,rn,ek K _ (by decide),?_⟩⟩;refine⟨ah,I,da ⟨_,I,.inl ⟨_,_,_,_,I,kF,ek K _ (by decide),_,I,da (da ?_)⟩⟩⟩;have e0:=cj.len ds ku;have dS:=cj.len ds dH;rw[dK]at qW;refine⟨_,I,_,_,I,.inr ⟨_,cC aL,I⟩,_,I,_,_,I,.inr ⟨_,cC aS,I⟩,I,_,I,ze (by rw[e0,dS]) ?_⟩;refine⟨_,I,_,_,I,.inr ⟨_,cC aS,I⟩,_,I,by lia,by lia,fun c3 ec=>?_⟩;rw[show(((gX.length:Nat):Int)).toNat=gX.length by lia];refine Ga (fun _=>aE) (fun i =>.int (i:Nat)) (fun U=>∃z,U=[z,J (.ref c4),J (.ref cn)]) (by lia) ⟨_,I⟩ ec ?_ ?_
  ·rintro i aF bE H1 ⟨z,rfl⟩ eo R jz bN;obtain⟨kE,lU⟩:∃x,lu[i]?=J x:=⟨_,cI (by lia)⟩;obtain⟨fj,qc⟩:∃x,gX[i]?=J x:=⟨_,cI aF⟩;obtain⟨j6,mm,yY⟩:=cj.get ds ku lU;obtain⟨abL,yP,o2⟩:=cj.get ds dH qc;rw[mm]at yP;obtain rfl:=gq yP;have hm:=nA ds (eY mm);refine⟨_,I,_,I,x0 (eo _ _ aL) (by rw[Int.zero_add];exact cT lU) ⟨_,I,_,I,x0 (eo _ _ aS) (by rw[Int.zero_add];exact cT qc) ⟨kE,fj,j6,I,dj.same eo _ yY,dj.same eo _ o2,by lia,_,rfl,?_⟩⟩⟩;exact da (bN _ ⟨_,I⟩)
  ·rw[show List.filter (fun _:Nat=>aE) (List.range gX.length)=[]from List.filter_eq_nil_iff.mpr (fun _ _=>ia)];refine⟨_,_,I,.inl ⟨_,ba aG,I⟩,I,H,.refl (cE ec),?_⟩;exact q
 | lst ds =>
  obtain⟨c4,lu,rfl,aL,ku,c9⟩:=ai;obtain⟨cn,gX,rfl,aS,dH,dz⟩:=ar;subst eH;refine go ⟨_,I,I,_,I,fh (fun z=>nomatch z) ?_⟩
  iterate 3 refine⟨_,I,.inl ⟨_,_,_,_,I,kF,ek K _ (by decide),_,I,da ?_⟩⟩
  refine⟨_,I,.inl ⟨_,_,_,_,I,kF,ek K _ (by decide),_,I,da (da ?_)⟩⟩;refine⟨_,I,.inl ⟨_,_,_,_,I,kF,ek K _ (by decide),_,I,eP ?_⟩⟩;refine⟨_,I,.inl ⟨_,_,_,_,I,rn,ek K _ (by decide),?_⟩⟩;refine⟨ah,I,da ?_⟩;have e0:=cj.len ds ku;have dS:=cj.len ds dH;rw[dK]at qW;refine⟨_,I,_,_,I,.inl ⟨_,ba aL,I⟩,_,I,_,_,I,.inl ⟨_,ba aS,I⟩,I,_,I,ze (by rw[e0,dS]) ?_⟩;refine⟨_,I,_,_,I,.inl ⟨_,ba aS,I⟩,_,I,by lia,by lia,fun c3 ec=>?_⟩;rw[show(((gX.length:Nat):Int)).toNat=gX.length by lia];refine Ga (fun _=>aE) (fun i =>.int (i:Nat)) (fun U=>∃z,U=[z,J (.ref c4),J (.ref cn)]) (by lia) ⟨_,I⟩ ec ?_ ?_
  ·rintro i aF bE H1 ⟨z,rfl⟩ eo R jz bN;obtain⟨kE,lU⟩:∃x,lu[i]?=J x:=⟨_,cI (by lia)⟩;obtain⟨fj,qc⟩:∃x,gX[i]?=J x:=⟨_,cI aF⟩;obtain⟨j6,mm,yY⟩:=cj.get ds ku lU;obtain⟨abL,yP,o2⟩:=cj.get ds dH qc;rw[mm]at yP;obtain rfl:=gq yP;have hm:=nA ds (eY mm);refine⟨_,I,_,I,xz (eo _ _ aL) (by rw[Int.zero_add];exact cT lU) ⟨_,I,_,I,xz (eo _ _ aS) (by rw[Int.zero_add];exact cT qc) ⟨kE,fj,j6,I,dj.same eo _ yY,dj.same eo _ o2,by lia,_,rfl,?_⟩⟩⟩;exact da (bN _ ⟨_,I⟩)
  ·rw[show List.filter (fun _:Nat=>aE) (List.range gX.length)=[]from List.filter_eq_nil_iff.mpr (fun _ _=>ia)];refine⟨_,_,I,.inl ⟨_,ba aG,I⟩,I,H,.refl (cE ec),?_⟩;exact q
theorem L4(nb:dn mg)(F:dD K mg "_law_same" Bx ["_law_found","_law_due"] f fd):∀d:Nat,aY P w K mg zn (d+1) "_law_same" ["_law_found","_law_due"] (RO d)
 |0=>aY.none F fun vs H Q E z=>by obtain⟨_,_,iL,_,_,_,h,_⟩:=z;have:=B5 iL;lia
 |d+1=>Yl nb F (L4 nb F d)
inductive Sa(has:fO->Bool)(bD:D->Bool)(fw:D->List Bool)(c:ey)(C:af)(n:Nat)(vs:List V)(H:al)(Q:bI)(E:cB):Prop where
 |mk (o p ak:af) (f:bH) (d:D) (e:Bool) (aX:vs=[.ref o,.ref p]) (ai:b6 c [p] H f o) (ar:ll has f) (bz:bc f<=n) (c0:H p=J (fi C ak (aT fw f d) 0 aE e)) (es:(aT fw f d).length<=15000000) (iN:bJ bD f d=ah) (mR:∀v H' j,d4 p H H'->b5 (cS.of H) H' d v->H' p=J (fi C ak (aT fw f d) j aE e)->Q v H')
def Uw(l:List Bool):sees l aE 0=l:=by
 unfold sees;rw[List.drop_zero];have e:xor aE=(id:Bool->Bool):=by funext x;cases x<;>rfl
 rw[e,List.map_id]
def Zw(nb:dn mg)(T:s8 K C)(F:dD K mg "value_of" Gb ["form","source"] f fd)(l0:hy P w K mg zn (2*n+4) "draw" ["self","source"] (fX c) (QO has bD fw c C n)):aY P w K mg zn (2*n+5) "value_of" ["form","source"] (Sa has bD fw c C n):=by
 refine F.eg L8 (fun H vs Q E aw h=>?_);obtain⟨o,p,ak,g,d,e,rfl,dk,aP,dq,df,aB,aA,q⟩:=h;obtain⟨gM,gO,fk,li⟩:=b6.draw g dk
 refine⟨_,(aI (bM 2 L8.bj (ij l0 aw (ab 0) (aj (ab 1) az)))
  (aI (cw (b9 iV (d6 (ab 1) rfl) (b8 dx rfl nb.dr dv (aj (d6 (ab 1) rfl) az))) (aJ kN) cx)
  (aJ (bt (ab 2))))),?_⟩
 ac_rfl;refine⟨_,I,o,slot g,gM,gO,I,fk,li,?_⟩;refine⟨_,I,o,p,ak,g,d,_,0,aE,e,cS.of H,I,I,dk,aP,dq,df,by lia,UF _,⟨_,df⟩,fun _ z=>z,aA,by rw[Uw];exact List.prefix_refl _,fun v H' M hd nJ=>?_⟩;rw[Nat.zero_add]at nJ;refine⟨_,I,p,C,ak,_,_,I,nJ,T.cl,T.t6,xP ..,_,I,p,C,ak,_,_,I,nJ,T.cl,T.pd,Gp ..,_,_,I,⟨gW (by rw[dG];lia),I⟩,.inl ⟨_,_,I,I,_,I,?_⟩⟩;refine fh (by rw[dG];lia) ?_;exact⟨_,I,_,M.sub nJ,q _ _ _ M hd nJ⟩
inductive RI(has:fO->Bool)(bD:D->Bool)(fw:D->List Bool)(c:ey)(n:Nat)(vs:List V)(H:al)(Q:bI)(E:cB):Prop where
 |mk (o:af) (f:bH) (d:D) (aX:vs=[.ref o,.str (aH (aT fw f d))]) (ai:b6 c [] H f o) (ar:ll has f) (bz:bc f<=n) (c0:(aT fw f d).length<=15000000) (es:bJ bD f d=ah) (iN:∀v H',Ext H H'->b5 (cS.of H) H' d v->Q v H')
def ZA(F:dD K mg "read_all" Ge ["form","signs"] f fd)(vk:j1 P w K mg zn 1 "Source" C ["self","signs","at"] (RZ C))(Ey:aY P w K mg zn (2*n+5) "value_of" ["form","source"] (Sa has bD fw c C n)):aY P w K mg zn (2*n+6) "read_all" ["form","signs"] (RI has bD fw c n):=by
 refine F.eg Zp (fun H vs Q E aw h=>?_);obtain⟨o,g,d,rfl,dk,aP,dq,aB,aA,q⟩:=h;refine⟨_,(aJ (bt (bT Ey aw (aj (ab 0) (aj (pM vk aw (aj (ab 1) (aj aC az))) az))))),?_⟩;ac_rfl;refine⟨_,I,_,I,fun x ak nx sr zw=>?_⟩;refine⟨x,ak,_,_,I,aG,I,?_⟩;rw[fW];have iu:=Ext.made (C:=C) (fs:=v7 (aH (aT fw g d)) 0 aE aE) nx sr zw;refine⟨o,x,ak,g,d,aE,I,b6.keep (fun b u _ e=>iu.s b u e) g (b6.add nx g dk),aP,dq,aG,aB,aA,fun v H' j M hd nJ=>?_⟩;have iZ:=d4.new iu nx M;exact⟨_,iZ.sub,q _ _ iZ (b5.weak (X:=cS.of H) (Y:=cS.of _) (fun x z=>by obtain⟨u,e⟩:=z;exact⟨u,iu.s _ _ e⟩) d hd)⟩
def UW{a b:D}(aM:cy a=ah)(ag:cy b=ah)(h:xd a*vY b<xd b*vY a):Sep (bL a) (bL b):=by
 obtain⟨s,OJ,_,rs,rfl,aZ⟩:=F8 aM;obtain⟨t,gt,_,rt,rfl,jo⟩:=F8 ag;rw[aZ,jo];have h:pJ s t:=h;cases s with
 |nil=>exact OJ.elim
 | cons a r =>
  cases t with
  |nil=>exact gt.elim
  | cons b u =>
   have inr:∀{a:Int}{r:List Int},nj (a::r)->sZ r:=fun{a r}q x aq=>by
    have:=q.2 x aq;unfold h7 at this;lia
   exact UU OJ gt (rs.1 a (ft.mpr I)) (rt.1 b (ft.mpr I)) (inr rs) (inr rt) h
def Vc{k:Fin 4}{a b:D}(aM:yp cy k a=ah)(ag:yp cy k b=ah)(h:Hs k a b<0):Sep (Cd bL k a) (Cd bL k b):=by
 rcases v5 k with rfl|rfl|rfl|rfl
 .exact absurd h (by show ¬(0:Int)<0;decide)
 ·have h:=w1.mp (show sgn (sv a) (sv b)<0 from h);cases a with
  | aK x =>
   cases b with
   |aK y =>
    cases x<;>cases y<;>first|exact absurd h (by decide)|exact⟨[],[],[],I,I⟩
   |_=>cases ag
  |_=>cases aM
 ·have h:=w1.mp (show sgn (sv a) (sv b)<0 from h);cases a with
  | int x =>
   cases b with
   |int y =>
    have xh:=hX (show decide (ih x)=ah from aM);have xi:=hX (show decide (ih y)=ah from ag);exact NH h xh.1 xi.2
   |_=>cases ag
  |_=>cases aM
 .exact UW aM ag (w1.mp (show sgn (xd a*vY b) (xd b*vY a)<0 from h))
def VY{s t u:ae}(bc:js t s=ah)(cz:js u s=ah)(h:qh (o8 s t) (o8 s u)<0):Sep (zm s (.str t)) (zm s (.str u)):=by
 have e:∀v:ae,zm s (.str v)=tY (fun x=>dB x.toNat (aD (s.length-1))) (o8 s v):=fun v=>by
  show(_++[aE])=(_++[aE]);unfold o8;rw[gg];rfl
 have m:∀v:ae,js v s=ah->∀x,x∈o8 s v->0<=x/\x<s.length:=fun v bR x aq=>by
  obtain⟨c,hc,rfl⟩:=List.mem_map.mp aq
  have ai:c∈s.cps.toList:=by
   have:=ig.mp bR c hc;simpa using this
  have ar:=oD ai;rw[jh]at ar;exact⟨by lia,by have:s.length=s.cps.size:=rfl;lia⟩
 rw[e,e];refine MJ (P:=fun x=>0<=x/\x<s.length) (fun x y aq aW sg=>BM (by lia) ?_) (m t bc) (m u cz) (ai8.mp h);exact Nat.lt_of_le_of_lt (show y.toNat<=s.length-1 by lia) (pT _)
theorem Nk(g:D->List Bool)(o:D->D->Int)(p:D->Bool)(hs:∀x y,p x=ah->p y=ah->o x y<0->Sep (g x) (g y))(bV:∀x y,p x=ah->p y=ah->o x y=0->x=y):∀(xs ay:List D)(k:Nat),xs.all p=ah->ay.all p=ah->kb (fun _=>o) xs ay k<0->Sep ((xs.map fun d=>ah::g d).flatten++[aE]) ((ay.map fun d=>ah::g d).flatten++[aE])
 |[],[],k,_,_,h=>absurd h (by show ¬sgn 0 0<0;decide)
 |[],y::ay,k,_,_,_=>⟨[],[],_,rfl,rfl⟩
 |x::xs,[],k,_,_,h=>absurd (w1.mp (show sgn ((x::xs).length:Nat) ((([]:List D).length:Nat):Int)<0 from h)) (by rw[eb];show ¬(_:Int)<0;lia)
 | x::xs,y::ay,k,aq,aW,h=>by
  rw[List.all_cons,g4]at aq aW;rw[kb]at h;rw[fB,lH,fB,lH,gL,gL];by_cases z:o x y=0
  ·rw[if_pos z]at h;rw[bV x y aq.1 aW.1 z];exact(Nk g o p hs bV xs ay (k+1) aq.2 aW.2 h).pre _
  ·rw[if_neg z]at h;exact((hs x y aq.1 aW.1 h).pre [ah]).post _ _
mutual
theorem tl:∀(f:bH)(a b:D),fz f->bJ cy f a=ah->bJ cy f b=ah->dV f a b<0->Sep (aT bL f a) (aT bL f b)
 |.bare k,a,b,_,aM,ag,h=>by
  rw[bJ]at aM ag;rw[dV]at h;rw[aT,aT];exact Vc aM ag h
 | .sp lo aF,a,b,_,aM,ag,h=>by
  rw[bJ]at aM ag;rw[dV]at h;rw[aT,aT];have h:=w1.mp h;cases a with
  | int x =>
   cases b with
   |int y =>
    have h:x<y:=h;have xh:=hX (show decide (lo<=x/\x<=aF)=ah from aM);have xi:=hX (show decide (lo<=y/\y<=aF)=ah from ag);exact BM (by lia) (Nat.lt_of_le_of_lt (show(y-lo).toNat<=(aF-lo).toNat by lia) (pT _))
   |_=>cases ag
  |_=>cases aM
 | .le s,a,b,_,aM,ag,h=>by
  rw[bJ]at aM ag;rw[dV]at h;rw[aT,aT];cases a with
  | str t =>
   cases b with
   |str u =>
    have xh:=nt.mp (show(decide (t.length<=200)&&js t s)=ah from aM);have xi:=nt.mp (show(decide (u.length<=200)&&js u s)=ah from ag);exact VY xh.2 xi.2 h
   |_=>cases ag
  |_=>cases aM
 | .one k f,a,b,aP,aM,ag,h=>by
  rw[bJ]at aM ag;rw[dV]at h;rw[aT,aT];rw[fz]at aP;have bV:∀x y,bJ cy f x=ah->bJ cy f y=ah->dV f x y=0->x=y:=fun x y aq aW z=>(th f x y aP aq aW).z.mp z;unfold Jq at aM ag;unfold Dy;rcases rS k with rfl|rfl|rfl
  ·rw[if_neg (by decide)]at h;rw[if_pos rfl]at aM ag;rw[if_pos rfl,if_pos rfl];cases a with
   | tup xs =>
    cases b with
    | tup ay =>
     rcases xs with _|⟨x,_|⟨_,_⟩⟩
     ·rcases ay with _|⟨y,_|⟨_,_⟩⟩
      .exact absurd h (by show ¬sgn 0 0<0;decide)
      .exact⟨[],[],_,I,I⟩
      .cases ag
     ·rcases ay with _|⟨y,_|⟨_,_⟩⟩
      .exact absurd h (by show ¬sgn 1 0<0;decide)
      ·have h:(if dV f x y=0 then sgn 0 0 else dV f x y)<0:=h;split at h
       .exact absurd h (by decide)
       .exact(tl f x y aP aM ag h).pre [ah]
      .cases ag
     .cases aM
    |_=>cases ag
   |_=>cases aM
  ·rw[if_neg (by decide)]at h;rw[if_neg (by decide),if_pos rfl]at aM ag;rw[if_neg (by decide),if_pos rfl,if_neg (by decide),if_pos rfl];cases a with
   | lst xs =>
    cases b with
    |lst ay =>
     have xh:=nt.mp (show(decide (xs.length<=60)&&xs.all (bJ cy f))=ah from aM);have xi:=nt.mp (show(decide (ay.length<=60)&&ay.all (bJ cy f))=ah from ag);exact Nk (aT bL f) (dV f) (bJ cy f) (fun x y aq aW z=>tl f x y aP aq aW z) bV xs ay 0 xh.2 xi.2 h
    |_=>cases ag
   |_=>cases aM
  ·rw[if_pos rfl]at h;rw[if_neg (by decide),if_neg (by decide)]at aM ag;rw[if_neg (by decide),if_neg (by decide),if_neg (by decide),if_neg (by decide)];exact(tl f b a aP ag aM (by rw[x2];lia)).turn
 | .two k ns fs,a,b,aP,aM,ag,h=>by
  rw[bJ]at aM ag;rw[dV]at h;rw[aT,aT];rw[fz]at aP;rcases tC k with rfl|rfl
  ·rw[if_pos rfl]at h aM ag;rw[if_pos rfl,if_pos rfl];cases a with
   | tup xs =>
    cases b with
    |tup ay =>
     refine M8 fs xs ay _ 0 (fun i f aA=>?_) aP.2.2 aM ag h;have aF:=(gr.mp aA).1;show(iy fs).getD ((0+i)%fs.length) (fun _ _=>0)=_;rw[Nat.zero_add,Nat.mod_eq_of_lt aF];exact xT fs i f aA
    |_=>cases ag
   |_=>cases aM
  ·rw[if_neg (by decide)]at h aM ag;rw[if_neg (by decide),if_neg (by decide)];cases a with
   | tup xs =>
    cases b with
    | tup ay =>
     rcases xs with _|⟨⟨⟩|_|_|n|_|_,_|⟨x,_|⟨_,_⟩⟩⟩<;>try cases aM
     rcases ay with _|⟨⟨⟩|_|_|m|_|_,_|⟨y,_|⟨_,_⟩⟩⟩<;>try cases ag
     have aM:jC cy fs ns n x=ah:=aM;have ag:jC cy fs ns m y=ah:=ag;have h:(if n=m then(iy fs).getD (ns.idxOf n) (fun _ _=>0) x y else sgn (ns.idxOf n) (ns.idxOf m))<0:=h;show Sep (kX bL fs ns 0 (fs.length-1) n x) (kX bL fs ns 0 (fs.length-1) m y);have nV:=rM fs ns n x aP.2.1 aM;have sm:=rM fs ns m y aP.2.1 ag;by_cases z:n=m
     ·subst z;rw[if_pos rfl]at h;exact N6 fs ns 0 (fs.length-1) n x y aP.2.1 aP.2.2 aM ag h
     ·rw[if_neg z]at h;have h:=w1.mp h;have c9:=oD sm;rw[vH fs ns 0 n nV aP.2.1,vH fs ns 0 m sm aP.2.1];refine(BM (by lia) (Nat.lt_of_le_of_lt (show 0+ns.idxOf m<=fs.length-1 by have:=aP.2.1;lia) (pT _))).post _ _
    |_=>cases ag
   |_=>cases aM
theorem M8:∀(fs:List bH)(xs ay:List D)(G:Nat->D->D->Int)(k:Nat),(∀i f,fs[i]?=J f->G (k+i)=dV f)->h3 fs->eL cy fs xs=ah->eL cy fs ay=ah->kb G xs ay k<0->Sep (gk bL fs xs) (gk bL fs ay)
 | [],xs,ay,G,k,_,_,aq,aW,h=>by
  rw[eL]at aq aW;cases xs with
  |nil =>
   cases ay with
   |nil=>exact absurd h (by show ¬sgn 0 0<0;decide)
   |cons _ _=>cases aW
  |cons _ _=>cases aq
 |f::fs,[],ay,G,k,_,_,aq,aW,h=>by rw[eL]at aq;cases aq
 |f::fs,x::xs,[],G,k,_,_,aq,aW,h=>by rw[eL]at aW;cases aW
 | f::fs,x::xs,y::ay,G,k,hG,aP,aq,aW,h=>by
  rw[eL]at aq aW;rw[h3]at aP;have aq:=nt.mp (show(bJ cy f x&&eL cy fs xs)=ah from aq);have aW:=nt.mp (show(bJ cy f y&&eL cy fs ay)=ah from aW);have eV:G k=dV f:=hG 0 f rfl;rw[kb,eV]at h;rw[gk,gk];show Sep (aT bL f x++gk bL fs xs) (aT bL f y++gk bL fs ay);by_cases z:dV f x y=0
  ·rw[if_pos z]at h;rw[(th f x y aP.1 aq.1 aW.1).z.mp z];exact(M8 fs xs ay G (k+1) (fun i g bb=>by rw[Nat.add_assoc,Nat.add_comm 1 i];exact hG (i+1) g bb) aP.2 aq.2 aW.2 h).pre _
  ·rw[if_neg z]at h;exact(tl f x y aP.1 aq.1 aW.1 h).post _ _
theorem N6:∀(fs:List bH)(ns:List ae)(k M:Nat)(n:ae)(x y:D),ns.length=fs.length->h3 fs->jC cy fs ns n x=ah->jC cy fs ns n y=ah->(iy fs).getD (ns.idxOf n) (fun _ _=>0) x y<0->Sep (kX bL fs ns k M n x) (kX bL fs ns k M n y)
 |[],ns,k,M,n,x,y,_,_,aq,_,_=>by rw[jC]at aq;cases aq
 |f::fs,[],k,M,n,x,y,aB,_,aq,_,_=>by cases aB
 | f::fs,m::ns,k,M,n,x,y,aB,aP,aq,aW,h=>by
  rw[jC]at aq aW;rw[kX,kX];rw[h3]at aP;by_cases z:m=n
  ·subst z;have di:(m::ns).head?=J m:=rfl;rw[if_pos di]at aq aW;rw[if_pos di,if_pos di];rw[List.idxOf_cons_self,iy]at h;exact(tl f x y aP.1 aq aW h).pre _
  ·have xl:¬(m::ns).head?=J n:=fun e=>z (gq e);rw[if_neg xl]at aq aW;rw[if_neg xl,if_neg xl];rw[List.idxOf_cons,show(m == n)=aE from beq_eq_false_iff_ne.mpr z,cond_false,iy]at h;exact N6 fs ns (k+1) M n x y (by simpa using aB) aP.2 aq aW h
end
def Std(w:Int)(a b:List Bool):Prop:=(w=0->a=b)/\(w<0->Sep a b)/\(0<w->Sep b a)
def Std.of{f:bH}{a b:D}(ok:fz f)(aM:bJ cy f a=ah)(ag:bJ cy f b=ah):Std (dV f a b) (aT bL f a) (aT bL f b) :=
 ⟨fun z=>by rw[(th f a b ok aM ag).z.mp z],tl f a b ok aM ag,fun z=>tl f b a ok ag aM (by rw[x2];lia)⟩
def jg(a b:List Bool):Prop:=¬Lt b a
def Fc{b c:List Bool}(h:jg a b)(ar:jg b c):jg a c:=fun z=>by
 rcases Hm a b with x|x|x
 .exact ar (Ly z x)
 .exact ar (x ▸ z)
 .exact h x
def V0{b:List Bool}(h:jg a b)(ar:jg b a):a=b:=by
 rcases Hm a b with x|x|x
 .exact absurd x ar
 .exact x
 .exact absurd x h
theorem Li:∀(a b:List (List Bool)),a.Pairwise jg->b.Pairwise jg->a.Perm b->a=b
 |[],b,_,_,p=>p.nil_eq
 |x::a,[],_,_,p=>(List.not_perm_cons_nil p).elim
 | x::a,y::b,aM,ag,p=>by
  rw[List.pairwise_cons]at aM ag
  have e:x=y:=by
   rcases dd.mp (p.mem_iff.mp (eA ..))with z|z
   .exact z
   ·rcases dd.mp (p.mem_iff.mpr (eA ..))with dg|dg
    .exact dg.symm
    .exact V0 (aM.1 _ dg) (ag.1 _ z)
  subst e;rw[Li a b aM.2 ag.2 p.cons_inv]
theorem Lh:∀(ss:List (List Bool)),PyProof.Rows.sortedS (ss.map aH)=ah->ss.Pairwise jg
 |[],_ =>.nil
 |[_],_=>List.pairwise_singleton ..
 | a::b::r,h=>by
  have ai:(!PySem.Spec.ltCps (aH b).cps.toList (aH a).cps.toList&&PyProof.Rows.risingS (aH b) (r.map aH))=ah:=h;rw[g4]at ai;have bK:=Lh (b::r) ai.2
  have Oa:jg a b:=fun z=>by
   have:=ai.1;rw[PyProof.Rows.ltCps_eq,eT (show(aH b).cps.toList<(aH a).cps.toList from z)]at this;cases this
  refine List.pairwise_cons.mpr ⟨fun y aW=>?_,bK⟩;rcases dd.mp aW with rfl|z
  .exact Oa
  .exact Fc Oa ((List.pairwise_cons.mp bK).1 y z)
def Vs{x:List Bool}{l:List (List Bool)}(aB:l.Pairwise jg)(ai:∀y,y∈l.take k->Lt y x)(ar:∀y,l[k]?=J y->jg x y):(l.take k++x::l.drop k).Pairwise jg:=by
 have hd:∀y,y∈l.drop k->jg x y:=fun y aW=>by
  cases e:l[k]? with
  |none =>
   rw[List.drop_eq_nil_of_le (List.getElem?_eq_none_iff.mp e)]at aW;cases aW
  | some z =>
   obtain⟨hk,v3⟩:=gr.mp e;rw[nq hk,v3]at aW;rcases dd.mp aW with rfl|aW
   .exact ar _ e
   ·have aU:=List.Pairwise.sublist (List.drop_sublist k l) aB;rw[nq hk,v3]at aU;exact Fc (ar _ e) ((List.pairwise_cons.mp aU).1 y aW)
 refine List.pairwise_append.mpr ⟨List.Pairwise.sublist (List.take_sublist k l) aB,List.pairwise_cons.mpr ⟨hd,List.Pairwise.sublist (List.drop_sublist k l) aB⟩,fun a aM b ag=>?_⟩;have O2:jg a x:=fun z=>List.lt_asymm z (ai a aM);rcases dd.mp ag with rfl|ag
 .exact O2
 .exact Fc O2 (hd b ag)
theorem FG{f Ox:af}{fd acC:jc}(nb:dn mg)(F:dD K mg "_law_order" Bp ["_law_form_here","_law_one","_law_other"] f fd)(EB:dD K mg "_law_listed" Bd ["_law_forms","_law_one","_law_other"] Ox acC):∀d:Nat,aY P w K mg zn (2*d+4) "_law_order" ["_law_form_here","_law_one","_law_other"] (Rw d)
 |0=>aY.none F fun vs H Q E z=>by obtain⟨_,_,_,g,_,_,_,_,_,h,_⟩:=z;have:=vR g;lia
 |d+1=>XY nb F (YH nb EB (FG nb F EB d)) (FG nb F EB d)
open PySem.W PySem.Spec PyProof.Rows in
def Zj{X:bQ}:jG X (.builtin "sorted") (fun xs H Q=>∃(a:af)(rs:List (List Bool)),xs=[.ref a]/\cZ X.K H a (dE.cK rs)/\rs.length<64/\∀ss:List (List Bool),ss.Pairwise jg->ss.Perm rs->∀p,H p=ax->Q (.ref p) (upd H p (.lst (dE.cK ss)))):=by
 intro au s U H xs us Q aa r h;obtain⟨a,rs,rfl,bo,ak9,q⟩:=h;obtain⟨u,rfl,e1⟩:=vals1 r;obtain rfl:u=av.ref a:=e1;obtain⟨bq,d2,pl,bV⟩:=aa.list bo;have c1:=d2.length;rw[dE.ip]at c1;refine sorted_strs pl.isList (M4 d2) (by lia) fun out al3 a1 a2 a3=>?_;obtain⟨ss,aL,aS⟩:=dE.aaO a2.symm rfl;subst aL;obtain⟨e,he⟩:=sortedAll_at s.heap bq out;have aU:=aa.aP.fresh (a:=s.heap.objs.size+1) (Nat.le_succ _);refine⟨.ref (s.heap.objs.size+1),_,?_,I,q ss (Lh ss a3) aS.symm _ aU⟩;have gb:=aS.length_eq;refine aa.DV (ch:=[]) (t':=s.toks) (fun b o _ eG=>sortedAll_old eG) (fun b ag=>nomatch ag) (Nat.le_succ _) ?_;refine⟨by rw[dE.ip];exact dF (show ss.length<=64 by lia) (by decide),out.toList,e,Mv a1,?_⟩;rw[he]
mutual
theorem x9:∀(f:bH),fz f->ll hasAll f
 |.bare k,h=>⟨by rw[m5];trivial,by rw[o9];rfl⟩
 |.sp a b,h=>by rw[fz]at h;exact⟨by rw[m5];exact⟨h.1,h.2.2⟩,by rw[o9];rfl⟩
 |.le s,h=>by rw[fz]at h;exact⟨by rw[m5];exact h,by rw[o9];rfl⟩
 |.one k f,h=>by
  rw[fz]at h;obtain⟨a,b⟩:=x9 f h;exact⟨by rw[m5];exact a,by rw[o9];exact⟨I,b⟩⟩
 |.two k ns fs,h=>by
  rw[fz]at h;obtain⟨a,b⟩:=Nd fs h.2.2;exact⟨by rw[m5];exact⟨h.1,h.2.1,a⟩,by rw[o9];exact⟨I,b⟩⟩
theorem Nd:∀(fs:List bH),h3 fs->Dx hasAll fs
 |[],_=>⟨by rw[sy];trivial,by rw[sh];trivial⟩
 |f::fs,h=>by
  rw[h3]at h;obtain⟨a,b⟩:=x9 f h.1;obtain⟨a2,eK⟩:=Nd fs h.2;exact⟨by rw[sy];exact⟨a,a2⟩,by rw[sh];exact⟨b,eK⟩⟩
end
def Xa{b:List Bool}(h:Lt a b):decide ((aH a).cps.toList<(aH b).cps.toList)=ah:=eT h
inductive QK(vs:List V)(H:al)(Q:bI)(E:cB):Prop where
 |mk (a b:List Bool) (aX:vs=[.str (aH a),.str (aH b)]) (ai:a.length<=15000000) (ar:b.length<=15000000) (bz:Q (.int ((eO a b:Nat):Int)) H)
def XV(nb:dn mg)(F:dD K mg "first_unlike" Fq ["one","other"] f fd):aY P w K mg zn 1 "first_unlike" ["one","other"] QK:=by
 refine F.eg Fg (fun H vs Q E aw h=>?_);obtain⟨a,b,rfl,aM,ag,q⟩:=h
 refine⟨_,(aI (bM 2 Fg.bj aC)
  (aI (qC iB.never (gK.pt (oL (b9 iV (ab 2) (b8 dx rfl nb.dr dv (aj (ab 0) az))) (oL (b9 iV (ab 2) (b8 dx rfl nb.dr dv (aj (ab 1) az))) (pS (b9 c6 (bW bY (ab 0) (ab 2)) (bW bY (ab 1) (ab 2)))))))
   (aJ (bM 2 Fg.bj (aO el (ab 2) aC))))
  (aJ (bt (ab 2))))),?_⟩
 ac_rfl;have hF:(aH a).length<=cg:=by rw[dG];exact gW (by lia)
 have mh:(aH b).length<=cg:=by rw[dG];exact gW (by lia)
 have akZ:=dG a;have ak0:=dG b;refine⟨fun m U ao=>∃j:Nat,j<=eO a b/\m=eO a b-j/\U=[J (.str (aH a)),J (.str (aH b)),J (.int (j:Nat))]/\ao=H,⟨_,0,UF _,I,I,I⟩,?_⟩;rintro m U ao ⟨j,b0,rfl,rfl,rfl⟩;have hle:=yl (a:=a) (b:=b);have iA:j=eO a b->Q (.int ((j:Nat):Int)) ao:=fun e=>by rw[e];exact q
 rcases g5 j (eO a b)with c|c
 ·obtain⟨x,lU,qc⟩:=WV c;refine⟨_,I,_,I,_,_,I,⟨hF,I⟩,.inl ⟨_,_,I,I,_,I,hU (by lia) ?_⟩⟩;refine⟨_,I,_,I,_,_,I,⟨mh,I⟩,.inl ⟨_,_,I,I,_,I,hU (by lia) ?_⟩⟩;refine⟨_,I,_,I,.inr ⟨_,_,md x,I,I,hF,cT (x1 lU),_,I,_,I,.inr ⟨_,_,md x,I,I,mh,cT (x1 qc),I,_,I,hU I ?_⟩⟩⟩;refine⟨fun b2 H'=>∃bU,bU<eO a b-j/\∃j:Nat,j<=eO a b/\bU=eO a b-j/\b2=[J (.str (aH a)),J (.str (aH b)),J (.int (j:Nat))]/\H'=ao,fun _ _ h=>h,?_⟩;exact⟨_,I,.inl ⟨_,_,I,I,eO a b-(j+1),by lia,j+1,c,rfl,rfl,rfl⟩⟩
 ·have gx:j=eO a b:=by lia
  rcases We a b with h|h|⟨x,y,ai,ar,bz⟩
  .exact⟨_,I,_,I,_,_,I,⟨hF,I⟩,.inl ⟨_,_,I,I,_,I,fh (by lia) (da (⟨_,I,ao,.refl (c5 _),iA gx⟩))⟩⟩
  ·refine⟨_,I,_,I,_,_,I,⟨hF,I⟩,.inl ⟨_,_,I,I,_,I,fl (fun eE=>?_) (fun eE=>da (⟨_,I,ao,.refl (c5 _),iA gx⟩))⟩⟩;exact⟨_,I,_,I,_,_,I,⟨mh,I⟩,.inl ⟨_,_,I,I,_,I,fh (by lia) (da (⟨_,I,ao,.refl (c5 _),iA gx⟩))⟩⟩
  ·have c9:=(gr.mp ai).1;have dz:=(gr.mp ar).1;rw[<-gx]at ai ar;refine⟨_,I,_,I,_,_,I,⟨hF,I⟩,.inl ⟨_,_,I,I,_,I,hU (by lia) ?_⟩⟩;refine⟨_,I,_,I,_,_,I,⟨mh,I⟩,.inl ⟨_,_,I,I,_,I,hU (by lia) ?_⟩⟩;refine⟨_,I,_,I,.inr ⟨_,_,md x,I,I,hF,cT (x1 ai),_,I,_,I,.inr ⟨_,_,md y,I,I,mh,cT (x1 ar),I,_,I,fh ?_ (⟨_,I,ao,.refl (c5 _),iA gx⟩)⟩⟩⟩;rw[M6,M6];intro z;exact bz (List.cons.inj (BN (V.str.inj z))).1
def XR(F:dD K mg "shared_signs" Fm ["one","other"] f fd)(Ei:aY P w K mg zn 1 "first_unlike" ["one","other"] QK):aY P w K mg zn 2 "shared_signs" ["one","other"] QK:=by
 refine F.eg XI (fun H vs Q E aw h=>?_);obtain⟨a,b,rfl,aM,ag,q⟩:=h;refine⟨_,(aJ (bt (bT Ei aw (aj (ab 0) (aj (ab 1) az))))),?_⟩;ac_rfl;exact⟨_,I,_,I,a,b,I,aM,ag,H,.refl (c5 _),q⟩
def vu{n:Nat}(h:n+1<2^255):(cnt n).length<=269:=by
 have:=xS h;have:=jl h;lia
def nz{n:Nat}(h:n<=16000000):n+1<2^255:=Nat.lt_of_le_of_lt (Nat.succ_le_succ h) ⋯
def yn{x:V}(h:(cK rs)[i]?=J x):∃r,rs[i]?=J r/\rs.getD i []=r/\x=.str (aH r):=by
 rw[eD]at h;cases e:rs[i]? with
 |none=>rw[e]at h;cases h
 |some r=>rw[e]at h;cases h;exact⟨r,I,by rw[eJ,e];rfl,rfl⟩
def Qz(h:U.length=2):∃di dg,U=[di,dg]:=match U,h with|[di,dg],_=>⟨di,dg,rfl⟩
inductive QX(vs:List V)(H:al)(Q:bI)(E:cB):Prop where
 |mk (a r:List Bool) (aX:vs=[.str (aH a),.str (aH r)]) (ai:a.length<=15000000) (ar:r.length<=15000000) (bz:Q (.str (aH (ent a r))) H)
def ZI(nb:dn mg)(F:dD K mg "entry_of" Gm ["ahead","row"] f fd)(u3:aY P w K mg zn 2 "shared_signs" ["one","other"] QK)(l3:aY P w K mg zn 2 "count_row" ["n"] QM):aY P w K mg zn 3 "entry_of" ["ahead","row"] QX:=by
 refine F.eg Md (fun H vs Q E aw h=>?_);obtain⟨a,r,rfl,aM,ag,q⟩:=h
 refine⟨_,(aI (bM 2 Md.bj (bT u3 aw (aj (ab 0) (aj (ab 1) az))))
  (aJ (bt (aO el (aO el (bT l3 aw (aj (ab 2) az)) (bT l3 aw (aj (aO gc (b8 dx rfl nb.dr dv (aj (ab 1) az)) (ab 2)) az))) (lK lX (ab 1) (kL (ab 2)) mB))))),?_⟩
 ac_rfl;have bN:(aH r).length<=cg:=by rw[dG];exact gW (by lia)
 have qK:=dG r;have hc:=(yl (a:=a) (b:=r)).2;have c9:=vu (nz (n:=eO a r) (by lia));have dz:=vu (nz (n:=r.length-eO a r) (by lia));refine⟨_,I,_,I,a,r,I,by lia,by lia,?_⟩;refine⟨_,I,eO a r,I,nz (by lia),?_⟩;refine⟨_,I,_,_,I,⟨bN,I⟩,_,I,_,_,I,I,r.length-eO a r,(congrArg (fun x=>[V.int x]) (by lia)),nz (by lia),?_⟩;refine .inr ⟨_,_,I,I,(by rw[dG,dG];exact gW (by lia)),?_⟩;refine⟨_,I,_,I,_,I,.inr ⟨_,I,bN,?_⟩⟩;rw[Mm r _ hc,j2];refine .inr ⟨_,_,I,I,(by rw[dG,dG,dP,ie];exact gW (by lia)),?_⟩;rw[j2];exact⟨H,.refl (c5 _),q⟩
inductive QF(vs:List V)(H:al)(Q:bI)(E:cB):Prop where
 |mk (a:af) (rs:List (List Bool)) (aX:vs=[.ref a]) (ai:H a=J (.lst (cK rs))) (ar:rs.length<=200) (bz:Q (.aK (vX rs)) H)
def Uj(rs:List (List Bool)):((List.range (rs.length-1)).map fun i=>decide (Lt (rs.getD i []) (rs.getD (i+1) []))).all id=vX rs:=by
 induction rs with
 |nil=>rfl
 | cons a r bK =>
  cases r with
  |nil=>rfl
  |cons b r =>
   have e:(a::b::r).length-1=((b::r).length-1)+1:=rfl;rw[e,List.range_succ_eq_map,fB,List.all_cons,gg,vX];congr 1
def aaW(nb:dn mg)(F:dD K mg "ascend" GQ ["rows"] f fd):aY P w K mg zn 1 "ascend" ["rows"] QF:=by
 refine F.eg aaF (fun H vs Q E aw h=>?_);obtain⟨a,rs,rfl,aM,aB,q⟩:=h;refine⟨_,(aJ (bt (b8 (tj I) I nb.tr tq (aj (hO ["one","other"] [] I ⋯ trivial (Lm I nb.D1 (aj (ab 0) (aj (lK lX (ab 0) (kL aC) mB) az))) (oM I (jk (d5 (i:=0) (show(["one","other"]:List ae).Nodup by decide+kernel)) (jk (d5 (i:=1) (show(["one","other"]:List ae).Nodup by decide+kernel)) oy))) gs (fM iV (ab 0) (ab 1))) az)))),?_⟩;ac_rfl;refine⟨_,I,_,I,_,I,.inl ⟨a,_,I,ba aM,fun p aU=>⟨a,p,_,_,I,ba (cE aU _ _ aM),ba aG,fun D c2=>?_⟩⟩⟩;rw[GK]at c2 ⊢;have eo:=cE (o:=cX.lst ((cK rs).drop 1)) aU;have aV:min (cK rs).length ((cK rs).drop 1).length=rs.length-1:=by rw[ie,ip];lia
 refine NB (fun i=>V.aK (decide (Lt (rs.getD i []) (rs.getD (i+1) [])))) (fun U=>U.length=2) (by lia) I c2 (ba (eo _ _ aM)) (ba aG) ?_ ?_
 ·intro i x y aq aW bE H1 T df hs cc R bN;obtain⟨di,dg,rfl⟩:=Qz df;obtain⟨cf,_,g1,rfl⟩:=yn aq;rw[List.getElem?_drop,Nat.add_comm]at aW;obtain⟨d8,_,g2,rfl⟩:=yn aW;refine⟨T,_,I,cC aG,I,_,_,I,_,_,I,I,_,I,_,I,.inr ⟨_,_,I,I,?_⟩⟩;have:=bN [J (.str (aH cf)),J (.str (aH d8))] _ rfl (c5 _);rw[g1,g2]at this;exact this
 ·intro H' ka jQ;rw[aV]at jQ;refine⟨D,(List.range (rs.length-1)).map fun i=>decide (Lt (rs.getD i []) (rs.getD (i+1) [])),I,ba (by rw[jQ,gg];rfl),H,.refl (eo.trans ka),?_⟩;rw[Uj];exact q
inductive Ry(vs:List V)(H:al)(Q:bI)(E:cB):Prop where
 |mk (a:af) (rs:List (List Bool)) (aX:vs=[.ref a]) (ai:H a=J (.lst (cK rs))) (ar:rs.length<=100) (bz:(rs.map List.length).sum<=15000000) (c0:l1 rs) (es:Q (.str (aH (jE rs))) H)
def MP(h:∀r∈rs,r.length<=15000000):∀a,(ents a rs).length<=(rs.map List.length).sum+540*rs.length:=by
 induction rs with
 |nil=>intro a;exact UF _
 | cons r rs bK =>
  intro a;have aw:=h r (eA ..);have aX:=bK (fun x aq=>h x (dw _ aq)) r
  have bz:(ent a r).length<=r.length+540:=by
   unfold ent;have:=(yl (a:=a) (b:=r)).2;have ai:=vu (nz (n:=eO a r) (by lia));have ar:=vu (nz (n:=r.length-eO a r) (by lia));rw[dP,dP,ie];lia
  rw[ents,dP,eb,fB,List.sum_cons];lia
def U0(rs:List (List Bool)):((List.range rs.length).map fun i=>(aH (ent (([]::rs).getD i []) (rs.getD i []))).length).sum=(ents [] rs).length:=by
 rw[Nw,List.length_flatten,gg];congr 1;refine nu fun i _=>?_;exact dG _
def B3(h:r∈rs):r.length<=(rs.map List.length).sum:=by
 induction rs with
 |nil=>cases h
 |cons x rs bK =>
  rw[fB,List.sum_cons];rcases dd.mp h with rfl|z
  .omega
  .have:=bK z;lia
def NI{a b:List (List Bool)}(h:a.Sublist b):(a.map List.length).sum<=(b.map List.length).sum:=by
 induction h with
 |slnil=>exact cp _
 |cons x _ bK=>rw[fB,List.sum_cons];lia
 |cons_cons x _ bK=>rw[fB,List.sum_cons,fB,List.sum_cons];lia
def aaa(nb:dn mg)(F:dD K mg "page_of" Gw ["rows"] f fd)(Ef:aY P w K mg zn 1 "ascend" ["rows"] QF)(Eh:aY P w K mg zn 3 "entry_of" ["ahead","row"] QX)(l3:aY P w K mg zn 2 "count_row" ["n"] QM):aY P w K mg zn 4 "page_of" ["rows"] Ry:=by
 refine F.eg Mo (fun H vs Q E aw h=>?_);obtain⟨a,rs,rfl,aM,aB,q2,hF,q⟩:=h;have ag:∀r∈rs,r.length<=15000000:=fun r aw=>dF (B3 aw) q2
 refine⟨_,(aI (cw (iJ (f6 (bT Ef aw (aj (ab 0) az)))) (aJ kN) cx)
  (aI (pR (i:=1)  ["ahead","row"] [] Mo.bj rfl rfl rfl ⋯ trivial (Lm rfl nb.D1 (aj (aO zA (hB (aj cY az)) (ab 0)) (aj (ab 0) az))) (oM rfl (jk (d5 (i:=0) (show(["ahead","row"]:List ae).Nodup by decide+kernel)) (jk (d5 (i:=1) (show(["ahead","row"]:List ae).Nodup by decide+kernel)) oy))) gs (bT Eh aw (aj (ab 0) (aj (ab 1) az))))
  (aJ (bt (aO zA (bT l3 aw (aj (b8 dx rfl nb.dr dv (aj (ab 0) az)) az)) (hZ PySem.F.plainAttrs_str PySem.F.slot_str_join PySem.F.type_str_join tm cY (aj (ab 1) az))))))),?_⟩
 ac_rfl;refine⟨_,I,a,rs,I,aM,by lia,_,rfl,?_⟩;rw[(Ve rs).mpr hF];refine da ⟨(by show 1<=cg;decide),fun c4 kR=>?_⟩;have kA:=cE (o:=cX.lst [V.str ""]) kR;refine⟨_,I,.inr ⟨c4,a,_,_,I,I,aG,kA _ _ aM,(by rw[ip];exact gW (by show 1+_<=_;lia)),fun cn mv=>?_⟩⟩;have lr:=kA.trans (cE (o:=cX.lst ([V.str ""]++cK rs)) mv);have aL:[V.str ""]++cK rs=cK ([]::rs):=by rw[uv];rfl
 rw[aL]at lr ⊢;refine⟨_,I,cn,a,_,_,I,ba aG,ba (lr _ _ aM),fun D c2=>?_⟩;have aV:min (cK ([]::rs)).length (cK rs).length=rs.length:=by rw[ip,ip,eb];lia
 have ali:=MP ag [];refine NB (fun i=>V.str (aH (ent (([]::rs).getD i []) (rs.getD i [])))) (fun U=>U.length=2) (by lia) I c2 (ba aG) (ba (lr _ _ aM)) ?_ ?_
 ·intro i x y aq aW bE H1 T df hs cc R bN;obtain⟨di,dg,rfl⟩:=Qz df;obtain⟨cf,tw,g1,rfl⟩:=yn aq;obtain⟨d8,yv,g2,rfl⟩:=yn aW
  have adt:∀r∈[]::rs,r.length<=15000000:=fun r aw=>by
   rcases dd.mp aw with z|z
   .rw[z];exact UF _
   .exact ag r z
  have gQ:cf.length<=15000000:=adt cf (eY tw);have gF:d8.length<=15000000:=ag d8 (eY yv);refine⟨T,_,I,cC aG,I,_,_,I,_,_,I,I,_,I,_,I,cf,d8,I,by lia,by lia,?_⟩;have:=bN [J (.str (aH cf)),J (.str (aH d8))] _ rfl (c5 _);rw[g1,g2]at this;exact this
 ·intro H' ka jQ;rw[aV]at jQ;have sG:=lr.trans ka;refine⟨_,I,_,_,I,.inl ⟨_,ba (sG _ _ aM),I⟩,rs.length,(by rw[ip];rfl),nz (by lia),?_⟩;refine⟨I,_,I,_,D,(List.range rs.length).map fun i=>aH (ent (([]::rs).getD i []) (rs.getD i [])),I,I,ba (by rw[jQ,gg];rfl),?_,?_⟩
  ·rw[gg];have eV:(ae.ofString "").length=0:=⋯;rw[eV,Nat.mul_zero,Nat.add_zero];show((List.range rs.length).map fun i=>(aH (ent (([]::rs).getD i []) (rs.getD i []))).length).sum<=_;rw[U0];exact gW (by lia)
  ·have gx:Txt.join (ae.ofString "") ((List.range rs.length).map fun i=>aH (ent (([]::rs).getD i []) (rs.getD i [])))=aH (ents [] rs):=by
    rw[Nw,<-rC,gg];rfl
   rw[gx];refine .inl (.inr ⟨_,_,I,I,?_,?_⟩)
   ·skip;have:=vu (nz (n:=rs.length) (by lia));rw[dG,dG];exact gW (by lia)
   ·rw[j2];exact⟨H,.refl sG,q⟩
inductive RJ(vs:List V)(H:al)(Q:bI)(E:cB):Prop where
 |mk (l:List Bool) (i n:Nat) (aX:vs=[.str (aH l),.int i]) (ai:l.length<=16000000) (ar:i<=l.length) (bz:n+1<2^255) (c0:cnt n <+: l.drop i) (es:∀r,H r=ax->Q (.ref r) (upd H r (.tup [.int n,.int ((i+(cnt n).length:Nat):Int)])))
def YC(T:s8 K C)(F:dD K mg "read_count" FJ ["signs","at"] f fd)(vk:j1 P w K mg zn 1 "Source" C ["self","signs","at"] (RZ C))(pK:aY P w K mg zn 3 "draw_count" ["source"] (QP C)):aY P w K mg zn 4 "read_count" ["signs","at"] RJ:=by
 refine F.eg Ft (fun H vs Q E aw h=>?_);obtain⟨l,i,n,rfl,aB,aF,aV,hc,q⟩:=h
 refine⟨_,(aI (bM 2 Ft.bj (pM vk aw (aj (ab 0) (aj (ab 1) az))))
  (aI (bM 3 Ft.bj (bT pK aw (aj (ab 2) az)))
  (aJ (bt (jm (aj (ab 3) (aj (d6 (ab 2) rfl) az))))))),?_⟩
 ac_rfl;refine⟨_,I,_,I,fun x ak nx sr zw=>?_⟩;refine⟨x,ak,_,_,I,aG,I,?_⟩;refine⟨_,I,x,ak,l,i,n,aE,aE,I,⟨_,aG⟩,aB,aF,aV,by rw[vK];exact hc,?_⟩;refine⟨_,I,_,I,x,C,ak,_,_,I,aG,T.cl,T.t6,xP ..,(by show 2<=cg;decide),fun r d1=>?_⟩
 have s1:dY H (upd (upd H ak (.own x)) x (.ins C ak [])):=fun b o e=>by
  rw[bC (fe e nx),bC (fe e sr)];exact e
 have s2:dY H (upd (upd (upd (upd H ak (.own x)) x (.ins C ak [])) x (.ins C ak (v7 (aH l) i aE aE))) x (fi C ak l (i+(cnt n).length) aE aE)):=fun b o e=>by
  rw[bC (fe e nx),bC (fe e nx)];exact s1 b o e
 have P8:H r=ax:=s2.free d1;exact⟨_,.new P8 (s2.trans (cE d1)) aG trivial,q r P8⟩
def After(rs:List (List Bool))(r:List Bool):Prop:=rs=[]\/Lt (rs.getLastD []) r
inductive Rn(vs:List V)(H:al)(Q:bI)(E:cB):Prop where
 |mk (a:af) (rs:List (List Bool)) (r:List Bool) (aX:vs=[.ref a,.int ((eO (rs.getLastD []) r:Nat):Int),.str (aH (r.drop (eO (rs.getLastD []) r)))]) (ai:H a=J (.lst (cK rs))) (ar:rs.length<=10000) (bz:(∀x∈rs,x.length<=15000000)) (c0:r.length<=15000000) (es:After rs r) (iN:Q (.aK ah) H)
def NW(h:rs≠[]):ed (cK rs) (-1)=J (.str (aH (rs.getLastD []))):=by
 obtain⟨xs,x,rfl⟩:∃xs x,rs=xs++[x]:=⟨rs.dropLast,rs.getLast h,(List.dropLast_concat_getLast h).symm⟩;rw[vS];have:(xs++[x]).getLastD []=x:=by simp
 rw[this];exact NF _ _
def Nl(h:∀x∈rs,x.length<=k):(rs.getLastD []).length<=k:=by
 cases rs with
 |nil=>exact UF _
 | cons a r =>
  have:(a::r).getLastD []∈a::r:=by
   rw[List.getLastD_cons];exact List.getLastD_mem_cons ..
  exact h _ this
def YE(nb:dn mg)(F:dD K mg "may_follow" FK ["rows","shared","rest"] f fd)(u3:aY P w K mg zn 2 "shared_signs" ["one","other"] QK):aY P w K mg zn 3 "may_follow" ["rows","shared","rest"] Rn:=by
 refine F.eg Fu (fun H vs Q E aw h=>?_);obtain⟨a,rs,r,rfl,aM,aB,ag,aeq,hF,q⟩:=h
 refine⟨_,(aI (cw (b9 c6 (b8 dx I nb.dr dv (aj (ab 0) az)) aC) (aJ (bt (fM c6 (ab 1) aC))) cx)
  (aI (bM 3 Fu.bj (bW bY (ab 0) (k7 k1 aC)))
  (aI (bM 4 Fu.bj (lK lX (ab 3) (kL (ab 1)) mB))
  (aJ (bt (il (fM uc (ab 1) (b8 dx rfl nb.dr dv (aj (ab 3) az))) (il (fM iV (ab 4) (ab 2)) (jB (fM c6 (bT u3 aw (aj (ab 4) (aj (ab 2) az))) aC))))))))),?_⟩
 ac_rfl;refine⟨_,I,_,_,I,.inl ⟨_,ba aM,I⟩,I,_,I,?_⟩;rw[ip];by_cases aX:rs=[]
 ·subst aX;have eV:eO (([]:List (List Bool)).getLastD []) r=0:=Hd r;rw[eV];exact hU I ⟨_,I,I,H,.refl (c5 _),q⟩
 ·have aU:=List.length_pos_iff.mpr aX;refine fh (fun z=>by have:=V.int.inj z;lia) ?_;have hH:=hF.resolve_left aX;have ad3:=Nl ag;have gj:=NW aX;generalize rs.getLastD []=Jb at *;have CU:(aH Jb).length<=cg:=by rw[dG];exact gW (by lia)
  have eZ:=(yl (a:=Jb) (b:=r)).1;obtain⟨hC,iq⟩:=VV hH;refine⟨_,I,_,I,xz aM gj ?_⟩;refine⟨_,I,_,I,_,I,.inr ⟨_,I,CU,?_⟩⟩;rw[Mm Jb _ eZ];refine⟨_,I,_,I,_,_,I,⟨CU,I⟩,_,_,I,I,_,I,hU (by rw[dG];lia) ?_⟩;refine⟨_,I,_,I,.inr ⟨_,_,I,I,_,I,?_⟩⟩;rw[Xa hC];refine eP ⟨_,I,_,I,_,_,I,(by rw[ie];lia),(by rw[ie];lia),I,H,.refl (c5 _),?_⟩;rw[iq];exact q
def Nx{b:List Bool}(h:a++b <+: L.drop i):b <+: L.drop (i+a.length):=by
 obtain⟨u,e⟩:=h;refine⟨u,?_⟩;rw[<-List.drop_drop,<-e,gL,List.drop_left]
def Nc{b:List Bool}(h:a++b <+: L):a <+: L:=⟨_,(gL ..).symm.trans h.choose_spec⟩
def G8(h:a <+: L.drop i)(aF:i<=L.length):i+a.length<=L.length:=by
 have:=h.length_le;rw[ie]at this;lia
inductive RL(vs:List V)(H:al)(Q:bI)(E:cB):Prop where
 |mk (l:List Bool) (i:Nat) (a:af) (rs:List (List Bool)) (r:List Bool) (aX:vs=[.str (aH l),.int ((i:Nat):Int),.ref a]) (ai:l.length<=16000000) (ar:i<=l.length) (bz:H a=J (.lst (cK rs))) (c0:rs.length<=10000) (es:(∀x∈rs,x.length<=15000000)) (iN:r.length<=15000000) (mR:ent (rs.getLastD []) r <+: l.drop i) (mS:After rs r) (mT:∀t,H t=ax->Q (.ref t) (upd H t (.tup [.str (aH r),.int ((i+(ent (rs.getLastD []) r).length:Nat):Int)])))
def YB(nb:dn mg)(F:dD K mg "read_entry" FI ["page","at","rows"] f fd)(sU:aY P w K mg zn 4 "read_count" ["signs","at"] RJ)(Er:aY P w K mg zn 3 "may_follow" ["rows","shared","rest"] Rn):aY P w K mg zn 5 "read_entry" ["page","at","rows"] RL:=by show_term
 refine F.eg vA (fun H vs Q E aw h=>?_);obtain⟨l,i,a,rs,r,rfl,aB,aF,aM,aV,ag,aeq,lS,hF,q⟩:=h
 refine⟨_,(aI (bM 3 vA.bj (bT sU aw (aj (ab 0) (aj (ab 1) az))))
  (aI (bM 4 vA.bj (bT sU aw (aj (ab 0) (aj (bW bY (ab 3) aC) az))))
  (aI (bM 5 vA.bj (aO el (bW bY (ab 4) aC) (bW bY (ab 4) aC)))
  (aI (bM 6 vA.bj (lK lX (ab 0) (kL (bW bY (ab 4) aC)) (kL (ab 5))))
  (aI (cw (gK.pt (lL (b9 kz (ab 5) (b8 dx rfl nb.dr dv (aj (ab 0) az))) (l9 (iJ (f6 (bT Er aw (aj (ab 2) (aj (bW bY (ab 3) aC) (aj (ab 6) az))))))))) (aJ kN) cx)
  (aI (bM 7 vA.bj (nv (f6 (ab 2)) (lK lX (bW bY (ab 2) (k7 k1 aC)) mB (kL (bW bY (ab 3) aC))) cY))
  (aJ (bt (jm (aj (aO el (ab 7) (ab 6)) (aj (ab 5) az))))))))))),?_⟩
 ac_rfl;have gj:(aH l).length<=cg:=by rw[dG];exact gW (by lia)
 have ad3:=Nl ag;obtain⟨c,hc⟩:∃c,c=eO (rs.getLastD []) r:=⟨_,rfl⟩;obtain⟨m,hm⟩:∃m,m=r.length-c:=⟨_,rfl⟩;have kP:=yl (a:=rs.getLastD []) (b:=r);have he:ent (rs.getLastD []) r=cnt c++(cnt m++r.drop c):=by unfold ent;rw[<-hc,<-hm,gL]
 rw[he]at lS q;rw[<-hc]at kP;have c4:=Nc lS;have Qg:=Nx lS;have cn:=Nc Qg;have sC:=Nx Qg;have f1:=G8 c4 aF;have f2:=G8 cn f1;have gi:=G8 sC f2;have y6:(r.drop c).length=m:=by rw[ie,hm]
 rw[y6]at gi;obtain⟨dC,nN⟩:∃dC,dC=i+(cnt c).length:=⟨_,rfl⟩;obtain⟨cW,mn⟩:∃cW,cW=dC+(cnt m).length:=⟨_,rfl⟩;have yQ:i+(cnt c++(cnt m++r.drop c)).length=cW+m:=by rw[dP,dP,y6];lia
 rw[yQ]at q;rw[<-nN]at cn sC f1 f2 gi;rw[<-mn]at sC f2 gi;have acp:(l.drop cW).take m=r.drop c:=by rw[<-y6];exact(List.prefix_iff_eq_take.mp sC).symm
 have tB:Txt.slice (aH l) (J ((cW:Nat):Int)) (J ((cW+m:Nat):Int))=aH (r.drop c):=by rw[aaz l cW m (by lia),acp]
 refine⟨_,I,_,I,l,i,c,I,by lia,aF,nz (by lia),c4,fun t1 IZ=>?_⟩;rw[<-nN];have kA:=cE (o:=cX.tup [V.int ((c:Nat):Int),V.int ((dC:Nat):Int)]) IZ;have a0:ed [V.int ((c:Nat):Int),V.int ((dC:Nat):Int)] 0=J (.int ((c:Nat):Int)):=cT (j:=0) rfl;have a1:ed [V.int ((c:Nat):Int),V.int ((dC:Nat):Int)] 1=J (.int ((dC:Nat):Int)):=cT (j:=1) rfl;refine⟨_,I,_,I,x0 aG a1 ⟨l,dC,m,I,by lia,f1,nz (by lia),cn,fun hb C8=>?_⟩⟩;rw[<-mn];have lr:=cE (o:=cX.tup [V.int ((m:Nat):Int),V.int ((cW:Nat):Int)]) C8;have Hr:ed [V.int ((m:Nat):Int),V.int ((cW:Nat):Int)] 0=J (.int ((m:Nat):Int)):=cT (j:=0) rfl;have fE:ed [V.int ((m:Nat):Int),V.int ((cW:Nat):Int)] 1=J (.int ((cW:Nat):Int)):=cT (j:=1) rfl;have PF:=lr _ _ (aG (H:=H) (a:=t1) (o:=cX.tup [V.int ((c:Nat):Int),V.int ((dC:Nat):Int)]));have r2:=lr _ _ (kA _ _ aM);have st:=kA.trans lr;refine⟨_,I,x0 aG fE ⟨_,I,x0 aG Hr (.inl ⟨_,_,I,I,?_⟩)⟩⟩;dsimp only;rw[show((cW:Nat):Int)+((m:Nat):Int)=((cW+m:Nat):Int)from rfl];refine⟨_,I,_,I,x0 aG fE ⟨_,I,_,I,_,I,.inr ⟨_,I,gj,?_⟩⟩⟩;rw[tB];refine⟨_,I,_,I,_,_,I,⟨gj,I⟩,_,_,I,I,_,I,fh (by rw[dG];lia) ?_⟩;refine⟨_,I,_,I,x0 PF a0 ⟨_,I,a,rs,r,(by rw[hc];rfl),r2,aV,(fun x aq=>by have:=ag x aq;lia),by lia,hF,ah,rfl,da ?_⟩⟩;have wA:aH ((rs.getLastD []).take c)++aH (r.drop c)=aH r:=by rw[j2,hc,U7]
 have hT:(aH ((rs.getLastD []).take c)).length+(aH (r.drop c)).length<=cg:=by rw[dG,dG,hN,y6];exact gW (by lia)
 refine⟨_,I,_,.inl ⟨_,ba r2,I⟩,?_⟩;by_cases aX:rs=[]
 ·have adu:ae.ofString ""=aH ((rs.getLastD []).take c):=by rw[aX,uv];simp
  have Ip:(cK rs).isEmpty=ah:=by rw[aX];rfl
  rw[Ip];refine da ?_;rw[adu];refine⟨_,I,_,I,.inr ⟨_,_,I,I,hT,_,I,(by show 2<=cg;decide),fun t3 tV=>?_⟩⟩;rw[wA];exact⟨_,.new (st.free tV) (st.trans (cE tV)) aG trivial,q t3 (st.free tV)⟩
 ·have Ip:(cK rs).isEmpty=aE:=by
   cases rs with
   |nil=>exact absurd I aX
   |cons x y=>rfl
  rw[Ip];have CU:(aH (rs.getLastD [])).length<=cg:=by rw[dG];exact gW (by lia)
  refine eP ⟨_,I,_,I,xz r2 (NW aX) ⟨_,I,x0 PF a0 ⟨_,I,.inr ⟨_,I,CU,?_⟩⟩⟩⟩;rw[GP _ c (by lia)];refine⟨_,I,_,I,.inr ⟨_,_,I,I,hT,_,I,(by show 2<=cg;decide),fun t3 tV=>?_⟩⟩;rw[wA];exact⟨_,.new (st.free tV) (st.trans (cE tV)) aG trivial,q t3 (st.free tV)⟩
inductive RN(vs:List V)(H:al)(Q:bI)(E:cB):Prop where
 |mk (rs:List (List Bool)) (aX:vs=[.str (aH (jE rs))]) (ai:l1 rs) (ar:rs.length<=62) (bz:(rs.map List.length).sum<=15000000) (c0:∀p,H p=ax->Q (.ref p) (upd H p (.lst (cK rs))))
def aaR(rs:List (List Bool))(j:Nat):(jE rs).drop ((cnt rs.length).length+(ents [] (rs.take j)).length)=ents ((rs.take j).getLastD []) (rs.drop j):=by
 have e:ents [] rs=ents [] (rs.take j)++ents ((rs.take j).getLastD []) (rs.drop j):=by rw[<-F9,List.take_append_drop]
 unfold jE;rw[e,<-gL,<-dP,List.drop_left]
def UH(rs:List (List Bool))(j:Nat):(cnt rs.length).length+(ents [] (rs.take j)).length<=(jE rs).length:=by
 have e:ents [] rs=ents [] (rs.take j)++ents ((rs.take j).getLastD []) (rs.drop j):=by rw[<-F9,List.take_append_drop]
 unfold jE;rw[e,dP,dP];lia
def Vh(h:l1 rs)(aw:rs[j]?=J r):After (rs.take j) r:=by
 cases j with
 |zero=>exact .inl I
 |succ j =>
  have b0:j<rs.length:=by have:=(gr.mp aw).1;lia
  have e:=cI b0;right;rw[aa4 e];exact Wj h e aw
def Y4(nb:dn mg)(F:dD K mg "read_rows" FV ["page"] f fd)(sU:aY P w K mg zn 4 "read_count" ["signs","at"] RJ)(Eu:aY P w K mg zn 5 "read_entry" ["page","at","rows"] RL):aY P w K mg zn 6 "read_rows" ["page"] RN:=by show_term
 refine F.eg vB (fun H vs Q E aw h=>?_);obtain⟨rs,rfl,hF,aV,ag,q⟩:=h
 refine⟨_,(aI (bM 1 vB.bj (bT sU aw (aj (ab 0) (aj aC az))))
  (aI (bM 2 vB.bj (hB az))
  (aI (bM 3 vB.bj (bW bY (ab 1) aC))
  (aI (qC iB.never (b9 iV (b8 dx rfl nb.dr dv (aj (ab 2) az)) (bW bY (ab 1) aC))
   (aI (bM 4 vB.bj (bT Eu aw (aj (ab 0) (aj (ab 3) (aj (ab 2) az)))))
   (aI (ik (hZ PySem.F.plainAttrs_list PySem.F.slot_list_append PySem.F.type_list_append qt (ab 2) (aj (bW bY (ab 4) aC) az)))
   (aJ (bM 3 vB.bj (bW bY (ab 4) aC))))))
  (aI (cw (b9 iV (ab 3) (b8 dx rfl nb.dr dv (aj (ab 0) az))) (aJ kN) cx)
  (aJ (bt (ab 2)))))))),?_⟩
 ac_rfl;have q2:=ag;have ag:∀r∈rs,r.length<=15000000:=fun r aw=>dF (B3 aw) q2
 have hq:(jE rs).length<=16000000:=by
  have es:=MP ag [];have iN:=vu (nz (n:=rs.length) (by lia));unfold jE;rw[dP];lia
 have gj:(aH (jE rs)).length<=cg:=by rw[dG];exact gW (by lia)
 have Ik:cnt rs.length <+: (jE rs).drop 0:=⟨ents [] rs,rfl⟩;refine⟨_,I,jE rs,0,rs.length,I,by lia,UF _,nz (by lia),Ik,fun t0 lg=>?_⟩;rw[Nat.zero_add];obtain⟨jt,mr⟩:∃jt,jt=(cnt rs.length).length:=⟨_,rfl⟩;rw[<-mr];have kA:=cE (o:=cX.tup [V.int ((rs.length:Nat):Int),V.int ((jt:Nat):Int)]) lg;have a0:ed [V.int ((rs.length:Nat):Int),V.int ((jt:Nat):Int)] 0=J (.int ((rs.length:Nat):Int)):=cT (j:=0) rfl;have a1:ed [V.int ((rs.length:Nat):Int),V.int ((jt:Nat):Int)] 1=J (.int ((jt:Nat):Int)):=cT (j:=1) rfl;refine⟨UF _,fun p aU=>?_⟩;have lr:=kA.trans (cE (o:=cX.lst []) aU);have IQ:=kA.free aU;have PE:=cE (o:=cX.lst []) aU _ _ (aG (H:=H) (a:=t0) (o:=cX.tup [V.int ((rs.length:Nat):Int),V.int ((jt:Nat):Int)]));have aen:p≠t0:=fun e=>by rw[e,aG]at aU;cases aU
 refine⟨_,I,x0 PE a1 ?_⟩
 refine⟨fun m U ao=>∃(j:Nat)(z:Option V),j<=rs.length/\m=rs.length-j/\U=[J (.str (aH (jE rs))),J (.ref t0),J (.ref p),J (.int ((jt+(ents [] (rs.take j)).length:Nat):Int)),z]/\dY H ao/\ao t0=J (.tup [V.int ((rs.length:Nat):Int),V.int ((jt:Nat):Int)])/\ao p=J (.lst (cK (rs.take j))),
  ⟨_,0,ax,UF _,rfl,rfl,lr,PE,aG⟩,?_⟩
 rintro m U ao ⟨j,z,b0,rfl,rfl,hs,aX,wz⟩;refine⟨_,I,_,_,I,.inl ⟨_,ba wz,I⟩,_,I,x0 aX a0 (.inl ⟨_,_,I,I,_,I,?_⟩)⟩;rw[ip,hN,Nat.min_eq_left b0];have hT:=UH rs j;rw[<-mr]at hT;refine fl (fun c=>?_) (fun c=>?_)
 ·have qY:j<rs.length:=by lia
  have hQ:=cI qY;generalize rs[j]=r at hQ
  have lS:ent ((rs.take j).getLastD []) r <+: (jE rs).drop (jt+(ents [] (rs.take j)).length):=by
   rw[mr,aaR]
   have kq:rs.drop j=r::rs.drop (j+1):=by
    rw[nq qY];rw[cI qY]at hQ;rw[gq hQ]
   rw[kq,ents];exact⟨_,I⟩
  have alG:=ag r (eY hQ);refine⟨fun b2 H'=>∃bU,bU<rs.length-j/\∃(j:Nat)(z:Option V),j<=rs.length/\bU=rs.length-j/\b2=[J (.str (aH (jE rs))),J (.ref t0),J (.ref p),J (.int ((jt+(ents [] (rs.take j)).length:Nat):Int)),z]/\dY H H'/\H' t0=J (.tup [V.int ((rs.length:Nat):Int),V.int ((jt:Nat):Int)])/\H' p=J (.lst (cK (rs.take j))),fun _ _ h=>h,?_⟩;refine⟨_,I,_,I,_,I,jE rs,jt+(ents [] (rs.take j)).length,p,rs.take j,r,I,by lia,hT,wz,(by rw[hN];lia),(fun x aq=>by have:=ag x (List.mem_of_mem_take aq);lia),by lia,lS,Vh hF hQ,fun t bc=>?_⟩;obtain⟨aS,CS⟩:∃aS,aS=jt+(ents [] (rs.take j)).length+(ent ((rs.take j).getLastD []) r).length:=⟨_,rfl⟩;rw[<-CS];have sG:=cE (o:=cX.tup [V.str (aH r),V.int ((aS:Nat):Int)]) bc;have C2:=sG _ _ wz;have Hr:ed [V.str (aH r),V.int ((aS:Nat):Int)] 0=J (.str (aH r)):=cT (j:=0) rfl;have fE:ed [V.str (aH r),V.int ((aS:Nat):Int)] 1=J (.int ((aS:Nat):Int)):=cT (j:=1) rfl;have aeo:t≠p:=fun e=>by rw[e,wz]at bc;cases bc
  refine⟨_,I,.inl ⟨I,_,ba C2⟩,_,I,x0 aG Hr ?_⟩;refine⟨_,_,_,I,I,C2,(by rw[ip,hN];exact fK (show min j rs.length<100000 by lia) (by decide)),?_⟩;refine⟨_,I,x0 (by rw[bC aeo];exact aG) fE ?_⟩;have HN:cK (rs.take j)++[V.str (aH r)]=cK (rs.take (j+1)):=by rw[iG,hQ,vS];rfl
  have HI:aS=jt+(ents [] (rs.take (j+1))).length:=by
   have e:=congrArg List.length (aaQ hQ);rw[dP,dP,dP]at e;lia
  rw[HN];exact⟨rs.length-(j+1),by lia,j+1,_,by lia,rfl,(by rw[<-HI];rfl),qG (hs.trans sG) IQ,(by rw[bC (ei aen)];exact sG _ _ aX),aG⟩
 ·have gx:j=rs.length:=by lia
  subst gx;have HI:jt+(ents [] (rs.take rs.length)).length=(jE rs).length:=by rw[List.take_length];unfold jE;rw[dP,mr]
  rw[HI];refine⟨_,I,_,I,_,_,I,⟨gj,I⟩,.inl ⟨_,_,I,I,_,I,fh (by rw[dG];lia) ?_⟩⟩;rw[List.take_length]at wz;exact⟨_,I,_,.new IQ hs wz trivial,q p IQ⟩
def Z9(nb:dn mg)(F:dD K mg "rows_of" Gv ["page"] f fd)(Ew:aY P w K mg zn 6 "read_rows" ["page"] RN):aY P w K mg zn 7 "rows_of" ["page"] RN:=by
 refine F.eg Z1 (fun H vs Q E aw h=>?_);obtain⟨rs,rfl,hF,aV,ag,q⟩:=h;refine⟨_,(aJ (VA (fun _=>(aJ (bt (bT Ew aw (aj (ab 0) az))))))),?_⟩;ac_rfl;exact⟨_,I,rs,I,hF,aV,ag,fun p aU=>⟨_,.new aU (cE aU) aG trivial,q p aU⟩⟩
def x5(x:List Bool)(rs:List (List Bool)):wG (.str (aH x)) (cK rs)=decide (x∈rs):=by
 unfold wG
 induction rs with
 |nil=>rfl
 | cons r rs bK =>
  show((aH r == aH x)||(cK rs).any fun y=>mO y (.str (aH x)))=decide (x∈r::rs);rw[bK];by_cases h:x=r
  .subst h;simp
  ·have:(aH r == aH x)=aE:=beq_false_of_ne fun z=>h (BN z).symm;rw[this];simp[h]
def xW(rs:List (List Bool)):(cK rs).all qM=ah:=by
 rw[ig];intro v bR;obtain⟨r,_,rfl⟩:=List.mem_map.mp bR;rfl
noncomputable def jU(bl:af)(m:Int)(l:af):List (ae×V):=[("form",.ref bl),("room",.int m),("rows",.ref l)]
structure oA(K:bS)(C:af):Prop where
 cl:fT K C
 lV:jL K C "form"
 Jh:jL K C "room"
 m4:jL K C "rows"
def ai9:¬(("form":ae)="room"):=⋯
def Qv:¬(("form":ae)="rows"):=⋯
def Qw:¬(("room":ae)="rows"):=⋯
def ai5:(("room":ae) == "form")=aE:=⋯
def ai6:(("rows":ae) == "form")=aE:=⋯
def ai7:(("rows":ae) == "room")=aE:=⋯
def ajg(bl:V):fg "form" bl []=([("form",bl)]:List (ae×V)):=rfl
def ajh(bl m:V):fg "room" m ([("form",bl)]:List (ae×V))=([("form",bl),("room",m)]:List (ae×V)):=by simp only[fg,ai9,if_false]
def aji(bl m l:V):fg "rows" l ([("form",bl),("room",m)]:List (ae×V))=([("form",bl),("room",m),("rows",l)]:List (ae×V)):=by simp only[fg,Qv,Qw,if_false]
def ajj(bl:af)(m:Int)(l et:af):fg "rows" (.ref et) (jU bl m l)=jU bl m et:=by simp only[jU,fg,Qv,Qw,if_false,if_true]
def DF(bl:af)(m:Int)(l:af):(jU bl m l).lookup ("form":ae)=J (.ref bl):=by simp[jU]
def Qy(bl:af)(m:Int)(l:af):(jU bl m l).lookup ("room":ae)=J (.int m):=by simp[jU,List.lookup,ai5]
def pq(bl:af)(m:Int)(l:af):(jU bl m l).lookup ("rows":ae)=J (.ref l):=by simp[jU,List.lookup,ai6,ai7]
def qi(bl:af)(m:Int)(l:af)(ai:rg ((x == ("form":ae))=aE) rru)(ar:rg ((x == ("room":ae))=aE) rru)(bz:rg ((x == ("rows":ae))=aE) rru):(jU bl m l).lookup x=ax:=by simp[jU,List.lookup,ai,ar,bz]
inductive RQ(C:af)(vs:List V)(H:al)(Q:bI)(E:cB):Prop where
 |mk (p ak bl:af) (m:Int) (aX:vs=[.ref p,.ref bl,.int m]) (ai:H p=J (.ins C ak [])) (ar:2<=m) (bz:m<=20) (c0:∀l,H l=ax->Q .bf (upd (upd H p (.ins C ak (jU bl m l))) l (.lst [])))
def Z8(HS:hi mg "LEAST_ROOM" (.int 2))(HX:hi mg "MOST_ROOM" (.int 20))(T:oA K C)(F:dN K "__init__" "Shelf.__init__" FR f fd):dh P w K mg zn dA 1 f fd ["self","form","room"] (RQ C):=by
 refine F.fo Yw (fun H vs Q E aw h=>?_);obtain⟨p,ak,bl,m,rfl,aU,ar,qO,q⟩:=h
 refine⟨_,(aI (cw (gK.pt (lL (b9 iV (ab 2) (mc HS)) (l9 (b9 kz (ab 2) (mc HX))))) (aJ kN) cx)
  (aI (i1 (ab 0) (ab 1) rfl)
  (aI (i1 (ab 0) (ab 2) rfl)
  (aJ (i1 (ab 0) (hB az) rfl))))),?_⟩
 ac_rfl;refine⟨_,I,.inl ⟨_,_,I,I,_,I,fh (by lia) ⟨_,I,_,_,I,I,_,I,fh (by lia) ?_⟩⟩⟩;refine⟨_,I,_,I,p,C,ak,_,I,aU,T.cl,T.lV,(by show 0<1000;decide),?_⟩;rw[ajg];refine⟨_,I,_,I,p,C,ak,_,I,aG,T.cl,T.Jh,(by show 1<1000;decide),?_⟩;rw[ajh,fW];refine⟨UF _,fun l aB=>?_⟩;have mq:l≠p:=fun z=>by rw[z,aG]at aB;cases aB
 have kv:H l=ax:=by rw[bC mq]at aB;exact aB
 refine⟨_,I,p,C,ak,_,I,(by rw[bC (ei mq)];exact aG),T.cl,T.m4,(by show 2<1000;decide),?_⟩;rw[aji];refine⟨_,Sub.I9 (o:=cX.lst []) aU kv (fun b u ag e=>?_) aG (by rw[bC mq];exact aG) trivial,q l kv⟩;rw[bC ag,bC (fe e kv),bC ag];exact e
def oz(H:al)(s C ak bl:af)(m:Int)(l:af)(rs:List (List Bool)):Prop:=H s=J (.ins C ak (jU bl m l))/\H l=J (.lst (cK rs))
inductive RG(C:af)(c:ey)(n:Nat)(vs:List V)(H:al)(Q:bI)(E:cB):Prop where
 |mk (s ak bl l:af) (m:Int) (v:V) (g:bH) (d:D) (rs:List (List Bool)) (aX:vs=[.ref s,v]) (ai:oz H s C ak bl m l rs) (ar:b6 c [] H g bl) (bz:ll hasAll g) (c0:bc g<=n) (es:dj H d v) (iN:bJ cy g d=ah) (mR:(aT bL g d).length<=15000000) (mS:rs.length<60) (mT:(aT bL g d∈rs->Q (.aK aE) H)) (CD:(aT bL g d∉rs->∀et ss,H et=ax->ss.Pairwise jg->ss.Perm (rs++[aT bL g d])->Q (.aK ah) (upd (upd H s (.ins C ak (jU bl m et))) et (.lst (cK ss)))))
def WD(nb:dn mg)(T:oA K C)(F:dN K "put" "Shelf.put" Bs f fd)(lB:hy P w K mg zn (2*n+5) "row" ["self","value"] (fX c) (fun _=>w6 hasAll cy bL c n)):dh P w K mg zn dA (2*n+6) f fd ["self","value"] (RG C c n):=by
 refine F.fo LZ (fun H vs Q E aw h=>?_);obtain⟨p,ak,bl,l,m,v,g,d,rs,rfl,⟨aU,aB⟩,dk,aP,dq,hd,aA,c1,aV,ck,b1⟩:=h;obtain⟨yu,yC,aL,aS⟩:=b6.row g dk
 refine⟨_,(aI (bM 2 LZ.bj (ij lB aw (d6 (ab 0) I) (aj (ab 1) az)))
  (aI (cw (x8 GC (ab 2) (d6 (ab 0) rfl) (by with_unfolding_all rfl)) (aJ (bt jf)) cx)
  (aI (i1 (ab 0) (b8 Zj rfl nb.ajd Uh (aj (aO Lp (d6 (ab 0) rfl) (hB (aj (ab 2) az))) az)) rfl)
  (aJ (bt jf))))),?_⟩
 ac_rfl;generalize C3:aT bL g d=r at c1 ck b1;refine⟨_,I,p,C,ak,_,_,I,aU,T.cl,T.lV,DF ..,bl,slot g,yu,yC,I,aL,aS,_,I,slot g,bl,g,v,d,I,I,dk,aP,dq,hd,aA,by rw[C3];exact c1,?_⟩;rw[C3];by_cases aq:r∈rs
 ·refine⟨_,I,_,I,p,C,ak,_,_,I,aU,T.cl,T.m4,pq ..,l,cK rs,I,.inl (ba aB),I,xW rs,ah,(by rw[x5,eT aq];rfl),eP ?_⟩;exact⟨H,.refl (c5 _),ck aq⟩
 ·refine⟨_,I,_,I,p,C,ak,_,_,I,aU,T.cl,T.m4,pq ..,l,cK rs,I,.inl (ba aB),I,xW rs,aE,(by rw[x5,fL aq];rfl),da ?_⟩;refine⟨_,I,p,C,ak,_,_,I,aU,T.cl,T.m4,pq ..,_,I,(by show 1<=cg;decide),fun cn mv=>?_⟩;have QA:=cE (o:=cX.lst [V.str (aH r)]) mv;refine⟨l,cn,_,_,I,I,QA _ _ aB,aG,(by rw[ip];exact gW (by show rs.length+1<=_;lia)),fun sC C2=>?_⟩;have gw:cK rs++[V.str (aH r)]=cK (rs++[r]):=(vS rs [r]).symm;rw[gw];have QB:=QA.trans (cE (o:=cX.lst (cK (rs++[r]))) C2);refine⟨sC,rs++[r],I,ba aG,(by rw[dP];show rs.length+1<64;lia),fun ss C7 aej zC Px=>?_⟩;have QC:=QB.trans (cE (o:=cX.lst (cK ss)) Px);have H2:H zC=ax:=QB.free Px;have P1:zC≠p:=(fe aU H2).symm;refine⟨_,I,p,C,ak,_,I,QC _ _ aU,T.cl,T.m4,(by show 3<1000;decide),?_⟩;rw[ajj];refine⟨_,Sub.I9 (o:=cX.lst (cK ss)) aU H2 (fun b u ag e=>?_) aG (by rw[bC P1];exact aG) trivial,b1 aq zC ss H2 C7 aej⟩;rw[bC ag];exact QC b u e
def NP{l a:af}(h:H l=J (.lst xs))(x:lF H a o):lF (upd H l (.lst ay)) a o:=by
 induction o with
 |ins C ak fs =>
  have fJ:H ak=J (.own a):=x;show upd H l (.lst ay) ak=J (.own a);rw[bC fun z=>by rw[z,h]at fJ;cases fJ];exact fJ
 |iM eh u bK=>exact bK x
 |_=>trivial
def Vp{l:af}(h:H l=J (.lst xs)):c7.Sub H (upd H l (.lst ay)) (upd H l (.lst ay)):=by
 refine .all (fun b o e=>?_) fun c a u e=>?_
 ·by_cases z:b=l
  .subst z;exact⟨_,aG⟩
  .exact⟨o,by rw[bC z];exact e⟩
 ·by_cases z:a=l
  .subst z;rw[aG]at e;cases e;trivial
  ·rw[bC z]at e;exact NP h (c a u e)
theorem Nt{r:List Bool}:∀{rs:List (List Bool)},r∈rs->∃k:Nat,rs[k]?=J r/\∀j:Nat,j<k->rs[j]?≠J r
 |[],h=>nomatch h
 | x::rs,h=>by
  by_cases z:x=r
  .exact⟨0,by rw[z];rfl,fun j b0=>absurd b0 (Nat.not_lt_zero _)⟩
  ·obtain⟨k,e,n⟩:=Nt ((dd.mp h).resolve_left (ei z))
   exact⟨k+1,e,fun j b0=>by
    cases j with
    |zero=>exact fun q=>z (gq q)
    |succ j=>exact n j (by lia)⟩
inductive R2(C:af)(c:ey)(n:Nat)(vs:List V)(H:al)(Q:bI)(E:cB):Prop where
 |mk (s ak bl l:af) (m:Int) (v:V) (g:bH) (d:D) (rs:List (List Bool)) (aX:vs=[.ref s,v]) (ai:oz H s C ak bl m l rs) (ar:b6 c [] H g bl) (bz:ll hasAll g) (c0:bc g<=n) (es:dj H d v) (iN:bJ cy g d=ah) (mR:(aT bL g d).length<=15000000) (mS:rs.length<60) (mT:(aT bL g d∉rs->Q (.aK aE) H)) (CD:∀k,rs[k]?=J (aT bL g d)->Q (.aK ah) (upd H l (.lst (cK (rs.eraseIdx k)))))
def VP(nb:dn mg)(T:oA K C)(F:dN K "take" "Shelf.take" Bk f fd)(lB:hy P w K mg zn (2*n+5) "row" ["self","value"] (fX c) (fun _=>w6 hasAll cy bL c n)):dh P w K mg zn dA (2*n+6) f fd ["self","value"] (R2 C c n):=by
 refine F.fo LV (fun H vs Q E aw h=>?_);obtain⟨p,ak,bl,l,m,v,g,d,rs,rfl,⟨aU,aB⟩,dk,aP,dq,hd,aA,c1,aV,ck,b1⟩:=h;obtain⟨yu,yC,aL,aS⟩:=b6.row g dk
 refine⟨_,(aI (bM 2 LV.bj (ij lB aw (d6 (ab 0) I) (aj (ab 1) az)))
  (aI (cw (x8 Y1 (ab 2) (d6 (ab 0) rfl) (by with_unfolding_all rfl)) (aJ (bt jf)) cx)
  (aI (ik (hZ PySem.F.plainAttrs_list PySem.F.slot_list_remove PySem.F.type_list_remove aa0 (d6 (ab 0) rfl) (aj (ab 2) az)))
  (aJ (bt jf))))),?_⟩
 ac_rfl;refine⟨_,I,p,C,ak,_,_,I,aU,T.cl,T.lV,DF ..,bl,slot g,yu,yC,I,aL,aS,_,I,_,bl,g,v,d,I,I,dk,aP,dq,hd,aA,by lia,?_⟩;generalize aT bL g d=r at c1 ck b1 ⊢;by_cases aq:r∈rs
 ·obtain⟨k,kO,af6⟩:=Nt aq;refine⟨_,I,_,I,p,C,ak,_,_,I,aU,T.cl,T.m4,pq ..,l,cK rs,I,.inl (ba aB),I,xW _,aE,(by rw[x5,eT aq];rfl),da ?_⟩;refine⟨_,I,p,C,ak,_,_,I,aU,T.cl,T.m4,pq ..,.inl ⟨I,_,ba aB⟩,_,I,l,rs,r,k,I,I,aB,kO,af6,by lia,?_⟩;exact⟨_,Vp aB,b1 k kO⟩
 ·refine⟨_,I,_,I,p,C,ak,_,_,I,aU,T.cl,T.m4,pq ..,l,cK rs,I,.inl (ba aB),I,xW _,ah,(by rw[x5,fL aq];rfl),eP ?_⟩;exact⟨H,.refl (c5 _),ck aq⟩
inductive Q8(C:af)(c:ey)(n:Nat)(vs:List V)(H:al)(Q:bI)(E:cB):Prop where
 |mk (s ak bl l:af) (m:Int) (v:V) (g:bH) (d:D) (rs:List (List Bool)) (aX:vs=[.ref s,v]) (ai:oz H s C ak bl m l rs) (ar:b6 c [] H g bl) (bz:ll hasAll g) (c0:bc g<=n) (es:dj H d v) (iN:bJ cy g d=ah) (mR:(aT bL g d).length<=15000000) (mS:Q (.aK (decide (aT bL g d∈rs))) H)
def WE(nb:dn mg)(T:oA K C)(F:dN K "has" "Shelf.has" Bt f fd)(lB:hy P w K mg zn (2*n+5) "row" ["self","value"] (fX c) (fun _=>w6 hasAll cy bL c n)):dh P w K mg zn dA (2*n+6) f fd ["self","value"] (Q8 C c n):=by
 refine F.fo YY (fun H vs Q E aw h=>?_);obtain⟨p,ak,bl,l,m,v,g,d,rs,rfl,⟨aU,aB⟩,dk,aP,dq,hd,aA,c1,q⟩:=h;obtain⟨yu,yC,aL,aS⟩:=b6.row g dk;refine⟨_,(aJ (bt (G9 GC (ij lB aw (d6 (ab 0) I) (aj (ab 1) az)) (d6 (ab 0) rfl) (by with_unfolding_all rfl)))),?_⟩;ac_rfl;refine⟨_,I,p,C,ak,_,_,I,aU,T.cl,T.lV,DF ..,bl,slot g,yu,yC,I,aL,aS,_,I,_,bl,g,v,d,I,I,dk,aP,dq,hd,aA,by lia,?_⟩;refine⟨_,I,p,C,ak,_,_,I,aU,T.cl,T.m4,pq ..,l,cK rs,I,.inl (ba aB),I,xW rs,H,.refl (c5 _),?_⟩;rw[x5];exact q
inductive RS(C:af)(vs:List V)(H:al)(Q:bI)(E:cB):Prop where
 |mk (s ak bl l:af) (m:Int) (rs:List (List Bool)) (aX:vs=[.ref s]) (ai:oz H s C ak bl m l rs) (ar:rs.length<=1000) (bz:Q (.int ((rs.length:Nat):Int)) H)
def VQ(nb:dn mg)(T:oA K C)(F:dN K "size" "Shelf.size" Bl f fd):dh P w K mg zn dA 1 f fd ["self"] (RS C):=by
 refine F.fo Yv (fun H vs Q E aw h=>?_);obtain⟨p,ak,bl,l,m,rs,rfl,⟨aU,aB⟩,aV,q⟩:=h;refine⟨_,(aJ (bt (b8 dx I nb.dr dv (aj (d6 (ab 0) I) az)))),?_⟩;ac_rfl;refine⟨_,I,p,C,ak,_,_,I,aU,T.cl,T.m4,pq ..,_,_,I,.inl ⟨_,ba aB,I⟩,H,.refl (c5 _),?_⟩;rw[ip];exact q
noncomputable def Cu(row:List Bool):V->Bool
 |.str e=>decide ((aH row).cps.toList<e.cps.toList)
 |_=>ah
noncomputable def kd(st:List Bool)(bX:V)(r:List Bool):Bool:=!decide ((aH r).cps.toList<(aH st).cps.toList)&&Cu r bX
noncomputable def Dg(st:List Bool)(bX:V):V->Bool
 |.str z=>!decide (z.cps.toList<(aH st).cps.toList)&&(match bX with|.str e=>decide (z.cps.toList<e.cps.toList)|_=>ah)
 |_=>aE
def MH(st:List Bool)(bX:V)(r:List Bool):Dg st bX (.str (aH r))=kd st bX r:=by
 cases bX<;>rfl
def aag(st:List Bool)(bX:V)(g:D->List Bool)(aZ:List D):List.map id (List.filter (Dg st bX) (cK (aZ.map g)))=cK ((aZ.filter fun d=>kd st bX (g d)).map g):=by
 rw[List.map_id];unfold cK;rw[gg,gg,List.filter_map,show(Dg st bX ∘ ((fun r=>V.str (aH r)) ∘ g))=fun d=>kd st bX (g d)from funext fun d=>MH st bX (g d)]
inductive R5(C:af)(c:ey)(n:Nat)(vs:List V)(H:al)(Q:bI)(E:cB):Prop where
 |mk (s ak bl l:af) (m:Int) (g:bH) (aZ:List D) (st:List Bool) (bX:V) (aX:vs=[.ref s,.str (aH st),bX]) (ai:oz H s C ak bl m l (aZ.map (aT bL g))) (ar:b6 c [] H g bl) (bz:ll hasAll g) (c0:bc g<=n) (es:(∀d,d∈aZ->bJ cy g d=ah/\(aT bL g d).length<=15000000)) (iN:aZ.length<=60) (mR:(bX=.bf\/∃e,bX=.str (aH e))) (mS:∀r ws H',H r=ax->Ext H H'->H' r=J (.lst ws)->bx (cS.of H) H' (aZ.filter fun d=>kd st bX (aT bL g d)) ws->Q (.ref r) H')
def VO(nb:dn mg)(T:oA K C)(F:dN K "told" "Shelf.told" Bj f fd)(Et:aY P w K mg zn (2*n+6) "read_all" ["form","signs"] (RI hasAll cy bL c n)):dh P w K mg zn dA (2*n+7) f fd ["self","start","end"] (R5 C c n):=by show_term
 refine F.fo LU (fun H vs Q E aw h=>?_);obtain⟨p,ak,bl,l,m,g,aZ,st,bX,rfl,⟨aU,aB⟩,dk,aP,dq,tN,aV,adK,q⟩:=h
 refine⟨_,(aI (pR (i:=3)  ["row"] [(1,"start"),(2,"end")] LU.bj I I I ⋯ ⟨I,.inl I,I,.inl I,trivial⟩ (h4 (d6 (ab 0) I)) (d5 (i:=0) (show(["row","start","end"]:List ae).Nodup by decide+kernel)) (G7 (gK.pt (oL (b9 Qb (ab 1) (ab 0)) (pS (gK.pt (lL (b9 B8 (ab 2) pV) (l9 (b9 iV (ab 0) (ab 2))))))))) (ab 0))
  (aJ (bt (hO ["row"] [(0,"self")] rfl ⋯ ⟨rfl,.inl rfl,trivial⟩ (h4 (ab 3)) (d5 (i:=0) (show(["row","self"]:List ae).Nodup by decide+kernel)) gs (bT Et aw (aj (d6 (ab 1) rfl) (aj (ab 0) az))))))),?_⟩
 ac_rfl;refine fN fun N bP =>.inl ⟨_,I,p,C,ak,_,_,I,aU,T.cl,T.m4,pq ..,l,I,⟨_,ba aB⟩,fun c3 ec=>?_⟩;refine ZQ (K:=K) (a:=l) (xs:=cK (aZ.map (aT bL g))) (Dg st bX) id (fun U=>∃z,U=[z,J (.str (aH st)),J bX]) (by rw[ip,cA];exact gW (by lia)) ⟨_,I⟩ ec (ba aB) ?_ ?_
 ·rintro x aq bE H1 ⟨z,rfl⟩ eo R jz bN;obtain⟨r,y5,rfl⟩:=List.mem_map.mp aq;have bN:=bN [J (.str (aH r)),J (.str (aH st)),J bX] ⟨_,rfl⟩;rw[MH]at bN;refine⟨_,I,_,I,.inr ⟨_,_,I,I,_,I,?_⟩⟩;have aL:kd st bX r=(!decide ((aH r).cps.toList<(aH st).cps.toList)&&Cu r bX):=rfl;cases ai:(!decide ((aH r).cps.toList<(aH st).cps.toList))with
  |false =>
   rw[aL,ai,Bool.false_and,if_neg (by decide)]at bN;exact da (da bN)
  | true =>
   rw[aL,ai,Bool.true_and]at bN;refine eP ?_;rcases adK with rfl|⟨e,rfl⟩
   ·rw[show Cu r V.bf=ah from rfl,if_pos rfl]at bN;exact⟨_,I,I,_,I,hU I (eP ⟨_,I,bN⟩)⟩
   ·refine⟨_,I,I,_,I,fh (fun z=>nomatch z) ⟨_,I,_,I,.inr ⟨_,_,I,I,_,I,?_⟩⟩⟩;have aS:Cu r (V.str (aH e))=decide ((aH r).cps.toList<(aH e).cps.toList):=rfl;rw[aS]at bN;cases ar:decide ((aH r).cps.toList<(aH e).cps.toList)with
    |false =>
     rw[ar,if_neg (by decide)]at bN;exact da bN
    |true =>
     rw[ar,if_pos rfl]at bN;exact eP ⟨_,I,bN⟩
 rw[aag];obtain⟨fG,p7⟩:∃fG,fG=aZ.filter fun d=>kd st bX (aT bL g d):=⟨_,rfl⟩;rw[<-p7]at q ⊢;have adO:∀d,d∈fG->bJ cy g d=ah/\(aT bL g d).length<=15000000:=fun d hd=>tN d (by rw[p7]at hd;exact(List.mem_filter.mp hd).1);have CT:fG.length<=60:=by rw[p7];exact dF (List.length_filter_le ..) aV
 have iu:Ext H (upd H c3 (.lst (cK (fG.map (aT bL g))))):=Ext.lst ec;have HD:upd H c3 (.lst (cK (fG.map (aT bL g)))) c3=J (.lst (cK (fG.map (aT bL g)))):=aG;generalize upd H c3 (.lst (cK (fG.map (aT bL g))))=H1 at iu HD ⊢;refine bP _ _ (.inl ⟨_,I,c3,I,⟨_,ba HD⟩,fun gC hR=>?_⟩);refine qF (K:=K) (a:=c3) (xs:=cK (fG.map (aT bL g))) (fun i ay ao=>Ext H1 ao/\bx (cS.j4 gC (cS.of H)) ao (fG.take i) ay) (fun U=>∃z,U=[z,J (.ref p)]) (by rw[ip,cA];lia) ⟨_,I⟩ ?_ ⟨Ext.lst hR,I⟩ ?_ ?_
 ·rintro i ay ao ⟨iZ,_⟩;exact ba (iZ.s _ _ HD)
 ·rintro i x aq ay bE ao ⟨z,rfl⟩ ⟨iZ,eB⟩ hS _ R bN
  obtain⟨d,hd,rfl⟩:∃d,fG[i]?=J d/\x=V.str (aH (aT bL g d)):=by
   rw[eD,eD]at aq;cases e:fG[i]? with
   |none=>rw[e]at aq;cases aq
   |some d=>rw[e]at aq;exact⟨d,I,(gq aq).symm⟩
  obtain⟨f1,f2⟩:=adO d (eY hd);have vC:=iu.trans iZ;refine⟨_,I,p,C,ak,_,_,I,vC.s _ _ aU,T.cl,T.lV,DF ..,_,I,bl,g,d,I,b6.keep (fun b u _ e=>vC.s b u e) g dk,aP,dq,f2,f1,fun v bp lI bR=>?_⟩;have kt:=lI.s _ _ hS;refine bN _ _ _ ⟨_,I⟩ kt ⟨Ext.set hR (iZ.trans lI) kt,?_⟩;have jo:fG.take (i+1)=fG.take i++[d]:=by rw[iG,hd];rfl
  rw[jo]
  have k:∀b u,b∉(cS.j4 gC (cS.of H))->bp b=J u->upd bp gC (.lst (ay++[v])) b=J u:=fun b u nb e=>by
   rw[bC fun z=>nb (show b=gC\/b∈cS.of H from .inl z)];exact e
  exact bx.snoc (b5.keep k _ (b5.weak (X:=(cS.j4 gC (cS.of H))) (Y:=cS.of ao) (fun x aq=>(show x=gC\/x∈cS.of H from aq).elim (fun e=>by rw[e];exact⟨_,hS⟩) fun⟨o,e⟩=>⟨o,vC.s _ _ e⟩) _ bR)) _ (bx.keep k _ (bx.keep (fun b u _ e=>lI.s b u e) _ eB))
 rintro ay ao jr ade ⟨iZ,eB⟩;rw[ip,cA,List.take_length]at eB;exact⟨_,(iu.trans iZ).sub,q gC ay ao (iu.s.free hR) (iu.trans iZ) ade (bx.weak (fun x aq=>cS.dT aq) _ eB)⟩
structure K2(rs:List (List Bool)):Prop where
 a:l1 rs
 n:rs.length<=62
 b:(rs.map List.length).sum<=15000000
noncomputable def jT(n m:Nat):Nat:=(de.Range.rangeSize 0 (n:Int) (m:Int)).toNat
noncomputable def chunk(rs:List (List Bool))(m i:Nat):List (List Bool):=(rs.drop (i*m)).take m
noncomputable def pf(rs:List (List Bool))(m:Nat):List (List Bool):=(List.range (jT rs.length m)).map fun i=>jE (chunk rs m i)
def Hn{n:Nat}(hm:0<m):i<jT n m↔i*m<n:=by
 unfold jT de.Range.rangeSize;rw[if_pos (by lia)];by_cases h:(0:Int)<(n:Int)
 ·rw[if_pos h]
  have e:((n:Int)-0-1)/(m:Int)=(((n-1)/m:Nat):Int):=by
   rw[show(n:Int)-0-1=((n-1:Nat):Int) by lia];exact(Int.natCast_ediv _ _).symm
  rw[e];have this:∀d:Nat,((d:Int)+1).toNat=d+1:=fun d=>by lia
  rw[this,Nat.lt_succ_iff,Nat.le_div_iff_mul_le hm];lia
 ·rw[if_neg h];have:n=0:=by lia
  subst this;simp
def WG{n:Nat}(hm:0<m):jT n m<=n:=by
 rcases g5 n (jT n m)with z|z
 ·have:=(Hn hm).mp z;have ar:=Nat.le_mul_of_pos_right n hm;lia
 .exact z
def abo(rs:List (List Bool))(m i:Nat)(h:i*m<rs.length):p0 (cK rs) (J ((i*m:Nat):Int)) (J (((i*m:Nat):Int)+(m:Int)))=cK (chunk rs m i):=by
 unfold p0 chunk
 have ai:du.fS (cK rs).length 0 (J ((i*m:Nat):Int))=i*m:=by
  unfold du.fS;dsimp only;rw[if_neg (by lia),ip];lia
 have ar:du.fS (cK rs).length (cK rs).length (J (((i*m:Nat):Int)+(m:Int)))=min (i*m+m) rs.length:=by
  unfold du.fS;dsimp only;rw[if_neg (by lia),ip];lia
 rw[ai,ar];unfold cK;rw[<-List.map_drop,<-List.map_take];congr 1;rcases Nat.le_total (i*m+m) rs.length with z|z
 .rw[Nat.min_eq_left z,Nat.add_sub_cancel_left]
 .rw[Nat.min_eq_right z,UV (by rw[ie];exact cp _),UV (by rw[ie];lia)]
def MU(rs:List (List Bool))(m i:Nat):(chunk rs m i).Sublist rs:=(List.take_sublist ..).trans (List.drop_sublist ..)
inductive RA(C:af)(vs:List V)(H:al)(Q:bI)(E:cB):Prop where
 |mk (s ak bl l:af) (m:Nat) (rs:List (List Bool)) (aX:vs=[.ref s]) (ai:oz H s C ak bl ((m:Nat):Int) l rs) (ar:2<=m) (bz:m<=20) (c0:K2 rs) (es:∀D,H D=ax->Q (.ref D) (upd H D (.lst (cK (pf rs m)))))
def UI(nb:dn mg)(T:oA K C)(F:dN K "pages" "Shelf.pages" AS f fd)(Es:aY P w K mg zn 4 "page_of" ["rows"] Ry):dh P w K mg zn dA 5 f fd ["self"] (RA C):=by
 refine F.fo X6 (fun H vs Q E aw h=>?_);obtain⟨p,ak,bl,l,m,rs,rfl,⟨aU,aB⟩,ar,qO,R,q⟩:=h;have aV:=R.n;refine⟨_,(aJ (bt (hO ["k"] [(0,"self")] I ⋯ ⟨I,.inl I,trivial⟩ (aaM I nb.kV (aj aC (aj (b8 dx I nb.dr dv (aj (d6 (ab 0) I) az)) (aj (d6 (ab 0) I) az)))) (d5 (i:=0) (show(["k","self"]:List ae).Nodup by decide+kernel)) gs (bT Es aw (aj (lK lX (d6 (ab 1) rfl) (kL (ab 0)) (kL (aO el (ab 0) (d6 (ab 1) rfl)))) az))))),?_⟩;ac_rfl;refine⟨_,I,p,C,ak,_,_,I,aU,T.cl,T.m4,pq ..,_,_,I,.inl ⟨_,ba aB,I⟩,?_⟩;refine⟨_,I,p,C,ak,_,_,I,aU,T.cl,T.Jh,Qy ..,0,_,((m:Nat):Int),I,⟨by lia,by lia,by lia,by rw[ip];lia,by lia,by lia⟩,fun D c2=>?_⟩;have bX:(de.Range.rangeSize 0 (((cK rs).length:Nat):Int) ((m:Nat):Int)).toNat=jT rs.length m:=by rw[ip];rfl
 rw[bX];have alB:=WG (n:=rs.length) (m:=m) (by lia);refine Ud (fun i=>V.str (aH (jE (chunk rs m i)))) (fun U=>∃z,U=[z,J (.ref p)]) (by lia) ⟨_,I⟩ c2 ?_ ?_
 ·rintro i aF bE H1 ⟨z,rfl⟩ eo jz bN;have Iy:=(Hn (by lia)).mp aF;have kO:(0:Int)+((i:Nat):Int)*((m:Nat):Int)=((i*m:Nat):Int):=by rw[Int.zero_add];exact(Int.natCast_mul i m).symm
  rw[kO];have kR:=eo _ _ aU;have lR:=eo _ _ aB;refine⟨_,I,p,C,ak,_,_,I,kR,T.cl,T.m4,pq ..,_,I,_,I,_,I,_,I,p,C,ak,_,_,I,kR,T.cl,T.Jh,Qy ..,.inl ⟨_,_,I,I,?_⟩⟩;refine⟨_,I,.inl ⟨l,_,I,ba lR,fun cn mv=>?_⟩⟩;rw[abo rs m i Iy];have sub:=MU rs m i;have kP:=sub.length_le;refine⟨cn,chunk rs m i,I,aG,by lia,dF (NI sub) R.b,yo.mpr ((yo.mp R.a).sublist sub),?_⟩;exact bN _ _ ⟨_,I⟩ (cE mv)
 ·intro H' ka jQ;have e:(List.range (jT rs.length m)).map (fun i=>V.str (aH (jE (chunk rs m i))))=cK (pf rs m):=by unfold cK pf;rw[gg];rfl
  rw[e]at jQ;exact⟨_,.new c2 ka jQ trivial,q D c2⟩
mutual
noncomputable def nl:D->Nat
 |.bf=>0
 |.aK _=>0
 |.int _=>0
 |.str _=>0
 |.tup ds=>eM ds
 |.lst ds=>eM ds+1
noncomputable def eM:List D->Nat
 |[]=>0
 |d::ds=>nl d+eM ds
end
theorem x3:∀(ds:List D)(i:Nat),eM (ds.take (i+1))=eM (ds.take i)+nl (ds.getD i .bf)
 |[],i=>by rw[List.take_nil,List.take_nil,List.getD_nil,eM,nl]
 |d::ds,0=>by rw[List.take_succ_cons,List.take_zero,List.take_zero,eM,eM,Nat.zero_add];rfl
 |d::ds,i+1=>by
  rw[List.take_succ_cons,List.take_succ_cons,eM,eM,x3 ds i,Nat.add_assoc];rfl
theorem yk:∀(ds:List D)(i:Nat),eM (ds.take i)<=eM ds
 |[],i=>by rw[List.take_nil];exact cp _
 |d::ds,0=>by rw[List.take_zero,eM];exact UF _
 |d::ds,i+1=>by
  rw[List.take_succ_cons,eM,eM];have:=yk ds i;lia
structure gI(X:cS)(H1:al)(m c:Nat)(H H':al):Prop where
 k:∀b u,H b=J u->H' b=J u\/∃(ds:List D)(vs:List V)(k:Nat),u=.lst vs/\H' b=J (.lst (vs++List.replicate k .bf))/\k<=c/\b5 X H1 (.lst ds) (.ref b)/\dK (.lst ds)<=m
 c:jH H->jH H'
def gI.ext{X:cS}{c:Nat}(e:Ext H H'):gI X H1 m c H H':=⟨fun b u q =>.inl (e.s b u q),e.c⟩
def gI.weak{X:cS}{c:Nat}(h:gI X H1 m c H H')(hm:m<=bU)(hc:c<=i2):gI X H1 bU i2 H H':=⟨fun b u q=>by
 rcases h.k b u q with z|⟨ds,vs,k,aL,aS,gw,ho,p2⟩
 .exact .inl z
 .exact .inr ⟨ds,vs,k,aL,aS,dF gw hc,ho,dF p2 hm⟩,h.c⟩
def gI.trans{X:cS}{A C:al}{c:Nat}(h:gI X H1 m c A B)(g:gI X H1 m i2 B C):gI X H1 m (c+i2) A C:=⟨fun b u q=>by
 rcases h.k b u q with z|⟨ds,vs,k,aL,aS,gw,ho,p2⟩
 ·rcases g.k b u z with y|⟨ds,vs,k,aL,aS,gw,ho,p2⟩
  .exact .inl y
  .exact .inr ⟨ds,vs,k,aL,aS,by lia,ho,p2⟩
 ·rcases g.k b _ aS with y|⟨j7,pB,gz,f1,f2,gi,f4,hp⟩
  .exact .inr ⟨ds,vs,k,aL,y,by lia,ho,p2⟩
  ·injection f1 with f1;subst f1;refine .inr ⟨ds,vs,k+gz,aL,?_,by lia,ho,p2⟩
   rw[f2,gL,List.replicate_append_replicate],fun z=>g.c (h.c z)⟩
def gI.sub{X:cS}{c:Nat}(h:gI X H1 m c H H'):c7.Sub H H' H' :=.all (fun b u e=>by
 rcases h.k b u e with z|⟨_,_,_,_,aS,_⟩
 .exact⟨_,z⟩
 .exact⟨_,aS⟩) h.c
theorem gI.at{X:cS}{c:Nat}{a:af}{d:D}(h:gI X H1 m c H H')(hd:b5 X H1 d (.ref a))(hm:m<dK d)(e:H a=J u):H' a=J u:=by
 rcases h.k a u e with z|⟨ds,_,_,_,_,_,ho,p2⟩
 .exact z
 ·rw[dj.inj _ _ (b5.at _ hd) (b5.at _ ho)]at hm;lia
def gI.old{c:Nat}(x:Ext sX H1)(h:gI (cS.of sX) H1 m c H1 ao):Ext sX ao:=⟨fun b u e=>by
 rcases h.k b u (x.s b u e)with z|⟨ds,_,_,_,_,_,⟨a,_,cL,aV,_⟩,_⟩
 .exact z
 ·injection cL with cL;subst cL
  exact absurd ⟨u,e⟩ aV,fun z=>h.c (x.c z)⟩
theorem bx.Jn{X:cS}{H:al}:∀(ds:List D){vs:List V}{k i:Nat}{x:V},bx X H ds vs->(vs++List.replicate k V.bf)[i]?=J x->b5 X H (ds.getD i .bf) x
 |[],vs,k,i,x,h,e=>by
  obtain rfl:vs=[]:=h;rw[List.nil_append,List.getElem?_replicate]at e;split at e
  .cases e;exact rfl
  .cases e
 |d::ds,vs,k,0,x,h,e=>by
  obtain⟨v,r,rfl,q,b1⟩:=h;cases e;exact q
 |d::ds,vs,k,i+1,x,h,e=>by
  obtain⟨v,r,rfl,q,b1⟩:=h;exact bx.Jn ds b1 e
def N2(ds:List D)(i:Nat):ds.getD i .bf=.bf\/dK (ds.getD i .bf)<=er ds:=by
 rw[eJ];cases e:ds[i]? with
 |none=>exact .inl I
 |some d=>exact .inr (nA ds (eY e))
def gI.part{X:cS}(h:gI X H1 (dK (ds.getD i .bf)) (nl (ds.getD i .bf)) H H'):gI X H1 (er ds) (nl (ds.getD i .bf)) H H':=by
 rw[eJ]at h ⊢;cases e:ds[i]? with
 | none =>
  rw[e,Option.getD_none,nl]at h;rw[Option.getD_none,nl];refine⟨fun b u q=>?_,h.c⟩;rcases h.k b u q with z|⟨_,vs,k,aL,aS,gw,_⟩
  .exact .inl z
  ·obtain rfl:k=0:=by lia
   rw[List.replicate_zero,List.append_nil,<-aL]at aS;exact .inl aS
 |some d =>
  rw[e,Option.getD_some]at h;rw[Option.getD_some];exact h.weak (nA ds (eY e)) (cp _)
inductive QG(n:Nat)(vs:List V)(H:al)(Q:bI)(E:cB):Prop where
 |mk (X:cS) (H1:al) (d:D) (v:V) (M c:Nat) (aX:vs=[v]) (ai:b5 X H1 d v) (ar:gI X H1 M c H1 H) (bz:c+nl d<=16000000) (c0:(d=.bf/\1<=n\/dK d+1<=n)) (es:∀H',gI X H1 (dK d) (nl d) H H'->Q .bf H')
def Ym(nb:dn mg)(F:dD K mg "_law_bend" BA ["_law_value_here"] f fd)(rv:aY P w K mg zn (n+1) "_law_bend" ["_law_value_here"] (QG n)):aY P w K mg zn (n+1+1) "_law_bend" ["_law_value_here"] (QG (n+1)):=by show_term
 refine F.eg Mc (fun H vs Q E aw h=>?_);obtain⟨X,H1,d,v,M,c,rfl,hd,mh,hc,aV,q⟩:=h
 refine xg _ (aI (cw (f6 (b8 Zl I nb.iR iH (aj (ab 0) (aj (jm (aj (iv (v :=.ty "list") I nb.wO vO I) (aj (iv (v :=.ty "tuple") I nb.pz oG I) az))) az)))) (aJ (ma iB.never I (Ju (ab 0)) (d5 (i:=1) Mc.bj I (by exact Or.inl rfl))
    (aJ (ik (bT rv aw (aj (ab 1) az)))))) cx)
  (aJ (cw (f6 (b8 i0 rfl nb.iR iH (aj (ab 0) (aj (iv (v :=.ty "list") rfl nb.wO vO rfl) az)))) (aJ (ik (hZ PySem.F.plainAttrs_list PySem.F.slot_list_append PySem.F.type_list_append qt (ab 0) (aj pV az)))) cx))) fun G ew eH go=>?_
 try dsimp only[cN,cO,cP,cQ]at go
 cases d with
 |bf =>
  obtain rfl:v=.bf:=hd;subst eH;refine go ⟨_,I,jA,fun jF lT=>⟨_,jF,"list","tuple",_,_,_,I,aG,.bf,ek K .bf (by decide),ek K .bf (by decide),aE,I,da ?_⟩⟩;exact⟨_,I,.inl ⟨_,_,_,_,I,.bf,ek K .bf (by decide),_,I,da ⟨H,.refl (cE lT),q _ (.ext (.refl _))⟩⟩⟩
 |aK b =>
  obtain rfl:v=.aK b:=hd;subst eH;refine go ⟨_,I,jA,fun jF lT=>⟨_,jF,"list","tuple",_,_,_,I,aG,.aK b,ek K (.aK b) (by decide),ek K (.aK b) (by decide),aE,I,da ?_⟩⟩;exact⟨_,I,.inl ⟨_,_,_,_,I,.aK b,ek K (.aK b) (by decide),_,I,da ⟨H,.refl (cE lT),q _ (.ext (.refl _))⟩⟩⟩
 |int i =>
  obtain rfl:v=.int i:=hd;subst eH;refine go ⟨_,I,jA,fun jF lT=>⟨_,jF,"list","tuple",_,_,_,I,aG,.int i,ek K (.int i) (by decide),ek K (.int i) (by decide),aE,I,da ?_⟩⟩;exact⟨_,I,.inl ⟨_,_,_,_,I,.int i,ek K (.int i) (by decide),_,I,da ⟨H,.refl (cE lT),q _ (.ext (.refl _))⟩⟩⟩
 |str t =>
  obtain⟨rfl,_⟩:=hd;subst eH;refine go ⟨_,I,jA,fun jF lT=>⟨_,jF,"list","tuple",_,_,_,I,aG,.str t,ek K (.str t) (by decide),ek K (.str t) (by decide),aE,I,da ?_⟩⟩;exact⟨_,I,.inl ⟨_,_,_,_,I,.str t,ek K (.str t) (by decide),_,I,da ⟨H,.refl (cE lT),q _ (.ext (.refl _))⟩⟩⟩
 | tup ds =>
  obtain⟨a,vs,rfl,ad7,aL,eB,aB⟩:=id hd
  have e:H a=J (.tup vs):=by
   rcases mh.k a _ aL with z|⟨_,_,_,z,_⟩
   .exact z
   .cases z
  subst eH;refine go ⟨_,I,jA,fun jF lT=>⟨_,jF,"list","tuple",_,_,_,I,aG,.tup (cE lT _ _ e),ek K (.tup ds) (by decide),ek K (.tup ds) (by decide),ah,I,eP ?_⟩⟩
  have aV:er ds+1<=n:=by
   rcases aV with⟨z,_⟩|z
   .cases z
   .rw[dK]at z;lia
  have Jo:∀i(x:V)ao,vs[i]?=J x->gI X H1 (er ds) (eM (ds.take i)) H ao->∀(rG:al->Prop),(∀bp,gI X H1 (er ds) (eM (ds.take (i+1))) H bp->rG bp)->∀E,QG n [x] ao (fun _ bp=>rG bp) E:=fun i x ao aq ag rG fZ E=>by
   have:=x3 ds i;have:=yk ds (i+1);have qS:gI X H1 (max M (er ds)) (c+eM (ds.take i)) H1 ao:=(mh.weak (Nat.le_max_left ..) (cp _)).trans (ag.weak (Nat.le_max_right ..) (cp _));rw[nl]at hc;refine⟨X,H1,ds.getD i .bf,x,_,_,I,bx.Jn (k:=0) ds eB (by rw[List.replicate_zero,List.append_nil];exact aq),qS,by lia,(N2 ds i).imp (fun z=>⟨z,by lia⟩) (by lia),fun bp bz=>fZ _ ?_⟩;rw[x3];exact ag.trans bz.part
  refine .inr ⟨_,I,a,I,⟨_,cC (cE lT _ _ e)⟩,V7 (xs:=vs) (fun i U ao=>(∃z,U=[J (.ref a),z])/\gI X H1 (er ds) (eM (ds.take i)) H ao) ⟨⟨_,I⟩,.ext (.tup lT)⟩ ?_ ?_ ?_⟩
  ·rintro i U ao aF ⟨_,ag⟩;exact cC (ag.at hd (by rw[dK];lia) e)
  ·rintro i x U ao aq ⟨⟨z,rfl⟩,ag⟩;exact⟨_,I,Jo i x ao aq ag _ (fun bp bz=>⟨⟨_,I⟩,bz⟩) _⟩
  ·rintro U ao ⟨⟨z,rfl⟩,ag⟩;have aS:=ag.at hd (by rw[dK];lia) e;refine⟨_,I,.inl ⟨_,_,_,_,I,.tup aS,ek K (.tup ds) (by decide),_,I,da ⟨ao,ag.sub,q _ ?_⟩⟩⟩;rw[dK,nl];exact ag.weak (by lia) (yk _ _)
 | lst ds =>
  obtain⟨a,vs,rfl,ad7,aL,eB,aB⟩:=id hd
  obtain⟨k,hk,e⟩:∃k,k<=c/\H a=J (.lst (vs++List.replicate k .bf)):=by
   rcases mh.k a _ aL with z|⟨_,_,k,z,dg,gS,_⟩
   .exact⟨0,UF _,by rw[List.replicate_zero,List.append_nil];exact z⟩
   ·injection z with z;subst z;exact⟨k,gS,dg⟩
  have c1:(vs++List.replicate k V.bf).length=vs.length+k:=by rw[dP,List.length_replicate]
  subst eH;refine go ⟨_,I,jA,fun jF lT=>⟨_,jF,"list","tuple",_,_,_,I,aG,.lst (cE lT _ _ e),ek K (.lst ds) (by decide),ek K (.lst ds) (by decide),ah,I,eP ?_⟩⟩
  have aV:er ds+1<=n:=by
   rcases aV with⟨z,_⟩|z
   .cases z
   .rw[dK]at z;lia
  have Jo:∀i(x:V)ao,(vs++List.replicate k V.bf)[i]?=J x->gI X H1 (er ds) (eM (ds.take i)) H ao->∀(rG:al->Prop),(∀bp,gI X H1 (er ds) (eM (ds.take (i+1))) H bp->rG bp)->∀E,QG n [x] ao (fun _ bp=>rG bp) E:=fun i x ao aq ag rG fZ E=>by
   have:=x3 ds i;have:=yk ds (i+1);have qS:gI X H1 (max M (er ds)) (c+eM (ds.take i)) H1 ao:=(mh.weak (Nat.le_max_left ..) (cp _)).trans (ag.weak (Nat.le_max_right ..) (cp _));rw[nl]at hc;refine⟨X,H1,ds.getD i .bf,x,_,_,I,bx.Jn ds eB aq,qS,by lia,(N2 ds i).imp (fun z=>⟨z,by lia⟩) (by lia),fun bp bz=>fZ _ ?_⟩;rw[x3];exact ag.trans bz.part
  refine .inl (.inl ⟨_,I,a,I,⟨_,ba (cE lT _ _ e)⟩,Nr (xs:=vs++List.replicate k V.bf) (fun i U ao=>(∃z,U=[J (.ref a),z])/\gI X H1 (er ds) (eM (ds.take i)) H ao) ⟨⟨_,I⟩,.ext (.tup lT)⟩ ?_ ?_ ?_⟩)
  ·rintro i U ao aF ⟨_,ag⟩;exact ba (ag.at hd (by rw[dK];lia) e)
  ·rintro i x U ao aq ⟨⟨z,rfl⟩,ag⟩;exact⟨_,I,Jo i x ao aq ag _ (fun bp bz=>⟨⟨_,I⟩,bz⟩) _⟩
  ·rintro U ao ⟨⟨z,rfl⟩,ag⟩;have aS:=ag.at hd (by rw[dK];lia) e;refine⟨_,I,.inl ⟨_,_,_,_,I,.lst aS,ek K (.lst ds) (by decide),_,I,eP ?_⟩⟩;rw[nl]at hc;refine⟨_,I,.inl ⟨I,_,ba aS⟩,_,_,_,I,I,aS,by rw[c1];exact Nat.lt_of_le_of_lt (show vs.length+k<=16001000 by lia) (by decide),?_⟩
   have gF:gI X H1 (dK (.lst ds)) (nl (.lst ds)) H (upd ao a (.lst (vs++List.replicate k .bf++[.bf]))):=by
    rw[dK,nl];refine⟨fun b u z=>?_,fun z=>vw aS (ag.c z)⟩;by_cases y:b=a
    ·subst y;rw[e]at z;cases z;exact .inr ⟨ds,_,1,I,by rw[aG];rfl,by lia,hd,by rw[dK];lia⟩
    ·rw[bC y];exact((ag.weak (by lia) (dF (yk _ _) (Nat.le_succ _))).k b u z)
   exact⟨_,gF.sub,q _ gF⟩
theorem L5(nb:dn mg)(F:dD K mg "_law_bend" BA ["_law_value_here"] f fd):∀d:Nat,aY P w K mg zn (d+1) "_law_bend" ["_law_value_here"] (QG d)
 |0=>aY.none F fun vs H Q E z=>by obtain⟨_,_,iL,_,_,_,_,_,_,_,h,_⟩:=z;have:=B5 iL;lia
 |d+1=>Ym nb F (L5 nb F d)
structure T4(H:al)(f:bH)(n:Nat)(ds:List D)(vs:List V):Prop where
 a:cj H ds vs
 t:∀x,x∈ds->bJ cy f x=ah/\dK x<=50
 n:ds.length<=n
 s:(ds.map (aT bL f)).Pairwise jg
def GZ(l:List α)(k:Nat)(x:α):(l.take k++x::l.drop k).Perm (x::l):=by
 refine List.perm_middle.trans (List.Perm.cons _ ?_);rw[List.take_append_drop]
def Js{f:bH}{a b:D}(ok:fz f)(aM:bJ cy f a=ah)(ag:bJ cy f b=ah):dV f a b=0↔aT bL f a=aT bL f b:=by
 have S:=Std.of ok aM ag;refine⟨S.1,fun e=>?_⟩;rcases Int.lt_trichotomy (dV f a b) 0 with z|z|z
 .have:=yh (S.2.1 z);rw[e]at this;exact absurd this (List.lt_irrefl _)
 .exact z
 .have:=yh (S.2.2 z);rw[e]at this;exact absurd this (List.lt_irrefl _)
structure EZ(f:bH)(ds:List D)(x:D)(k:Nat):Prop where
 l:k<=ds.length
 a:∀i y,i<k->ds[i]?=J y->dV f y x<0
 b:∀y,ds[k]?=J y->¬dV f y x<0
def EZ.mem{f:bH}{x:D}(h:EZ f ds x k)(ok:fz f)(bc:∀y,y∈ds->bJ cy f y=ah)(gP:bJ cy f x=ah)(hs:(ds.map (aT bL f)).Pairwise jg):aT bL f x∈ds.map (aT bL f)↔∃y,ds[k]?=J y/\dV f y x=0:=by
 refine⟨fun z=>?_,fun⟨y,e,z⟩=>?_⟩
 ·obtain⟨y,aW,nC⟩:=List.mem_map.mp z;obtain⟨j,b0⟩:=List.getElem?_of_mem aW;have eV:=(Js ok (bc y aW) gP).mpr nC;rcases Nat.lt_trichotomy j k with w|w|w
  .have:=h.a j y w b0;lia
  .rw[w]at b0;exact⟨y,b0,eV⟩
  ·obtain⟨sM,q6⟩:∃sM,ds[k]?=J sM:=⟨_,cI (by have:=(gr.mp b0).1;lia)⟩;refine⟨sM,q6,?_⟩;by_cases akq:dV f sM x=0
   .exact akq
   have ai:0<dV f sM x:=by have:=h.b sM q6;lia
   have ar:=(Std.of ok (bc sM (eY q6)) gP).2.2 ai
   have bz:jg (aT bL f sM) (aT bL f y):=by
    have:=List.pairwise_iff_getElem.mp hs k j (by rw[cA];exact(gr.mp q6).1) (by rw[cA];exact(gr.mp b0).1) w;rw[ko,ko,(gr.mp q6).2,(gr.mp b0).2]at this;exact this
   rw[nC]at bz;exact absurd (yh ar) bz
 ·have aW:=eY e;rw[<-(Js ok (bc y aW) gP).mp z];exact List.mem_map_of_mem aW
inductive R4(vs:List V)(H:al)(Q:bI)(E:cB):Prop where
 |mk (b:Bool) (aX:vs=[.aK b,.aK b]) (ai:Q (.aK ah) H)
def ZD(nb:dn mg)(F:dD K mg "_law_told" Gg ["_law_found","_law_due"] f fd):aY P w K mg zn 1 "_law_told" ["_law_found","_law_due"] R4:=by
 refine F.eg Zq (fun H vs Q E aw h=>?_);obtain⟨b,rfl,q⟩:=h;refine⟨_,(aJ (bt (il (b8 i0 I nb.iR iH (aj (ab 0) (aj (iv (v :=.ty "bool") I nb.yq Zip I) az))) (jB (fM c6 (ab 0) (ab 1)))))),?_⟩;ac_rfl;refine⟨_,I,.inl ⟨_,"bool",_,ah,I,.aK _,NX K "bool" (by decide) "bool" (by decide),_,I,eP ⟨_,I,_,I,I,H,.refl (c5 _),?_⟩⟩⟩;rw[eT rfl];exact q
structure EN(H:al)(eN:V)(cG:af)(v:V)(g:bH)(ds:List D)(vs:List V)(x:D)(d:Nat):Prop where
 f:dj H (e4 g) eN
 o:fz g
 h:bc g<=d
 l:H cG=J (.lst vs)
 s:T4 H g 1000 ds vs
 e:dj H x v
 y:bJ cy g x=ah
 z:dK x<=50
inductive RB(d:Nat)(vs:List V)(H:al)(Q:bI)(E:cB):Prop where
 |mk (eN:V) (cG:af) (v:V) (g:bH) (ds:List D) (us:List V) (x:D) (aX:vs=[eN,.ref cG,v]) (ai:EN H eN cG v g ds us x d) (ar:∀k,EZ g ds x k->Q (.int ((k:Nat):Int)) H)
def Ye(nb:dn mg)(F:dD K mg "_law_place" FZ ["_law_form_here","_law_kept","_law_value_here"] f fd)(oo:aY P w K mg zn (2*d+4) "_law_order" ["_law_form_here","_law_one","_law_other"] (Rw d)):aY P w K mg zn (2*d+5) "_law_place" ["_law_form_here","_law_kept","_law_value_here"] (RB d):=by
 refine F.eg LY (fun H vs Q E aw h=>?_);obtain⟨eN,cG,v,g,ds,us,x,rfl,f5,q⟩:=h
 refine⟨_,(aI (ma iB.never I (mL I nb.kV (aj (b8 dx I nb.dr dv (aj (ab 1) az)) az)) (d5 (i:=3) LY.bj I (by exact Or.inl rfl))
   (aJ (cw (b9 Dw (bT oo aw (aj (ab 0) (aj (bW bY (ab 1) (ab 3)) (aj (ab 2) az)))) aC) (aJ (bt (ab 3))) cx)))
  (aJ (bt (b8 dx rfl nb.dr dv (aj (ab 1) az))))),?_⟩
 ac_rfl;have c1:=cj.len ds f5.s.a;have aV:=f5.s.n;refine fN fun N bP=>⟨_,I,_,_,I,.inl ⟨_,ba f5.l,I⟩,_,I,by lia,by lia,qu (fun i U ao=>ao=H/\(∃z,U=[J eN,J (.ref cG),J v,z])/\∀j y,j<i->ds[j]?=J y->dV g y x<0) ?_ ?_ ?_⟩
 .exact⟨I,⟨_,I⟩,fun _ _ z=>(Nat.not_lt_zero _ z).elim⟩
 ·rintro i U ao aF ⟨rfl,⟨z,rfl⟩,ag⟩;rw[Int.zero_add];have aF:i<us.length:=by lia
  obtain⟨y,aW,wF⟩:=cj.get ds f5.s.a (cI aF);obtain⟨nI,Hz⟩:=f5.s.t y (eY aW);refine⟨_,I,_,I,_,I,xz f5.l (cT (cI aF)) ⟨_,I,eN,_,v,g,y,x,I,f5.f,f5.o,f5.h,wF,f5.e,nI,f5.y,Hz,_,_,I,I,_,I,fl (fun c=>?_) (fun c=>?_)⟩⟩
  ·refine⟨_,I,ao,.refl (c5 _),q i ⟨by lia,ag,fun jb e=>?_⟩⟩;rw[aW]at e;cases e;lia
  ·refine⟨I,⟨_,I⟩,fun j jb b0 e=>?_⟩;rcases g5 j i with w|w
   .exact ag j jb w e
   ·have:j=i:=by lia
    subst this;rw[aW]at e;cases e;lia
 ·rintro U ao ⟨rfl,⟨z,rfl⟩,ag⟩;refine bP _ _ ⟨_,I,_,_,I,.inl ⟨_,ba f5.l,I⟩,ao,.refl (c5 _),?_⟩;refine q us.length ⟨by lia,ag,fun y e=>?_⟩;have:=(gr.mp e).1;lia
inductive R3(d:Nat)(vs:List V)(H:al)(Q:bI)(E:cB):Prop where
 |mk (eN:V) (cG:af) (v:V) (g:bH) (ds:List D) (us:List V) (x:D) (aX:vs=[eN,.ref cG,v]) (ai:EN H eN cG v g ds us x d) (ar:Q (.aK (decide (aT bL g x∈ds.map (aT bL g)))) H)
def Y6(nb:dn mg)(F:dD K mg "_law_there" FW ["_law_form_here","_law_kept","_law_value_here"] f fd)(oo:aY P w K mg zn (2*d+4) "_law_order" ["_law_form_here","_law_one","_law_other"] (Rw d))(uY:aY P w K mg zn (2*d+5) "_law_place" ["_law_form_here","_law_kept","_law_value_here"] (RB d)):aY P w K mg zn (2*d+6) "_law_there" ["_law_form_here","_law_kept","_law_value_here"] (R3 d):=by
 refine F.eg LX (fun H vs Q E aw h=>?_);obtain⟨eN,cG,v,g,ds,us,x,rfl,f5,q⟩:=h
 refine⟨_,(aI (bM 3 LX.bj (bT uY aw (aj (ab 0) (aj (ab 1) (aj (ab 2) az)))))
  (aJ (bt (il (fM iV (ab 3) (b8 dx rfl nb.dr dv (aj (ab 1) az))) (jB (fM c6 (bT oo aw (aj (ab 0) (aj (bW bY (ab 1) (ab 3)) (aj (ab 2) az)))) aC)))))),?_⟩
 ac_rfl;have c1:=cj.len ds f5.s.a;refine fN fun N bP=>⟨_,I,_,I,_,I,eN,cG,v,g,ds,us,x,I,f5,fun k P=>bP _ _ ?_⟩;have hm:=P.mem f5.o (fun y aW=>(f5.s.t y aW).1) f5.y f5.s.s;refine⟨_,I,_,I,_,_,I,.inl ⟨_,ba f5.l,I⟩,.inl ⟨_,_,I,I,_,I,fl (fun c=>?_) (fun c=>?_)⟩⟩
 ·have hk:k<us.length:=by lia
  obtain⟨y,aW,wF⟩:=cj.get ds f5.s.a (cI hk);obtain⟨nI,Hz⟩:=f5.s.t y (eY aW);refine⟨_,I,_,I,_,I,xz f5.l (cT (cI hk)) ⟨_,I,eN,_,v,g,y,x,I,f5.f,f5.o,f5.h,wF,f5.e,nI,f5.y,Hz,I,H,.refl (c5 _),?_⟩⟩
  have e:decide (V.int (dV g y x)=V.int 0)=decide (aT bL g x∈ds.map (aT bL g)):=by
   refine decide_eq_decide.mpr ⟨fun z=>hm.mpr ⟨y,aW,V.int.inj z⟩,fun z=>?_⟩;obtain⟨jb,aL,aS⟩:=hm.mp z;rw[aW]at aL;cases aL;rw[aS]
  rw[e];exact q
 ·refine⟨H,.refl (c5 _),?_⟩;rw[fL (fun z=>by obtain⟨jb,aL,_⟩:=hm.mp z;have:=(gr.mp aL).1;lia)]at q;exact q
def Ub{K:bS}{a:af}{D:af}(Inv:Nat->List V->al->Prop)(S:St->Prop)(bV:xs.length<=100000)(aX:S ew)
  (aB:∀i ay ao,Inv i ay ao->gf K ao a xs) (ai:Inv 0 [] (upd H D (.lst [])))
  (bc:∀i x,xs[i]?=J x->∀ay bE H1,S bE->Inv i ay H1->H1 D=J (.lst ay)->ay.length=i->∀R:St->V->al->Prop,(∀bg y bp,S bg->bp D=J (.lst ay)->Inv (i+1) (ay++[y]) (upd bp D (.lst (ay++[y])))->R bg y bp)->g x bE H1 fun bg ao=>cJ bg ao fun y bp=>R bg y bp)
  (bo:∀(ay:List V)(H':al),ay.length=xs.length->H' D=J (.lst ay)->Inv xs.length ay H'->Q (.ref D) H') :
  k0 (u9 K a) g n4 cJ Q ew H D:=by
 refine⟨fun i m bE ao=>i<=xs.length/\m=xs.length-i/\S bE/\∃ay:List V,ay.length=i/\ao D=J (.lst ay)/\Inv i ay ao,⟨xs.length,UF _,I,aX,[],I,aG,ai⟩,?_⟩;rintro i m bE ao ⟨aF,rfl,ar,ay,aW,iO,cV⟩;have gb:=aB i ay ao cV;rcases g5 i xs.length with z|z
 ·refine .inr ⟨⟨xs,xs[i],gb,cI z⟩,?_⟩;rintro x bp ⟨rfl,aq⟩;have aq:=aq xs gb;refine bc i x aq ay bE _ ar cV iO aW (fun bg y dm=>∃zs bU,dm D=J (.lst zs)/\zs.length<cg/\bU<xs.length-i/\(i+1<=xs.length/\bU=xs.length-(i+1)/\S bg/\∃ws:List V,ws.length=i+1/\upd dm D (.lst (zs++[y])) D=J (.lst ws)/\Inv (i+1) ws (upd dm D (.lst (zs++[y]))))) fun bg y dm eS p5 yI=>?_;exact⟨ay,xs.length-(i+1),p5,fK (show ay.length<100000 by lia) (by decide),by lia,by lia,rfl,eS,ay++[y],by rw[dP,aW];rfl,aG,yI⟩
 ·have e:i=xs.length:=by lia
  subst e;exact .inl ⟨⟨xs,gb,cp _⟩,bo ay ao aW iO cV⟩
inductive QL(n:Nat)(vs:List V)(H:al)(Q:bI)(E:cB):Prop where
 |mk (d:D) (v:V) (aX:vs=[v]) (ai:dj H d v) (ar:dK d<=n) (bz:∀gH H',Ext H H'->b5 (cS.of H) H' d gH->Q gH H')
structure xq(H:al)(iY:af)(ds:List D)(i:Nat)(ay:List V)(ao:al):Prop where
 x:Ext H ao
 d:bx (cS.j4 iY (cS.of H)) ao (ds.take i) ay
def xq.step{iY:af}{d:D}(aa:xq H iY ds i ay H1)(aX:H iY=ax)(hd:ds[i]?=J d)(c2:H1 iY=J (.lst ay))(X:Ext H1 bp)(bR:b5 (cS.of H1) bp d v):bp iY=J (.lst ay)/\xq H iY ds (i+1) (ay++[v]) (upd bp iY (.lst (ay++[v]))):=by
 have kt:=X.s _ _ c2
 have k:∀b u,b∉(cS.j4 iY (cS.of H))->bp b=J u->upd bp iY (.lst (ay++[v])) b=J u:=fun b u nb e=>by
  rw[bC fun z=>nb (show b=iY\/b∈cS.of H from .inl z)];exact e
 refine⟨kt,Ext.set aX (aa.x.trans X) kt,?_⟩;rw[iG,hd];exact bx.snoc (b5.keep k _ (b5.weak (X:=cS.j4 iY (cS.of H)) (Y:=cS.of H1) (fun x aq=>(show x=iY\/x∈cS.of H from aq).elim (fun e=>by rw[e];exact⟨_,c2⟩) fun⟨o,e⟩=>⟨o,aa.x.s _ _ e⟩) _ bR)) _ (bx.keep k _ (bx.same X.s aa.d))
def XH(nb:dn mg)(F:dD K mg "_law_copied" Be ["_law_value_here"] f fd)(uU:aY P w K mg zn (n+1) "_law_copied" ["_law_value_here"] (QL n)):aY P w K mg zn (n+1+1) "_law_copied" ["_law_value_here"] (QL (n+1)):=by show_term
 refine F.eg Yq (fun H vs Q E aw h=>?_);obtain⟨d,v,rfl,hd,aV,q⟩:=h
 refine xg _ (aI (cw (f6 (b8 i0 I nb.iR iH (aj (ab 0) (aj (iv (v :=.ty "list") I nb.wO vO I) az)))) (aJ (bt (hO ["_law_part"] [] I ⋯ trivial (Ju (ab 0)) (d5 (i:=0) (show(["_law_part"]:List ae).Nodup by decide+kernel)) gs (bT uU aw (aj (ab 0) az))))) cx)
  (aI (cw (f6 (b8 i0 rfl nb.iR iH (aj (ab 0) (aj (iv (v :=.ty "tuple") rfl nb.pz oG rfl) az)))) (aJ (bt (oE FF rfl nb.pz oG (aj (hO ["_law_part"] [] rfl ⋯ trivial (Ju (ab 0)) (d5 (i:=0) (show(["_law_part"]:List ae).Nodup by decide+kernel)) gs (bT uU aw (aj (ab 0) az))) az)))) cx)
  (aJ (bt (ab 0))))) fun G ew eH go=>?_
 try dsimp only[cN,cO,cP,cQ]at go
 have bN:=Ext.refl H;cases d with
 |bf=>subst eH;exact go ⟨_,I,.inl ⟨_,_,_,_,I,dj.ty hd,ek K .bf (by decide),_,I,da ⟨_,I,.inl ⟨_,_,_,_,I,dj.ty hd,ek K .bf (by decide),_,I,da ⟨_,I,H,.refl (c5 _),q _ _ bN hd⟩⟩⟩⟩⟩
 |aK b=>subst eH;exact go ⟨_,I,.inl ⟨_,_,_,_,I,dj.ty hd,ek K (.aK b) (by decide),_,I,da ⟨_,I,.inl ⟨_,_,_,_,I,dj.ty hd,ek K (.aK b) (by decide),_,I,da ⟨_,I,H,.refl (c5 _),q _ _ bN hd⟩⟩⟩⟩⟩
 |int b=>subst eH;exact go ⟨_,I,.inl ⟨_,_,_,_,I,dj.ty hd,ek K (.int b) (by decide),_,I,da ⟨_,I,.inl ⟨_,_,_,_,I,dj.ty hd,ek K (.int b) (by decide),_,I,da ⟨_,I,H,.refl (c5 _),q _ _ bN hd⟩⟩⟩⟩⟩
 |str b=>subst eH;exact go ⟨_,I,.inl ⟨_,_,_,_,I,dj.ty hd,ek K (.str b) (by decide),_,I,da ⟨_,I,.inl ⟨_,_,_,_,I,dj.ty hd,ek K (.str b) (by decide),_,I,da ⟨_,I,H,.refl (c5 _),q _ _ bN hd⟩⟩⟩⟩⟩
 | lst ds =>
  have bc:=dj.ty (K:=K) hd;obtain⟨a,vs,rfl,cL,eB,aB⟩:=hd;subst eH;rw[dK]at aV;refine go ⟨_,I,.inl ⟨_,_,_,_,I,bc,ek K (.lst ds) (by decide),_,I,eP ?_⟩⟩;refine .inl (.inl ⟨_,I,a,I,⟨_,ba cL⟩,fun iY c2=>?_⟩);refine qF (K:=K) (a:=a) (xs:=vs) (xq H iY ds) (fun U=>∃z,U=[z]) (by lia) ⟨_,I⟩ (fun i ay ao aa=>ba (aa.x.s _ _ cL)) ⟨Ext.lst c2,I⟩ ?_ ?_
  ·rintro i x aq ay bE H1 ⟨z,rfl⟩ aa hS _ R bN;obtain⟨d,hd,qd⟩:=cj.get ds eB aq;refine⟨_,I,d,x,I,dj.same aa.x.s _ qd,by have:=nA ds (eY hd);lia,fun gH bp lI bR=>?_⟩;obtain⟨ai,ar⟩:=aa.step c2 hd hS lI bR;exact bN _ _ _ ⟨_,I⟩ ai ar
  ·rintro ay H' jr hS aa;have c1:=cj.len ds eB;have oZ:=aa.d;rw[c1,List.take_length]at oZ;exact⟨_,aa.x.sub,q _ _ aa.x ⟨iY,ay,I,(fun z=>by obtain⟨o,e⟩:=(show ∃o,H iY=J o from z);rw[c2]at e;cases e),hS,bx.weak (fun x aq=>cS.dT aq) _ oZ,by lia⟩⟩
 | tup ds =>
  have bc:=dj.ty (K:=K) hd;obtain⟨a,vs,rfl,cL,eB,aB⟩:=hd;subst eH;rw[dK]at aV;refine go ⟨_,I,.inl ⟨_,_,_,_,I,bc,ek K (.tup ds) (by decide),_,I,da ⟨_,I,.inl ⟨_,_,_,_,I,bc,ek K (.tup ds) (by decide),_,I,eP ?_⟩⟩⟩⟩;refine .inr ⟨_,I,a,I,⟨_,cC cL⟩,fun iY c2=>?_⟩;refine Ub (K:=K) (a:=a) (xs:=vs) (xq H iY ds) (fun U=>∃z,U=[z]) (by lia) ⟨_,I⟩ (fun i ay ao aa=>cC (aa.x.s _ _ cL)) ⟨Ext.lst c2,I⟩ ?_ ?_
  ·rintro i x aq ay bE H1 ⟨z,rfl⟩ aa hS _ R bN;obtain⟨d,hd,qd⟩:=cj.get ds eB aq;refine⟨_,I,d,x,I,dj.same aa.x.s _ qd,by have:=nA ds (eY hd);lia,fun gH bp lI bR=>?_⟩;obtain⟨ai,ar⟩:=aa.step c2 hd hS lI bR;exact bN _ _ _ ⟨_,I⟩ ai ar
  ·rintro ay H' jr hS aa;have c1:=cj.len ds eB;have oZ:=aa.d;rw[c1,List.take_length]at oZ;refine⟨iY,ay,I,.inl ⟨ba hS,fun T cc=>?_⟩⟩;have iZ:=aa.x.trans (Ext.tup (xs:=ay) cc);exact⟨_,iZ.sub,q _ _ iZ ⟨T,ay,I,(fun z=>by obtain⟨o,e⟩:=(show ∃o,H T=J o from z);rw[aa.x.s _ _ e]at cc;cases cc),aG,bx.same (cE cc) (bx.weak (fun x aq=>cS.dT aq) _ oZ),by lia⟩⟩
theorem LR(nb:dn mg)(F:dD K mg "_law_copied" Be ["_law_value_here"] f fd):∀d:Nat,aY P w K mg zn (d+1) "_law_copied" ["_law_value_here"] (QL d)
 |0=>aY.none F fun vs H Q E z=>by obtain⟨d,_,_,_,h,_⟩:=z;have:=B5 d;lia
 |d+1=>XH nb F (LR nb F d)
def Wg{k:Fin 4}{d:D}(h:yp cy k d=ah):nl d=0:=by
 have key:(∀(e:k=3),cy d=ah->nl d=0):=fun _ z=>by
  obtain⟨p,q,rfl,_⟩:=xQ z;rw[nl,eM,eM,eM,nl,nl]
 cases d with
 |tup ds =>
  match k,h,key with
  |0,h,_=>cases h
  |1,h,_=>cases h
  |2,h,_=>cases h
  |3,h,key=>exact key I h
 |lst ds =>
  match k,h,key with
  |0,h,_=>cases h
  |1,h,_=>cases h
  |2,h,_=>cases h
  |3,h,key=>exact key I h
 |_=>rw[nl]
theorem NS(g:D->List Bool)(p:D->Bool)(bK:∀d,p d=ah->nl d<=(g d).length):∀ds:List D,ds.all p=ah->eM ds<=((ds.map fun d=>ah::g d).flatten).length
 |[],_=>by rw[eM];exact UF _
 |d::ds,h=>by
  rw[List.all_cons,g4]at h;have:=bK d h.1;have:=NS g p bK ds h.2;rw[eM,fB,lH,dP,eb];lia
mutual
theorem tp:∀(f:bH)(d:D),bJ cy f d=ah->nl d<=(aT bL f d).length
 |.bare k,d,h=>by
  rw[bJ]at h;rw[Wg h];exact UF _
 |.sp a b,d,h=>by
  rw[bJ]at h;cases d<;>first|(rw[nl];exact UF _)|cases h
 |.le s,d,h=>by
  rw[bJ]at h;cases d<;>first|(rw[nl];exact UF _)|cases h
 | .one k f,d,h=>by
  rw[bJ]at h;rw[aT];unfold Jq at h;unfold Dy;by_cases zh:k=0
  ·rw[if_pos zh]at h ⊢;cases d with
   | tup ds =>
    rcases ds with _|⟨x,_|⟨y,r⟩⟩
    .rw[nl,eM];exact UF _
    ·have:=tp f x h;rw[nl,eM,eM];show nl x+0<=(ah::aT bL f x).length;rw[eb];lia
    .cases h
   |_=>cases h
  ·rw[if_neg zh]at h ⊢;by_cases iT:k=1
   ·rw[if_pos iT]at h ⊢;cases d with
    |lst ds =>
     have ar:(decide (ds.length<=60)&&ds.all (bJ cy f))=ah:=h;rw[g4]at ar;have:=NS (aT bL f) (bJ cy f) (fun d h=>tp f d h) ds ar.2;rw[nl];show eM ds+1<=(_++[aE]).length;rw[dP,k5];lia
    |_=>cases h
   ·rw[if_neg iT]at h ⊢;rw[cA];exact tp f d h
 | .two k ns fs,d,h=>by
  rw[bJ]at h;rw[aT];by_cases zh:k=0
  ·rw[if_pos zh]at h ⊢;cases d with
   |tup ds=>rw[nl];exact NQ fs ds h
   |_=>cases h
  ·rw[if_neg zh]at h ⊢;cases d with
   |tup ds =>
    rcases ds with _|⟨⟨⟩|_|_|n|_|_,_|⟨x,_|⟨y,r⟩⟩⟩<;>try cases h
    have:=NR fs ns 0 (fs.length-1) n x h;rw[nl,eM,eM,eM,nl];show 0+(nl x+0)<=(kX bL fs ns 0 (fs.length-1) n x).length;lia
   |_=>cases h
theorem NQ:∀(fs:List bH)(ds:List D),eL cy fs ds=ah->eM ds<=(gk bL fs ds).length
 |[],ds,h=>by
  rw[eL]at h;cases ds with
  |nil=>rw[eM];exact UF _
  |cons d ds=>cases h
 |f::fs,[],h=>by rw[eM];exact UF _
 |f::fs,d::ds,h=>by
  rw[eL]at h;have ar:(bJ cy f d&&eL cy fs ds)=ah:=h;rw[g4]at ar;have:=tp f d ar.1;have:=NQ fs ds ar.2;rw[eM,gk];show nl d+eM ds<=(aT bL f d++gk bL fs ds).length;rw[dP];lia
theorem NR:∀(fs:List bH)(ns:List ae)(k m:Nat)(n:ae)(x:D),jC cy fs ns n x=ah->nl x<=(kX bL fs ns k m n x).length
 |[],ns,k,m,n,x,h=>by rw[jC]at h;cases h
 | f::fs,ns,k,m,n,x,h=>by
  rw[jC]at h;rw[kX];by_cases z:ns.head?=J n
  ·rw[if_pos z]at h ⊢;have:=tp f x h;rw[dP];lia
  ·rw[if_neg z]at h ⊢;exact NR fs ns.tail (k+1) m n x h
end
theorem bx.cut{α:Type}[Membership af α]{X:α}{H:al}:∀(ds:List D){vs:List V}(k:Nat),bx X H ds vs->bx X H (ds.take k) (vs.take k)/\bx X H (ds.drop k) (vs.drop k)
 |[],vs,k,h=>by
  obtain rfl:vs=[]:=h;rw[List.take_nil,List.drop_nil,List.take_nil,List.drop_nil];exact⟨I,I⟩
 |d::ds,vs,0,h=>⟨rfl,h⟩
 |d::ds,vs,k+1,h=>by
  obtain⟨v,r,rfl,q,b1⟩:=h;obtain⟨a,b⟩:=bx.cut ds k b1;exact⟨⟨v,r.take k,I,q,a⟩,b⟩
theorem bx.app{α:Type}[Membership af α]{X:α}{H:al}:∀(ds:List D){vs us:List V}{aZ:List D},bx X H ds vs->bx X H aZ us->bx X H (ds++aZ) (vs++us)
 |[],vs,us,aZ,h,ar=>by
  obtain rfl:vs=[]:=h;exact ar
 |d::ds,vs,us,aZ,h,ar=>by
  obtain⟨v,r,rfl,q,b1⟩:=h;exact⟨v,r++us,I,q,bx.app ds b1 ar⟩
theorem bx.at2{α:Type}[Membership af α]{X:α}{H:al}:∀(ds:List D){vs:List V}{i:Nat}{v:V},bx X H ds vs->vs[i]?=J v->∃d,ds[i]?=J d/\b5 X H d v
 |[],vs,i,v,h,e=>by
  obtain rfl:vs=[]:=h;cases e
 |d::ds,vs,i,v,h,e=>by
  obtain⟨gH,r,rfl,q,b1⟩:=h;cases i with
  |zero=>cases e;exact⟨d,I,q⟩
  |succ i=>exact bx.at2 ds b1 e
mutual
theorem b5.vW{X:cS}{H:al}{l:af}(aB:H l=ax):∀(d:D){v:V},b5 X H d v->b5 (cS.j4 l X) H d v
 |.bf,v,h=>h
 |.aK b,v,h=>h
 |.int i,v,h=>h
 |.str t,v,h=>h
 |.tup ds,v,h=>by
  obtain⟨a,vs,e,n,e5,q,z⟩:=h;exact⟨a,vs,e,fun m=>(show a=l\/a∈X from m).elim (fun y=>by rw[y,aB]at e5;cases e5) n,e5,bx.vW aB ds q,z⟩
 |.lst ds,v,h=>by
  obtain⟨a,vs,e,n,e5,q,z⟩:=h;exact⟨a,vs,e,fun m=>(show a=l\/a∈X from m).elim (fun y=>by rw[y,aB]at e5;cases e5) n,e5,bx.vW aB ds q,z⟩
theorem bx.vW{X:cS}{H:al}{l:af}(aB:H l=ax):∀(ds:List D){vs:List V},bx X H ds vs->bx (cS.j4 l X) H ds vs
 |[],vs,h=>h
 |d::ds,vs,h=>by
  obtain⟨v,r,e,q,b1⟩:=h;exact⟨v,r,e,b5.vW aB d q,bx.vW aB ds b1⟩
end
def gI.in{X:cS}{c:Nat}{b:af}(h:gI X H1 m c H H')(ag:b∈X)(e:H b=J u):H' b=J u:=by
 rcases h.k b u e with z|⟨ds,_,_,_,_,_,⟨a,_,cL,aV,_⟩,_⟩
 .exact z
 ·injection cL with cL;subst cL;exact absurd ag aV
def sl{s l x:af}(h:x∈[p,s,l]):x=p\/x=s\/x=l:=by
 rcases dd.mp h with h|h
 .exact .inl h
 ·rcases dd.mp h with h|h
  .exact .inr (.inl h)
  .exact .inr (.inr (ft.mp h))
structure l5(ee:af)(c:ey)(H:al)(b7 ak bl l cG L:af)(m:Int)(eN:V)(g:bH)(ds d0:List D)(vs ws:List V):Prop where
 s:oz H b7 ee ak bl m l (ds.map (aT bL g))
 d:b5 [b7,l,cG] H (e4 g) eN
 f:b6 c [b7,l,cG] H g bl
 k:H cG=J (.lst vs)
 w:bx [b7,l,cG] H ds vs
 e:H L=J (.lst ws)
 n:L∉[b7,l,cG]
 x:bx [b7,l,cG] H d0 ws
 i:∀d,d∈ds->d∈d0
 o:(ds.map (aT bL g)).Pairwise jg
 u:(ds.map (aT bL g)).Nodup
 b:l≠cG
def l5.iU{c:ey}{b7 ak l L:af}{m:Int}{g:bH}{j7:List D}{pB:List V}(bF:l5 ee c H b7 ak bl l cG L m eN g ds d0 vs ws)(k:∀b u,b∉[b7,l,cG]->H b=J u->ao b=J u)(aB:et=l\/H et=ax)(hs:oz ao b7 ee ak bl m et (j7.map (aT bL g)))(hk:ao cG=J (.lst pB))(hw:bx [b7,l,cG] H j7 pB)(aF:∀d,d∈j7->d∈d0)(aN:(j7.map (aT bL g)).Pairwise jg)(cz:(j7.map (aT bL g)).Nodup):l5 ee c ao b7 ak bl et cG L m eN g j7 d0 pB ws:=by
 have pC:∀x,x∈[b7,et,cG]->x∈et::[b7,l,cG]:=fun x aq=>by
  rcases sl aq with rfl|rfl|rfl
  .exact dw _ (eA ..)
  .exact eA ..
  .exact dw _ (dw _ (dw _ (eA ..)))
 have Kl:et=l->∀x,x∈et::[b7,l,cG]->x∈[b7,l,cG]:=fun e x aq=>by
  rcases dd.mp aq with z|z
  .rw[z,e];exact dw _ (eA ..)
  .exact z
 have gz:∀b u,b∉et::[b7,l,cG]->H b=J u->ao b=J u:=fun b u n e=>k b u (fun z=>n (dw _ z)) e;have abt:∀{d v},b5 [b7,l,cG] H d v->b5 [b7,et,cG] ao d v:=fun{d v}h=>b5.weak pC _ (b5.keep gz _ (aB.elim (fun e=>b5.weak (Kl e) _ h) fun e=>b5.add e _ h));have Cc:∀{d v},bx [b7,l,cG] H d v->bx [b7,et,cG] ao d v:=fun{d v}h=>bx.weak pC _ (bx.keep gz _ (aB.elim (fun e=>bx.weak (Kl e) _ h) fun e=>bx.add e _ h));have abu:b6 c [b7,et,cG] ao g bl:=b6.weak pC _ (b6.keep gz _ (aB.elim (fun e=>b6.weak (Kl e) _ bF.f) fun e=>b6.add e _ bF.f));refine⟨hs,abt bF.d,abu,hk,Cc hw,k _ _ bF.n bF.e,fun z=>?_,Cc bF.x,aF,aN,cz,?_⟩
 ·rcases sl z with z|z|z
  .exact bF.n (by rw[z];exact eA ..)
  ·rcases aB with e|e
   .exact bF.n (by rw[z,e];exact dw _ (eA ..))
   .exact fe bF.e e z
  .exact bF.n (by rw[z];exact dw _ (dw _ (eA ..)))
 ·rcases aB with e|e
  .rw[e];exact bF.b
  .exact(fe bF.k e).symm
def l5.ext{c:ey}{b7 ak l L:af}{m:Int}{g:bH}(bF:l5 ee c H b7 ak bl l cG L m eN g ds d0 vs ws)(X:Ext H ao):l5 ee c ao b7 ak bl l cG L m eN g ds d0 vs ws:=bF.iU (fun b u _ e=>X.s b u e) (.inl rfl) ⟨X.s _ _ bF.s.1,X.s _ _ bF.s.2⟩ (X.s _ _ bF.k) bF.w bF.i bF.o bF.u
structure Ak(g:bH)(d0:List D):Prop where
 o:fz g
 h:bc g<=4
 t:∀x,x∈d0->bJ cy g x=ah/\(aT bL g x).length<=15000000/\dK x<=6
def l5.PN{c:ey}{b7 ak l L:af}{m:Int}{g:bH}(bF:l5 ee c H b7 ak bl l cG L m eN g ds d0 vs ws)(G:Ak g d0)(aV:ds.length<=50){x:D}(aq:x∈d0)(bR:dj H x v):EN H eN cG v g ds vs x 4:=by
 obtain⟨a,b,c⟩:=G.t x aq;exact⟨b5.at _ bF.d,G.o,G.h,bF.k,⟨bx.at _ bF.w,fun y aW=>by obtain⟨a,b,c⟩:=G.t y (bF.i y aW);exact⟨a,by lia⟩,by lia,bF.o⟩,bR,a,by lia⟩
def bx.ins[Membership af α]{X:α}{x:D}(k:Nat)(h:bx X H ds vs)(aq:b5 X H x v):bx X H (ds.take k++x::ds.drop k) (vs.take k++v::vs.drop k):=bx.app _ (bx.cut ds k h).1 ⟨v,_,rfl,aq,(bx.cut ds k h).2⟩
theorem bx.era{α:Type}[Membership af α]{X:α}{H:al}:∀(ds:List D){vs:List V}(k:Nat),bx X H ds vs->bx X H (ds.eraseIdx k) (vs.eraseIdx k)
 |[],vs,k,h=>by
  obtain rfl:vs=[]:=h;exact rfl
 |d::ds,vs,0,h=>by
  obtain⟨v,r,rfl,q,b1⟩:=h;exact b1
 |d::ds,vs,k+1,h=>by
  obtain⟨v,r,rfl,q,b1⟩:=h;exact⟨v,_,I,q,bx.era ds k b1⟩
theorem NV{α β:Type}(f:α->β):∀(l:List α)(k:Nat),(l.eraseIdx k).map f=(l.map f).eraseIdx k
 |[],_=>rfl
 |_::_,0=>rfl
 |x::l,k+1=>congrArg (f x::·) (NV f l k)
structure iC(X:List af)(H ao:al):Prop where
 k:∀b u,b∉X->H b=J u->ao b=J u
 x:∀b u,H b=J u->∃u',ao b=J u'
 c:jH H->jH ao
def iC.trans{A C:al}(a:iC X A B)(b:iC X B C):iC X A C:=⟨fun x u n e=>b.k x u n (a.k x u n e),fun x u e=>by obtain⟨v,e⟩:=a.x x u e;exact b.x x v e,fun z=>b.c (a.c z)⟩
def iC.ext{A:al}(x:Ext A B):iC X A B:=⟨fun b u _ e=>x.s b u e,fun b u e=>⟨u,x.s b u e⟩,x.c⟩
def iC.iU{A:al}(x:d4 p A B)(aU:p∈X)(e:B p=J u):iC X A B:=⟨fun b u n e=>x.k b u (fun z=>n (by rw[z];exact aU)) e,fun b v eG=>by
 by_cases z:b=p
 .rw[z];exact⟨u,e⟩
 .exact⟨v,x.k b v z eG⟩,x.c⟩
def Hl{l:af}(h:H l=J (.lst xs)):d4 l H (upd H l (.lst ay)):=⟨fun b u n e=>by rw[bC n];exact e,fun c a u e=>by
 by_cases z:a=l
 .subst z;rw[aG]at e;cases e;trivial
 ·rw[bC z]at e
  exact NP h (c a u e)⟩
def iC.abC{c:Nat}(a:iC X H ao)(h:gI (cS.j4 et (cS.of H)) H1 m c ao bp):iC X H bp:=⟨fun b u n e=>h.in (cS.dT ⟨u,e⟩) (a.k b u n e),fun b u e=>by obtain⟨v,aS⟩:=a.x b u e;exact⟨v,h.in (cS.dT ⟨u,e⟩) aS⟩,fun z=>h.c (a.c z)⟩
def iC.sub(a:iC X H ao):c7.Sub H ao ao :=.all a.x a.c
def UK{l:List (List Bool)}(h:l.Nodup)(aF:l[i]?=J r)(b0:l[j]?=J r):i=j:=by
 obtain⟨ai,aL⟩:=gr.mp aF;obtain⟨ar,aS⟩:=gr.mp b0;rcases Nat.lt_trichotomy i j with z|z|z
 .exact absurd (aL.trans aS.symm) (List.pairwise_iff_getElem.mp h i j ai ar z)
 .exact z
 .exact absurd (aS.trans aL.symm) (List.pairwise_iff_getElem.mp h j i ar ai z)
def QN(ee:af)(c:ey):cv:=fun Ke H Q _=>∃(b7 ak bl l cG L:af)(m:Int)(eN:V)(g:bH)(ds d0:List D)(vs ws:List V)(x:D)(v:V)(m9:Nat),Ke=[.ref b7,eN,.ref cG,v,.int ((m9:Nat):Int)]/\m9<3/\l5 ee c H b7 ak bl l cG L m eN g ds d0 vs ws/\Ak g d0/\ds.length<=49/\x∈d0/\b5 [b7,l,cG] H x v/\
 ∀ao et j7 pB,l5 ee c ao b7 ak bl et cG L m eN g j7 d0 pB ws->j7.length<=ds.length+1->(et=l\/H et=ax)->iC [b7,l,cG] H ao->Q (.aK ah) ao
set_option tactic.hygienic true in
def ZG{f:af}(nb:dn mg)(F:dD K mg "_law_deed" Gk ["_law_shelf","_law_form_here","_law_kept","_law_value_here","_law_way"] f fd)(T:oA K ee)(eF:fT K ee)(u0:aY P w K mg zn 14 "_law_there" ["_law_form_here","_law_kept","_law_value_here"] (R3 4))(uY:aY P w K mg zn 13 "_law_place" ["_law_form_here","_law_kept","_law_value_here"] (RB 4))(uU:aY P w K mg zn 7 "_law_copied" ["_law_value_here"] (QL 6))(l4:aY P w K mg zn 13 "_law_same" ["_law_found","_law_due"] (RO 12))(rv:aY P w K mg zn 13 "_law_bend" ["_law_value_here"] (QG 12))(u1:aY P w K mg zn 1 "_law_told" ["_law_found","_law_due"] R4)
  (ES:gn P w K mg zn 14 ee "put" ["self","value"] (RG ee c 4)) (EU:gn P w K mg zn 14 ee "take" ["self","value"] (R2 ee c 4)) (vn:gn P w K mg zn 14 ee "has" ["self","value"] (Q8 ee c 4)):aY P w K mg zn 15 "_law_deed" ["_law_shelf","_law_form_here","_law_kept","_law_value_here","_law_way"] (QN ee c):=by show_term
 refine F.eg pQ (fun H vs Q E aw h=>?_);obtain⟨b7,ak,bl,l,cG,L,m,eN,g,ds,d0,vs,ws,x,v,m9,rfl,PG,bF,fA,aV,aq,bR,q⟩:=h
 refine⟨_,(aI (bM 5 pQ.bj (bT u0 aw (aj (ab 1) (aj (ab 2) (aj (ab 3) az)))))
  (aI (bM 6 pQ.bj (bT uY aw (aj (ab 1) (aj (ab 2) (aj (ab 3) az)))))
  (aI (bM 7 pQ.bj (bT uU aw (aj (ab 3) az)))
  (aI (bM 8 pQ.bj (ab 5))
  (aI (cw (b9 c6 (ab 4) aC) (aI (bM 8 pQ.bj (B1 (ab 5)))
   (aI (bM 9 pQ.bj (oF ES eF aw (ab 0) (aj (ab 7) az)))
   (aJ (cw (iJ (f6 (ab 5))) (aJ (ik (hZ PySem.F.plainAttrs_list PySem.F.slot_list_insert PySem.F.type_list_insert aa1 (ab 2) (aj (ab 6) (aj (ab 3) az))))) cx)))) (aJ (cw (b9 c6 (ab 4) aC) (aI (bM 9 pQ.bj (oF EU eF aw (ab 0) (aj (ab 7) az)))
    (aJ (cw (f6 (ab 5)) (aJ (ik (hZ PySem.F.plainAttrs_list PySem.F.slot_list_pop PySem.F.type_list_pop Nh (ab 2) (aj (ab 6) az)))) cx))) (aJ (bM 9 pQ.bj (oF vn eF aw (ab 0) (aj (ab 7) az)))))))
  (aI (bM 10 pQ.bj (bT l4 aw (aj (ab 7) (aj (ab 3) az))))
  (aI (ik (bT rv aw (aj (ab 7) az)))
  (aJ (bt (il (ab 10) (jB (bT u1 aw (aj (ab 9) (aj (ab 8) az)))))))))))))),?_⟩
 ac_rfl;have f5:=bF.PN fA (by lia) aq (b5.at _ bR);obtain⟨gP,zp,abK⟩:=fA.t x aq;have mu:=x9 _ fA.o;refine fN fun N bP=>⟨_,I,_,I,_,I,eN,cG,v,g,ds,vs,x,I,f5,bP _ _ ?_⟩;clear bP;refine fN fun N bP=>⟨_,I,_,I,_,I,eN,cG,v,g,ds,vs,x,I,f5,fun k AH=>bP _ _ ?_⟩;clear bP;have hm:=AH.mem fA.o (fun y aW=>(fA.t y (bF.i y aW)).1) gP bF.o;refine fN fun N bP=>⟨_,I,x,v,I,b5.at _ bR,abK,fun v1 H1 iu i7=>bP _ _ ?_⟩;clear bP;refine fN fun N bP=>⟨_,I,bP _ _ ?_⟩;clear bP;obtain⟨pY,wo⟩:∃pY,pY=decide (aT bL g x∈ds.map (aT bL g)):=⟨_,rfl⟩;rw[<-wo];have jJ:=bF.ext iu;have afs:b7∈[b7,l,cG]:=eA ..;have afr:l∈[b7,l,cG]:=dw _ (eA ..);have PW:cG∈[b7,l,cG]:=dw _ (dw _ (eA ..));have agj:b7≠l:=fun z=>by have:=jJ.s.2;rw[<-z,jJ.s.1]at this;cases this
 have Jm:b7≠cG:=fun z=>by have:=jJ.k;rw[<-z,jJ.s.1]at this;cases this
 have Cc:b7∈cS.of H:=⟨_,bF.s.1⟩;have abw:l∈cS.of H:=⟨_,bF.s.2⟩;have abv:cG∈cS.of H:=⟨_,bF.k⟩;have afL:∀b,b∉cS.of H->b∉[b7,l,cG]:=fun b n z=>n (by rcases sl z with rfl|rfl|rfl<;>assumption);have lh:=cj.len ds (bx.at _ bF.w);have Pj:=AH.l;refine fN fun N bP=>?_
 have dp:∀(bd:Bool)(ao:al)(et:af)(j7:List D)(pB:List V),iC [b7,l,cG] H1 ao->(et=l\/H1 et=ax)->oz ao b7 ee ak bl m et (j7.map (aT bL g))->ao cG=J (.lst pB)->bx [b7,l,cG] H j7 pB->(∀d,d∈j7->d∈d0)->(j7.map (aT bL g)).Pairwise jg->(j7.map (aT bL g)).Nodup->j7.length<=ds.length+1->N [J (.ref b7),J eN,J (.ref cG),J v,J (.int ((m9:Nat):Int)),J (.aK pY),J (.int ((k:Nat):Int)),J v1,J (.aK bd),J (.aK bd),ax] ao:=fun bd ao et j7 pB M aB hs hk hw aF aN cz o3=>by
  refine bP _ _ ?_;clear bP;have eI:∀b u,b∉cS.of H->H1 b=J u->ao b=J u:=fun b u n e=>M.k b u (afL b n) e;have kv:et=l\/H et=ax:=aB.imp id fun e=>iu.s.free e
  have ai:b5 (cS.j4 et (cS.of H)) H1 x v1:=by
   rcases aB with e|e
   .exact b5.weak (fun y aW=>(show y=et\/y∈cS.of H from aW).elim (fun z=>by rw[z,e];exact abw) id) _ i7
   .exact b5.vW e _ i7
  have kx:b5 (cS.j4 et (cS.of H)) ao x v1:=b5.keep (fun b u n e=>eI b u (fun z=>n (cS.dT z)) e) _ ai;have aeE:dj ao x v:=b5.at _ (b5.keep M.k _ (b5.same iu.s bR));refine fN fun N bP=>⟨_,I,_,I,v1,v,x,I,b5.at _ kx,aeE,by lia,bP _ _ ?_⟩;clear bP;refine fN fun N bP=>⟨_,I,cS.j4 et (cS.of H),ao,x,v1,0,0,I,kx,.ext (.refl _),(by have:=tp g x gP;lia),.inr (by lia),fun bp B=>bP _ _ ?_⟩;clear bP;have h9:iC [b7,l,cG] H bp:=((iC.ext iu).trans M).abC B;have jK:=bF.iU h9.k kv ⟨B.in (cS.dT Cc) hs.1,B.in cS.hd hs.2⟩ (B.in (cS.dT abv) hk) hw aF aN cz;exact⟨_,I,_,I,eP ⟨_,I,_,I,bd,I,_,h9.sub,q bp et j7 pB jK o3 kv h9⟩⟩
 clear bP;have rl:m9=0\/m9=1\/m9=2:=by lia
 have yG:=b6.weak (fun x(aq:x∈([]:List af))=>nomatch aq) _ jJ.f;have hle:(ds.map (aT bL g)).length<60:=by rw[cA];lia
 have same:∀bd,N [J (.ref b7),J eN,J (.ref cG),J v,J (.int ((m9:Nat):Int)),J (.aK pY),J (.int ((k:Nat):Int)),J v1,J (.aK bd),J (.aK bd),ax] H1:=fun bd=>dp bd H1 l ds vs (iC.ext (Ext.refl _)) (.inl rfl) jJ.s jJ.k bF.w bF.i bF.o bF.u (by lia);rcases rl with rfl|rfl|rfl
 ·refine⟨_,I,I,_,I,hU I ?_⟩;refine fN fun akQ Ia=>⟨_,I,pY,I,Ia _ _ ?_⟩;refine fN fun TX yJ=>⟨_,I,b7,ak,_,I,jJ.s.1,qi ..,_,I,b7,ak,bl,l,m,v1,g,x,_,I,jJ.s,yG,mu,fA.h,b5.at _ i7,gP,zp,hle,fun gy=>yJ _ _ ?_,fun CZ et ss r9 C7 Pz=>yJ _ _ ?_⟩
  ·obtain rfl:pY=ah:=by rw[wo];exact eT gy
   exact⟨_,I,_,I,da (same aE)⟩
  ·obtain rfl:pY=aE:=by rw[wo];exact fL CZ
   have eM:et≠b7:=(fe jJ.s.1 r9).symm;have Ds:cG≠et:=fe jJ.k r9;have tx:upd (upd H1 b7 (.ins ee ak (jU bl m et))) et (.lst (cK ss)) cG=J (.lst vs):=by rw[bC Ds,bC (ei Jm)];exact jJ.k
   refine⟨_,I,_,I,eP ⟨_,I,.inl ⟨I,_,ba tx⟩,_,I,_,I,cG,vs,((k:Nat):Int),k,v,I,I,tx,I,by lia,by lia,?_⟩⟩
   have wA:ss=(ds.take k++x::ds.drop k).map (aT bL g):=by
    have aL:(ds.take k++x::ds.drop k).map (aT bL g)=(ds.map (aT bL g)).take k++aT bL g x::(ds.map (aT bL g)).drop k:=by rw[fP,fB,List.map_take,List.map_drop]
    rw[aL];refine Li _ _ C7 (Vs bF.o (fun y aW=>?_) fun y aW=>?_) (Pz.trans (List.perm_append_comm.trans (GZ _ _ _).symm))
    ·obtain⟨i,aF⟩:=List.getElem?_of_mem aW;rw[List.getElem?_take]at aF;split at aF
     ·rename_i Pa;rw[eD]at aF;obtain⟨jb,e,rfl⟩:=Uf.mp aF;exact yh ((Std.of fA.o (fA.t jb (bF.i jb (eY e))).1 gP).2.1 (AH.a i jb Pa e))
     .cases aF
    ·rw[eD]at aW;obtain⟨jb,e,rfl⟩:=Uf.mp aW;have ag:=AH.b jb e;intro z;have S:=Std.of fA.o (fA.t jb (bF.i jb (eY e))).1 gP;rcases Int.lt_trichotomy (dV g jb x) 0 with w|w|w
     .exact ag w
     .rw[S.1 w]at z;exact absurd z (List.lt_irrefl _)
     .exact List.lt_asymm z (yh (S.2.2 w))
   have Pw:ss.Perm (aT bL g x::ds.map (aT bL g)):=Pz.trans List.perm_append_comm;have ad9:ss.Nodup:=Pw.nodup_iff.mpr (List.nodup_cons.mpr ⟨CZ,bF.u⟩);have gD:iC [b7,l,cG] H1 (upd (upd H1 b7 (.ins ee ak (jU bl m et))) et (.lst (cK ss))):=(iC.iU (d4.move jJ.s.1) afs aG).trans (iC.ext (Ext.lst (by rw[bC eM];exact r9)));refine dp ah _ et (ds.take k++x::ds.drop k) _ (gD.trans (iC.iU (Hl tx) PW aG)) (.inr r9) ⟨?_,?_⟩ aG (bx.ins k bF.w bR) (fun d hd=>?_) (wA ▸ C7) (wA ▸ ad9) ?_
   .rw[bC Jm,bC (ei eM)];exact aG
   .rw[bC (ei Ds),<-wA];exact aG
   ·rcases dd.mp ((GZ ds k x).mem_iff.mp hd)with rfl|hd
    .exact aq
    .exact bF.i d hd
   .rw[(GZ ds k x).length_eq,eb];exact cp _
 ·refine⟨_,I,I,_,I,fh (fun z=>nomatch V.int.inj z) ⟨_,I,I,_,I,hU I ?_⟩⟩;refine fN fun TX yJ=>⟨_,I,b7,ak,_,I,jJ.s.1,qi ..,_,I,b7,ak,bl,l,m,v1,g,x,_,I,jJ.s,yG,mu,fA.h,b5.at _ i7,gP,zp,hle,fun CZ=>yJ _ _ ?_,fun gz Cq=>yJ _ _ ?_⟩
  ·obtain rfl:pY=aE:=by rw[wo];exact fL CZ
   exact⟨_,I,_,I,da (same aE)⟩
  ·have gy:=eY Cq;obtain rfl:pY=ah:=by rw[wo];exact eT gy
   obtain⟨y,nC,eV⟩:=hm.mp gy;have hQ:(ds.map (aT bL g))[k]?=J (aT bL g x):=by rw[eD,nC];exact congrArg J ((Js fA.o (fA.t y (bF.i y (eY nC))).1 gP).mp eV)
   obtain rfl:=UK bF.u Cq hQ;have r8:gz<vs.length:=by have:=(gr.mp nC).1;lia
   have tx:upd H1 l (.lst (cK ((ds.map (aT bL g)).eraseIdx gz))) cG=J (.lst vs):=by rw[bC (ei bF.b)];exact jJ.k
   refine⟨_,I,_,I,eP ⟨_,I,.inl ⟨I,_,ba tx⟩,_,I,cG,vs,((gz:Nat):Int),gz,vs[gz],I,I,tx,by lia,by lia,?_,cI r8,?_⟩⟩
   .exact PySem.StrLaws.seqIndex_nonneg (by lia) (by lia)
   have sub:=List.eraseIdx_sublist ds gz;have Sh:=sub.map (aT bL g);refine dp ah _ l (ds.eraseIdx gz) _ ((iC.iU (Hl jJ.s.2) afr aG).trans (iC.iU (Hl tx) PW aG)) (.inl I) ⟨?_,?_⟩ aG (bx.era ds gz bF.w) (fun d hd=>bF.i d (sub.subset hd)) (bF.o.sublist Sh) (List.Pairwise.sublist Sh bF.u) (Nat.le_succ_of_le sub.length_le)
   .rw[bC Jm,bC agj];exact jJ.s.1
   .rw[bC bF.b,NV];exact aG
 ·refine⟨_,I,I,_,I,fh (fun z=>nomatch V.int.inj z) ⟨_,I,I,_,I,fh (fun z=>nomatch V.int.inj z) ?_⟩⟩;refine⟨_,I,b7,ak,_,I,jJ.s.1,qi ..,_,I,b7,ak,bl,l,m,v1,g,x,_,I,jJ.s,yG,mu,fA.h,b5.at _ i7,gP,zp,?_⟩;rw[<-wo];exact same pY
noncomputable def hV{α:Type}(keep:Nat->Bool):List α->Nat->List α
 |[],_=>[]
 |x::xs,k=>if keep k=ah then x::hV keep xs (k+1)else hV keep xs (k+1)
theorem M7{α:Type}(keep:Nat->Bool)(x:α):∀(l:List α)(k:Nat),hV keep (l++[x]) k=hV keep l k++(if keep (k+l.length)=ah then [x]else [])
 |[],k=>by
  show(if keep k=ah then x::hV keep [] (k+1)else hV keep [] (k+1))=_;rw[show k+([]:List α).length=k from rfl];rfl
 |y::l,k=>by
  show(if keep k=ah then y::hV keep (l++[x]) (k+1)else hV keep (l++[x]) (k+1))=(if keep k=ah then y::hV keep l (k+1)else hV keep l (k+1))++_;rw[M7 keep x l (k+1),show k+(y::l).length=k+1+l.length by rw[eb];lia];split<;>rfl
theorem Hh{α:Type}(keep:Nat->Bool):∀(l:List α)(k:Nat),(hV keep l k).length<=l.length
 |[],k=>cp _
 |y::l,k=>by
  have:=Hh keep l (k+1);rw[hV,eb];split
  .rw[eb];lia
  .omega
theorem cj.hV{H:al}{P:D->Bool}(keep:Nat->Bool):∀(ds:List D){vs:List V}(k:Nat),cj H ds vs->(∀i d,ds[i]?=J d->keep (k+i)=P d)->cj H (ds.filter P) (KR.hV keep vs k)
 |[],vs,k,h,_=>by
  obtain rfl:vs=[]:=h;exact rfl
 | d::ds,vs,k,h,hk=>by
  obtain⟨v,r,rfl,q,b1⟩:=h;have e:=hk 0 d rfl
  have bK:=cj.hV keep ds (k+1) b1 fun i d' h'=>by
   have:=hk (i+1) d' h';rwa [show k+(i+1)=k+1+i by lia]at this
  rw[KR.hV];rw[show k+0=k from rfl]at e;cases z:P d with
  |true =>
   rw[e,z,if_pos rfl,List.filter_cons_of_pos z];exact⟨v,_,I,q,bK⟩
  |false =>
   rw[e,z,if_neg (by decide),List.filter_cons_of_neg (by rw[z];decide)];exact bK
def cZ.keep{K:bS}{a:af}(h:cZ K H a xs)(k:∀u,H a=J u->H' a=J u):cZ K H' a xs:=by
 rcases h with(h|⟨o,h⟩)|h
 .exact .inl (.inl (k _ h))
 .exact .inl (.inr ⟨o,k _ h⟩)
 .exact .inr h
def Zh{K:bS}{a:af}{D:af}(keep:Nat->Bool)(S:St->Prop)(bV:xs.length<=cg)(aX:S ew)(c2:H D=ax)(aB:cZ K H a xs)
  (bc:∀i x,xs[i]?=J x->∀bE H1,S bE->dY H H1->∀(R:St->V->al->Prop)(jz:St->al->Prop),(∀bg,S bg->if keep i=ah then R bg x H1 else jz bg H1)->g x bE H1 fun bg ao=>gm bg ao fun b bp=>if b=ah then cJ bg bp fun y gJ=>R bg y gJ else jz bg bp)
  (bo:Q (.ref D) (upd H D (.lst (hV keep xs 0)))) :
  k0 (pL K a) g gm cJ Q ew H D:=by
 have ajk:∀l:List V,cZ K (upd H D (.lst l)) a xs:=fun l=>cZ.keep aB fun u e=>cE c2 _ _ e;refine⟨fun i m bE ao=>i<=xs.length/\m=xs.length-i/\S bE/\ao=upd H D (.lst (hV keep (xs.take i) 0)),⟨xs.length,UF _,I,aX,I⟩,?_⟩;rintro i m bE ao ⟨ai,rfl,ar,rfl⟩;have gb:=ajk (hV keep (xs.take i) 0);rcases g5 i xs.length with z|z
 ·refine .inr ⟨⟨xs,xs[i],gb,cI z⟩,?_⟩;rintro x bp ⟨rfl,aq⟩;have aq:=aq xs gb
  have jo:hV keep (xs.take (i+1)) 0=hV keep (xs.take i) 0++(if keep i=ah then [x]else []):=by
   rw[iG,aq];show hV keep (xs.take i++[x]) 0=_;rw[M7,hN,Nat.min_eq_left (by lia),Nat.zero_add]
  have hs:=Hh keep (xs.take i) 0;rw[hN]at hs;refine bc i x aq bE _ ar (cE c2) (fun bg y dm=>∃zs bU,dm D=J (.lst zs)/\zs.length<cg/\bU<xs.length-i/\(i+1<=xs.length/\bU=xs.length-(i+1)/\S bg/\upd dm D (.lst (zs++[y]))=upd H D (.lst (hV keep (xs.take (i+1)) 0)))) (fun bg dm=>∃bU,bU<xs.length-i/\(i+1<=xs.length/\bU=xs.length-(i+1)/\S bg/\dm=upd H D (.lst (hV keep (xs.take (i+1)) 0)))) fun bg eS=>?_;by_cases ag:keep i=ah
  ·rw[if_pos ag];exact⟨_,xs.length-(i+1),aG,by lia,by lia,by lia,rfl,eS,by rw[fW,jo,if_pos ag]⟩
  ·rw[if_neg ag];exact⟨xs.length-(i+1),by lia,by lia,rfl,eS,by rw[jo,if_neg ag,List.append_nil]⟩
 ·have e:i=xs.length:=by lia
  subst e;rw[List.take_length]at gb ⊢;exact .inl ⟨⟨xs,gb,cp _⟩,bo⟩
noncomputable def JB(rs:List (List Bool)):D :=.lst (rs.map fun r =>.str (aH r))
theorem NL{H:al}:∀(rs:List (List Bool)),(∀r,r∈rs->r.length<=16000000)->cj H (rs.map fun r=>D.str (aH r)) (cK rs)
 |[],_=>rfl
 |r::rs,h=>⟨_,_,rfl,⟨rfl,by rw[dG];exact h r (eA ..)⟩,NL rs fun x aq=>h x (dw _ aq)⟩
def Lj{a:af}(e:H a=J (.lst (cK rs)))(h:∀r,r∈rs->r.length<=16000000)(aV:rs.length<=1000):dj H (JB rs) (.ref a):=⟨a,_,rfl,e,NL rs h,by rw[ip];exact aV⟩
def WU(rs:List (List Bool)):dK (JB rs)<=60:=by
 have this:∀rs:List (List Bool),er (rs.map fun r=>D.str (aH r))<=1:=fun rs=>by
  induction rs with
  |nil=>rw[List.map_nil,er];lia
  |cons b bs bK=>rw[fB,er,dK];lia
 have:=this rs;rw[JB,dK];lia
theorem G0:∀(ds:List D),(∀d,d∈ds->dK d<=6)->er ds<=6
 |[],_=>by rw[er];lia
 |d::ds,h=>by
  rw[er];have:=h d (eA ..);have:=G0 ds fun x aq=>h x (dw _ aq);lia
def Lf(r:List Bool):kd [] .bf r=ah:=by
 show(!decide ((aH r).cps.toList<[])&&ah)=ah;rw[fL (List.not_lt_nil _)];rfl
def aiZ:(ae.ofString "01")=aH [aE,ah]:=⋯
def agA(h:k<4):∃t:List Bool,ed [V.str "",V.str "0",V.str "1",V.str "01"] ((k:Nat):Int)=J (.str (aH t))/\t.length<=2:=by
 match k,h with
 |0,_=>exact⟨[],by rw[<-uv];exact cT (j:=0) I,by decide⟩
 |1,_=>exact⟨[aE],by rw[<-s0];exact cT (j:=1) I,by decide⟩
 |2,_=>exact⟨[ah],by rw[<-s1];exact cT (j:=2) I,by decide⟩
 |3,_=>exact⟨[aE,ah],by rw[<-aiZ];exact cT (j:=3) I,by decide⟩
theorem GD(f:List Bool->Nat):∀(a b:List (List Bool)),a.Nodup->(∀x,x∈a->x∈b)->(a.map f).sum<=(b.map f).sum
 |[],b,_,_=>UF _
 |x::a,b,h,hs=>by
  rw[List.nodup_cons]at h;have p:=List.perm_cons_erase (hs x (eA ..));have bK:=GD f a (b.erase x) h.2 fun y aW=>(List.mem_erase_of_ne (fun z=>h.1 (by rw[<-z];exact aW))).mpr (hs y (dw _ aW));have e:=(p.map f).sum_nat;rw[fB,List.sum_cons]at e ⊢;lia
def RY(K:bS)(ee:af)(c:ey):cv:=fun Ke H Q _=>∃(a b7 ak bl l cG L:af)(ns:List Int)(m:Nat)(eN:V)(g:bH)(ds d0:List D)(vs ws:List V),Ke=[.ref a,.ref b7,.ref bl,.ref L,.ref cG]/\cZ K H a (ns.map V.int)/\ns.length<=63/\l5 ee c H b7 ak bl l cG L ((m:Nat):Int) eN g ds d0 vs ws/\Ak g d0/\ds.length<=50/\1<=d0.length/\d0.length<=9/\((d0.map (aT bL g)).map List.length).sum<=15000000/\2<=m/\m<=20/\Q (.aK ah) H
def Y7{f:af}(nb:dn mg)(F:dD K mg "_law_spans" FX ["_law_script","_law_shelf","_law_made_here","_law_some","_law_kept"] f fd)(T:oA K ee)(eF:fT K ee)(uT:aY P w K mg zn 1 "_law_cell_at" ["_law_script","_law_k"] (QJ K))(l4:aY P w K mg zn 13 "_law_same" ["_law_found","_law_due"] (RO 12))(Ex:aY P w K mg zn 7 "rows_of" ["page"] RN)(ER:gn P w K mg zn 5 ee "pages" ["self"] (RA ee))(rE:gn P w K mg zn 15 ee "told" ["self","start","end"] (R5 ee c 4))
  (lB:hy P w K mg zn 13 "row" ["self","value"] (fX c) (fun _=>w6 hasAll cy bL c 4)):aY P w K mg zn 16 "_law_spans" ["_law_script","_law_shelf","_law_made_here","_law_some","_law_kept"] (RY K ee c):=by show_term
 refine F.eg oJ (fun H vs Q E aw h=>?_);obtain⟨a,b7,ak,bl,l,cG,L,ns,m,eN,g,ds,d0,vs,ws,rfl,df,C0,bF,fA,aV,ai,mT,q2,ar,qO,q⟩:=h
 refine⟨_,(aI (pR (i:=5)  ["_law_value_here"] [(2,"_law_made_here")] oJ.bj I I I ⋯ ⟨I,.inl I,trivial⟩ (h4 (ab 3)) (d5 (i:=0) (show(["_law_value_here","_law_made_here"]:List ae).Nodup by decide+kernel)) gs (ij lB aw (ab 1) (aj (ab 0) az)))
  (aI (pR (i:=6)  ["_law_k"] [(0,"_law_script")] oJ.bj rfl rfl rfl ⋯ ⟨rfl,.inl rfl,trivial⟩ (aaN rfl nb.kV (aj aC (aj aC az))) (d5 (i:=0) (show(["_law_k","_law_script"]:List ae).Nodup by decide+kernel)) gs (aO hn (bT uT aw (aj (ab 1) (aj (ab 0) az))) aC))
  (aI (bM 7 oJ.bj (bW bY (ab 5) (aO dX (bW bY (ab 6) aC) (b8 dx rfl nb.dr dv (aj (ab 5) az)))))
  (aI (bM 7 oJ.bj (aO zA (lK lX (ab 7) mB (kL (aO dX (bW bY (ab 6) aC) (aO zA (b8 dx rfl nb.dr dv (aj (ab 7) az)) aC)))) (bW bY (hB (aj cY (aj cY (aj cY (aj cY az))))) (aO dX (bW bY (ab 6) aC) aC))))
  (aI (bM 8 oJ.bj (bW bY (ab 5) (aO dX (bW bY (ab 6) aC) (b8 dx rfl nb.dr dv (aj (ab 5) az)))))
  (aI (bM 8 oJ.bj (lK lX (ab 8) mB (kL (b8 (Ue rfl) rfl nb.afD WY (aj aC (aj (aO gc (b8 dx rfl nb.dr dv (aj (ab 8) az)) (aO dX (bW bY (ab 6) aC) aC)) az))))))
  (aI (bM 9 oJ.bj (hB az))
  (aI (ma iB.never rfl (h4 (jj ER eF aw (ab 1))) (d5 (i:=10) oJ.bj rfl (by exact Or.inl I))
   (aJ (bM 9 oJ.bj (aO zA (ab 9) (bT Ex aw (aj (ab 10) az))))))
  (aI (cw (b9 (agq (DC aw)) (ab 9) (hO ["_law_value_here"] [(2,"_law_made_here")] rfl ⋯ ⟨rfl,.inl rfl,trivial⟩ (h4 (ab 4)) (d5 (i:=0) (show(["_law_value_here","_law_made_here"]:List ae).Nodup by decide+kernel)) gs (ij lB aw (ab 1) (aj (ab 0) az)))) (aJ (bt jf)) cx)
  (aI (pR (i:=11)  ["_law_value_here"] [(7,"_law_start"),(2,"_law_made_here"),(8,"_law_end")] oJ.bj rfl rfl rfl ⋯ ⟨rfl,.inl rfl,rfl,.inl rfl,rfl,.inl rfl,trivial⟩ (h4 (ab 4)) (d5 (i:=0) (show(["_law_value_here","_law_start","_law_made_here","_law_end"]:List ae).Nodup by decide+kernel)) (G7 (gK.pt (oL (b9 Qb (ab 1) (ij lB aw (ab 2) (aj (ab 0) az))) (pS (b9 iV (ij lB aw (ab 2) (aj (ab 0) az)) (ab 3)))))) (ab 0))
  (aJ (bt (il (bT l4 aw (aj (oF rE eF aw (ab 1) (aj (ab 7) (aj (ab 8) az))) (aj (ab 11) az))) (jB (bT l4 aw (aj (oF rE eF aw (ab 1) (aj cY (aj pV az))) (aj (ab 4) az))))))))))))))))),?_⟩
 ac_rfl;have mu:=x9 _ fA.o;have PT:=cj.len d0 (bx.at _ bF.x);have lh:=cj.len ds (bx.at _ bF.w);have dk:b6 c [] H g bl:=b6.weak (fun x(aq:x∈([]:List af))=>nomatch aq) _ bF.f;obtain⟨Cm,CA,hQ,qf⟩:=b6.row _ dk;refine fN fun N bP =>.inl ⟨_,I,L,I,⟨_,ba bF.e⟩,fun c3 ec=>?_⟩;refine qF (K:=K) (a:=L) (xs:=ws) (fun i ay ao=>ay=cK ((d0.map (aT bL g)).take i)/\ao=upd H c3 (.lst ay)) (fun U=>∃z,U=[z,J (.ref bl)]) (by lia) ⟨_,I⟩ (fun i ay ao aa=>ba (by rw[aa.2];exact cE ec _ _ bF.e)) ⟨I,I⟩ ?_ ?_
 ·rintro i x aq ay bE H1 ⟨z,rfl⟩ ⟨rfl,rfl⟩ _ _ R bN;obtain⟨d,hd,qd⟩:=cj.get d0 (bx.at _ bF.x) aq;have eX:=cE (o:=cX.lst (cK ((d0.map (aT bL g)).take i))) ec;obtain⟨g1,g2,g3⟩:=fA.t d (eY hd);refine⟨_,I,bl,slot g,Cm,CA,I,eX _ _ hQ,qf,_,I,_,bl,g,x,d,I,I,b6.keep (fun b u _ e=>eX b u e) _ dk,mu,fA.h,dj.same eX _ qd,g1,by lia,bN _ _ _ ⟨_,rfl⟩ aG ⟨?_,by rw[fW]⟩⟩;rw[iG,eD,hd,vS];rfl
 rintro akp H1 kS CJ ⟨rfl,rfl⟩;rw[PT,show d0.length=(d0.map (aT bL g)).length by rw[cA],List.take_length]at CJ ⊢;have iu:=Ext.lst (xs:=cK (d0.map (aT bL g))) ec;refine bP _ _ ?_;clear bP;generalize upd H c3 (.lst (cK (d0.map (aT bL g))))=H1 at iu CJ ⊢;refine fN fun N bP=>⟨_,_,I,⟨by decide,by decide,by decide,by decide⟩,fun gC hR=>?_⟩;refine ZP (lo:=41) (n:=5) (fun k=>V.int (ns.getD (41+k) 0/11)) (fun U=>∃z,U=[z,J (.ref a)]) (by decide) ⟨_,I⟩ hR ?_ ?_
 ·rintro i aF bE gZ ⟨z,rfl⟩ aes R bN;refine⟨_,I,_,I,a,ns,41+i,I,cZ.keep df fun u e=>aes _ _ (iu.s _ _ e),C0,_,_,I,I,⟨by decide,by decide⟩,?_⟩;exact bN _ ⟨_,I⟩
 have iZ:=Ext.lst (xs:=(List.range 5).map fun k=>V.int (ns.getD (41+k) 0/11)) hR;have lN:upd H1 gC (.lst ((List.range 5).map fun k=>V.int (ns.getD (41+k) 0/11))) gC=J (.lst [.int (ns.getD 41 0/11),.int (ns.getD 42 0/11),.int (ns.getD 43 0/11),.int (ns.getD 44 0/11),.int (ns.getD 45 0/11)]):=aG;generalize ns.getD 41 0/11=eV at lN;generalize ns.getD 42 0/11=aL at lN;generalize ns.getD 43 0/11=aS at lN;generalize ns.getD 44 0/11=gw at lN;generalize ns.getD 45 0/11=ho at lN;refine bP _ _ ?_;clear bP;generalize upd H1 gC (.lst _)=ao at iZ lN ⊢;have qK:=iZ.s _ _ CJ;have vC:=iu.trans iZ;clear CJ ec hR iu iZ df;have ae9:(cK (d0.map (aT bL g))).length=d0.length:=by rw[ip,cA]
 have pick:∀e:Int,∃r:List Bool,ed (cK (d0.map (aT bL g))) (e%(((cK (d0.map (aT bL g))).length:Nat):Int))=J (.str (aH r))/\r.length<=15000000:=fun e=>by
  obtain⟨j,b0,gx⟩:=iI e (cK (d0.map (aT bL g))).length (by lia);rw[gx];have nO:j<(d0.map (aT bL g)).length:=by rw[cA];lia
  refine⟨(d0.map (aT bL g))[j],cT (Xc (cI nO)),?_⟩;exact dF (B3 (List.getElem_mem nO)) q2
 have qb:(0:Int)<(((cK (d0.map (aT bL g))).length:Nat):Int):=by lia
 obtain⟨h5,a0,alO⟩:=pick eV;refine fN fun N bP=>⟨_,I,_,I,xz lN (cT (j:=0) I) ⟨_,I,_,_,I,.inl ⟨_,ba qK,I⟩,_,_,I,I,qb,xz qK a0 (bP _ _ ?_)⟩⟩;clear bP;have H7:(aH h5).length<=cg:=by rw[dG];exact gW (by lia)
 obtain⟨iT,yY,Cr⟩:=iI aL (h5.length+1) (by lia);obtain⟨zi,IA,rQ⟩:=iI aS 4 (by decide);have rQ:aS%4=((zi:Nat):Int):=rQ;refine fN fun N bP=>⟨_,I,_,I,xz lN (cT (j:=1) I) ⟨_,I,_,_,I,⟨H7,I⟩,.inl (.inl ⟨_,_,I,I,_,_,I,I,(by rw[dG];lia),_,I,.inr ⟨_,I,H7,(by show 4<=cg;decide),fun eS zl=>⟨_,I,xz (cE zl _ _ lN) (cT (j:=2) I) ⟨_,_,I,I,(by show(0:Int)<4;decide),?_⟩⟩⟩⟩)⟩⟩;have lI:=vC.trans (Ext.lst (xs:=[V.str "",V.str "0",V.str "1",V.str "01"]) zl);have lN:=cE (o:=cX.lst [V.str "",V.str "0",V.str "1",V.str "01"]) zl _ _ lN;have qK:=cE (o:=cX.lst [V.str "",V.str "0",V.str "1",V.str "01"]) zl _ _ qK;obtain⟨Sl,a4,alQ⟩:=agA IA
 have tB:Txt.slice (aH h5) ax (J (aL%((((aH h5).length:Nat):Int)+1)))=aH (h5.take iT):=by
  rw[dG,show((h5.length:Nat):Int)+1=((h5.length+1:Nat):Int)from rfl,Cr];exact GP h5 iT (by lia)
 dsimp only;rw[rQ,tB];have alW:(h5.take iT).length<=15000000:=by rw[hN];lia
 refine (xz aG a4 (.inl (.inr ⟨_,_,I,I,(by rw[dG,dG];exact gW (by lia)),bP _ _ ?_⟩)));clear bP;rw[j2];generalize h5.take iT++Sl=st;generalize upd ao eS _=bp at lI lN qK ⊢;clear a0 a4 tB rQ Cr vC zl;obtain⟨lq,a3,wL⟩:=pick gw;refine fN fun N bP=>⟨_,I,_,I,xz lN (cT (j:=3) I) ⟨_,I,_,_,I,.inl ⟨_,ba qK,I⟩,_,_,I,I,qb,xz qK a3 (bP _ _ ?_)⟩⟩;clear bP;have H8:(aH lq).length<=cg:=by rw[dG];exact gW (by lia)
 obtain⟨sk,alo,Cs⟩:=iI ho 3 (by decide);have Cs:ho%3=((sk:Nat):Int):=Cs;refine fN fun N bP=>⟨_,I,_,I,_,_,I,⟨H8,I⟩,_,I,xz lN (cT (j:=4) I) ⟨_,_,I,I,(by show(0:Int)<3;decide),_,_,I,I,_,_,I,_,I,.inr ⟨_,I,H8,bP _ _ ?_⟩⟩⟩;clear bP
 have tB:Txt.slice (aH lq) ax (J (if(((aH lq).length:Nat):Int)-ho%3 > 0 then(((aH lq).length:Nat):Int)-ho%3 else 0))=aH (lq.take (lq.length-sk)):=by
  rw[dG,Cs];rw[show(if((lq.length:Nat):Int)-((sk:Nat):Int) > 0 then((lq.length:Nat):Int)-((sk:Nat):Int)else 0)=((lq.length-sk:Nat):Int) by split<;>lia];exact GP lq _ (by lia)
 rw[tB];generalize lq.take (lq.length-sk)=bX;clear pick a3 tB Cs qb H7 H8 lN;refine fN fun N bP=>⟨UF _,fun Dh Pq=>bP _ _ ?_⟩;clear bP;have kM:=lI.trans (Ext.lst (xs:=[]) Pq);have HB:upd bp Dh (.lst []) Dh=J (.lst (cK [])):=aG;generalize upd bp Dh (.lst [])=gJ at kM HB ⊢;have xB:=bF.ext kM;obtain⟨rs,wB⟩:∃rs,rs=ds.map (aT bL g):=⟨_,rfl⟩
 have AZ:K2 rs:=by
  rw[wB];exact⟨yo.mpr ((List.Pairwise.and bF.o bF.u).imp fun{a b}h=>by rcases Hm a b with x|x|x;exact x;exact absurd x h.2;exact absurd x h.1),by rw[cA];lia,dF (GD List.length _ _ bF.u fun x aq=>by obtain⟨d,hd,rfl⟩:=List.mem_map.mp aq;exact List.mem_map_of_mem (bF.i d hd)) q2⟩
 have IU:oz gJ b7 ee ak bl ((m:Nat):Int) l rs:=by rw[wB];exact xB.s
 refine fN fun N bP =>.inl ⟨_,I,b7,ak,_,I,IU.1,qi ..,b7,ak,bl,l,m,rs,I,IU,ar,qO,AZ,fun xr ON=>⟨xr,I,⟨_,ba aG⟩,?_⟩⟩;have Fe:=Ext.lst (xs:=cK (pf rs m)) ON;have jN:=kM.trans Fe;have HC:=Fe.s _ _ HB;have HE:upd gJ xr (.lst (cK (pf rs m))) xr=J (.lst (cK (pf rs m))):=aG;generalize upd gJ xr (.lst (cK (pf rs m)))=gZ at jN HC HE ⊢;have Qq:=AZ.b;have al1:=AZ.n;refine Nr (K:=K) (a:=xr) (xs:=cK (pf rs m)) (fun i U dm=>Ext gZ dm/\∃z nQ,U=[J (.ref a),J (.ref b7),J (.ref bl),J (.ref L),J (.ref cG),J (.ref c3),J (.ref gC),J (.str (aH st)),J (.str (aH bX)),J (.ref nQ),z,ax]/\dm nQ=J (.lst (cK (rs.take (i*m))))) ?_ (fun i U dm _ h=>ba (h.1.s _ _ HE)) ?_ ?_
 .exact⟨Ext.refl _,_,Dh,I,by rw[Nat.zero_mul,List.take_zero];exact HC⟩
 ·rintro i x U dm aq ⟨mK,z,nQ,rfl,mq⟩;obtain⟨r,aw,_,rfl⟩:=yn aq
  obtain rfl:r=jE (chunk rs m i):=by
   unfold pf at aw;rw[eD]at aw;obtain⟨j,b0,rfl⟩:=Uf.mp aw;obtain⟨ai,aL⟩:=gr.mp b0;rw[List.getElem_range]at aL;rw[aL]
  have sub:=MU rs m i;have kP:=sub.length_le;refine⟨_,I,_,I,chunk rs m i,I,yo.mpr ((yo.mp AZ.a).sublist sub),by lia,dF (NI sub) Qq,fun p aU =>.inr ⟨nQ,p,_,_,rfl,rfl,cE aU _ _ mq,aG,(by rw[ip,ip,hN];exact gW (by lia)),fun cn mv=>?_⟩⟩;refine⟨mK.trans ((Ext.lst aU).trans (Ext.lst mv)),_,cn,I,?_⟩;rw[aG,<-vS,Nat.succ_mul,List.take_add];rfl
 rintro U dm ⟨mK,z,nQ,rfl,mq⟩;refine bP _ _ ?_;clear bP
 have f9:rs.take ((cK (pf rs m)).length*m)=rs:=by
  refine UV ?_;rw[ip];unfold pf;rw[cA,kK];rcases g5 (jT rs.length m*m) rs.length with z|z
  .exact absurd ((Hn (by lia)).mpr z) (Nat.lt_irrefl _)
  .exact z
 rw[f9]at mq;have Bb:=jN.trans mK;clear jN mK kM lI Fe HC HB HE ON Pq IU xB f9 qK ae9;have xC:=bF.ext Bb;have CL:b6 c [] dm g bl:=b6.weak (fun x(aq:x∈([]:List af))=>nomatch aq) _ xC.f;refine fN fun N bP=>⟨_,I,.inl ⟨_,I,cG,I,⟨_,ba xC.k⟩,fun Ky p5=>?_⟩⟩;refine qF (K:=K) (a:=cG) (xs:=vs) (fun i ay ao=>ay=cK (rs.take i)/\ao=upd dm Ky (.lst ay)) (fun U=>∃z,U=[z,J (.ref bl)]) (by lia) ⟨_,I⟩ (fun i ay ao aa=>ba (by rw[aa.2];exact cE p5 _ _ xC.k)) ⟨I,I⟩ ?_ ?_
 ·rintro i x aq ay bE H1 ⟨z,rfl⟩ ⟨rfl,rfl⟩ _ _ R bN;obtain⟨d,hd,qd⟩:=cj.get ds (bx.at _ xC.w) aq;have eX:=cE (o:=cX.lst (cK (rs.take i))) p5;obtain⟨g1,g2,g3⟩:=fA.t d (bF.i d (eY hd));refine⟨_,I,bl,slot g,Cm,CA,I,eX _ _ (Bb.s _ _ hQ),qf,_,I,_,bl,g,x,d,I,I,b6.keep (fun b u _ e=>eX b u e) _ CL,mu,fA.h,dj.same eX _ qd,g1,by lia,bN _ _ _ ⟨_,rfl⟩ aG ⟨?_,by rw[fW]⟩⟩;rw[iG,wB,eD,hd,vS];rfl
 rintro akp hL kS H4 ⟨rfl,rfl⟩;rw[show vs.length=rs.length by rw[wB,cA];exact lh,List.take_length]at H4 ⊢;have Ff:=Ext.lst (xs:=cK rs) p5;have ag:∀r,r∈rs->r.length<=16000000:=fun r aw=>dF (dF (B3 aw) Qq) (by decide);refine .inr ⟨_,_,Lj (Ff.s _ _ mq) ag (by lia),Lj H4 ag (by lia),WU _,_,I,?_⟩;rw[MO];refine da (bP _ _ ?_);clear bP;have xM:=Bb.trans Ff;generalize upd dm Ky (.lst (cK rs))=hL at xM ⊢;clear Bb Ff H4 p5 xC CL mq;have va:=bF.ext xM;have OQ:b6 c [] hL g bl:=b6.weak (fun x(aq:x∈([]:List af))=>nomatch aq) _ va.f;refine fN fun N bP =>.inl ⟨_,I,cG,I,⟨_,ba va.k⟩,fun xt CK=>?_⟩;have HM:=xM.s _ _ hQ;refine Zh (K:=K) (a:=cG) (xs:=vs) (fun i=>kd st (.str (aH bX)) (rs.getD i [])) (fun U=>∃z,U=[z,J (.str (aH st)),J (.ref bl),J (.str (aH bX))]) (gW (by lia)) ⟨_,I⟩ CK (ba va.k) ?_ ?_
 ·rintro i x aq bE sY ⟨z,rfl⟩ C4 R jz bN;obtain⟨d,hd,qd⟩:=cj.get ds (bx.at _ va.w) aq;have bN:=bN [J x,J (.str (aH st)),J (.ref bl),J (.str (aH bX))] ⟨_,rfl⟩;have oS:rs.getD i []=aT bL g d:=by rw[eJ,wB,eD,hd];rfl
  rw[oS]at bN;obtain⟨g1,g2,g3⟩:=fA.t d (bF.i d (eY hd));have OR:=b6.keep (fun b u _ e=>C4 b u e) _ OQ;have PI:=dj.same C4 _ qd;have aL:kd st (.str (aH bX)) (aT bL g d)=(!decide ((aH (aT bL g d)).cps.toList<(aH st).cps.toList)&&decide ((aH (aT bL g d)).cps.toList<(aH bX).cps.toList)):=rfl;rw[aL]at bN;refine⟨_,I,_,I,bl,slot g,Cm,CA,I,C4 _ _ HM,qf,_,I,_,bl,g,x,d,I,I,OR,mu,fA.h,PI,g1,by lia,.inr ⟨_,_,rfl,rfl,_,rfl,?_⟩⟩;generalize (!decide ((aH (aT bL g d)).cps.toList<(aH st).cps.toList))=fE at bN ⊢;cases fE with
  |false =>
   rw[Bool.false_and,if_neg (by decide)]at bN;exact da (da bN)
  |true =>
   rw[Bool.true_and]at bN;refine eP ⟨_,I,bl,slot g,Cm,CA,I,C4 _ _ HM,qf,_,I,_,bl,g,x,d,I,I,OR,mu,fA.h,PI,g1,by lia,_,rfl,.inr ⟨_,_,rfl,rfl,_,rfl,?_⟩⟩;generalize decide ((aH (aT bL g d)).cps.toList<(aH bX).cps.toList)=eK at bN ⊢;cases eK with
   |false=>rw[if_neg (by decide)]at bN;exact da bN
   |true=>rw[if_pos rfl]at bN;exact eP ⟨_,I,bN⟩
 have qV:cj (upd hL xt (.lst (hV (fun i=>kd st (.str (aH bX)) (rs.getD i [])) vs 0))) (ds.filter fun d=>kd st (.str (aH bX)) (aT bL g d)) (hV (fun i=>kd st (.str (aH bX)) (rs.getD i [])) vs 0):=cj.hV _ ds 0 (cj.same (cE CK) _ (bx.at _ va.w)) fun i d h=>by rw[Nat.zero_add,eJ,wB,eD,h];rfl
 have afp:=Hh (fun i=>kd st (.str (aH bX)) (rs.getD i [])) vs 0;refine bP _ _ ?_;clear bP;generalize hV (fun i=>kd st (.str (aH bX)) (rs.getD i [])) vs 0=xj at qV afp ⊢;have LA:=Ext.lst (xs:=xj) CK;have oI:=xM.trans LA;have Om:upd hL xt (.lst xj) xt=J (.lst xj):=aG;generalize upd hL xt (.lst xj)=Am at oI Om qV ⊢;clear xM LA CK va OQ HM;have xD:=bF.ext oI;have adh:b6 c [] Am g bl:=b6.weak (fun x(aq:x∈([]:List af))=>nomatch aq) _ xD.f;have tN:∀d,d∈ds->bJ cy g d=ah/\(aT bL g d).length<=15000000:=fun d hd=>⟨(fA.t d (bF.i d hd)).1,(fA.t d (bF.i d hd)).2.1⟩
 have yt:∀aZ:List D,(∀d,d∈aZ->d∈ds)->dK (D.lst aZ)<=12:=fun aZ h=>by
  rw[dK];have:=G0 aZ fun d hd=>(fA.t d (bF.i d (h d hd))).2.2;lia
 have lf:=List.length_filter_le (fun d=>kd st (.str (aH bX)) (aT bL g d)) ds;refine⟨_,I,b7,ak,_,I,xD.s.1,qi ..,_,I,_,I,b7,ak,bl,l,_,g,ds,st,.str (aH bX),I,xD.s,adh,mu,fA.h,tN,by lia,.inr ⟨_,rfl⟩,fun cf rk sY _ Fa y5 ku=>?_⟩;have ku:=bx.at _ ku;refine⟨_,I,_,_,.lst (ds.filter fun d=>kd st (.str (aH bX)) (aT bL g d)),I,⟨cf,rk,I,y5,ku,by rw[cj.len _ ku];lia⟩,⟨xt,xj,rfl,Fa.s _ _ Om,cj.same Fa.s _ qV,by lia⟩,yt _ (fun d hd=>(List.mem_filter.mp hd).1),_,rfl,eP ?_⟩;have Lb:=oI.trans Fa;have Aq:=bF.ext Lb;have Cp:ds.filter (fun d=>kd [] .bf (aT bL g d))=ds:=List.filter_eq_self.mpr fun d _=>Lf _;refine⟨_,I,b7,ak,_,I,Aq.s.1,qi ..,b7,ak,bl,l,_,g,ds,[],.bf,(by rw[uv];rfl),Aq.s,b6.weak (fun x(aq:x∈([]:List af))=>nomatch aq) _ Aq.f,mu,fA.h,tN,by lia,.inl rfl,fun d8 jY KJ _ xN fH dH=>?_⟩;rw[Cp]at dH;have dH:=bx.at _ dH;have xA:=Aq.ext xN;exact⟨_,I,_,_,.lst ds,I,⟨d8,jY,I,fH,dH,by rw[cj.len _ dH];lia⟩,⟨cG,vs,rfl,xA.k,bx.at _ xA.w,by lia⟩,yt _ (fun d hd=>hd),H,.refl (Lb.trans xN).s,q⟩
inductive Rg(K:bS)(vs:List V)(H:al)(Q:bI)(E:cB):Prop where
 |mk (a:af) (ns:List Int) (aX:vs=[.ref a]) (ai:cZ K H a (ns.map V.int)) (ar:ns.length<=63) (bz:∀H',Q (.aK ah) H')
def Iu{eX d7 nk mF R:fb}{D:Ends}(h:∀jz:fb,(∀U H,R D U H->jz D U H)->kY eX (kY d7 (kY nk (kY mF jz))) D U H):kY eX (kY d7 (kY nk (kY mF R))) D U H:=h R fun _ _ z=>z
def ac1{a b:Int}(h:k<2):ed [V.int a,V.int b] ((k:Nat):Int)=J (.int (if k=0 then a else b)):=by
 match k,h with
 |0,_=>exact cT (j:=0) I
 |1,_=>exact cT (j:=1) I
def W9:dh P w K mg zn dA k f fd aQ uC:=⟨fun _ _ _ _ h=>h.elim,fun _ _ _ _ _ _ _ _ _ _ _ _ _ h=>h.elim⟩
def ac2(h:k<4):∃m9:Nat,m9<3/\ed [V.int 0,V.int 0,V.int 1,V.int 2] ((k:Nat):Int)=J (.int ((m9:Nat):Int)):=by
 match k,h with
 |0,_=>exact⟨0,by decide,cT (j:=0) rfl⟩
 |1,_=>exact⟨0,by decide,cT (j:=1) rfl⟩
 |2,_=>exact⟨1,by decide,cT (j:=2) rfl⟩
 |3,_=>exact⟨2,by decide,cT (j:=3) rfl⟩
theorem Ng{g:bH}:∀(ds:List D),(∀d,d∈ds->bJ cy g d=ah)->eM ds<=((ds.map (aT bL g)).map List.length).sum
 |[],_=>by rw[eM];exact UF _
 |d::ds,h=>by
  rw[eM,fB,fB,List.sum_cons];have:=tp g d (h d (eA ..));have:=Ng ds fun x aq=>h x (dw _ aq);lia
def UJ{f:af}{c:ey}{fd:jc}(nb:dn mg)(T:oA K ee)(eF:fT K ee)(F:dN K "law" "law" Fb f fd)
  (En:aY P w K mg zn 1 "_law_pool" ["_law_script"] (RE K)) (jw:aY P w K mg zn 1 "_law_next" ["_law_pool_here"] Ru) (uV:aY P w K mg zn 6 "_law_form" ["_law_pool_here","_law_deep"] (Q0 3)) (qp:aY P w K mg zn 11 "_law_made" ["_law_form_here"] (Rl c 4)) (qq:aY P w K mg zn 7 "_law_value" ["_law_pool_here","_law_form_here"] (R9 4)) (uT:aY P w K mg zn 1 "_law_cell_at" ["_law_script","_law_k"] (QJ K))
  (EP:j1 P w K mg zn 1 "Shelf" ee ["self","form","room"] (RQ ee)) (rE:gn P w K mg zn 15 ee "told" ["self","start","end"] (R5 ee c 4)) (ET:gn P w K mg zn 1 ee "size" ["self"] (RS ee)) (vn:gn P w K mg zn 14 ee "has" ["self","value"] (Q8 ee c 4)) (l4:aY P w K mg zn 13 "_law_same" ["_law_found","_law_due"] (RO 12)) (rv:aY P w K mg zn 13 "_law_bend" ["_law_value_here"] (QG 12)) (u1:aY P w K mg zn 1 "_law_told" ["_law_found","_law_due"] R4) (u0:aY P w K mg zn 14 "_law_there" ["_law_form_here","_law_kept","_law_value_here"] (R3 4))
  (Em:aY P w K mg zn 15 "_law_deed" ["_law_shelf","_law_form_here","_law_kept","_law_value_here","_law_way"] (QN ee c)) (Ep:aY P w K mg zn 16 "_law_spans" ["_law_script","_law_shelf","_law_made_here","_law_some","_law_kept"] (RY K ee c)):dh P w K mg zn dA 17 f fd ["_law_script"] (Rg K):=by show_term
 refine F.fo mC (fun H vs Q E aw h=>?_);obtain⟨a,t9,rfl,df,aB,q⟩:=h
 refine⟨_,(aI (bM 1 mC.bj (bT En aw (aj (ab 0) az)))
  (aI (bM 2 mC.bj (bT jw aw (aj (ab 1) az)))
  (aI (bM 3 mC.bj (bT uV aw (aj (ab 1) (aj (aO dX (ab 2) aC) az))))
  (aI (cw (b9 c6 (aO dX (aO hn (ab 2) aC) aC) aC) (aJ (bM 3 mC.bj (jm (aj cY (aj (ab 3) az))))) cx)
  (aI (bM 4 mC.bj (bT qp aw (aj (ab 3) az)))
  (aI (bM 5 mC.bj (pM EP aw (aj (ab 4) (aj (aO el aC (aO dX (aO hn (ab 2) aC) (bW bY (hB (aj aC (aj aC az))) (aO dX (aO hn (ab 2) aC) aC)))) az))))
  (aI (pR (i:=6)  ["_law_k"] [(1,"_law_pool_here"),(3,"_law_form_here")] mC.bj rfl rfl rfl ⋯ ⟨rfl,.inl rfl,rfl,.inl rfl,trivial⟩ (mL rfl nb.kV (aj (aO el aC (aO dX (aO hn (ab 2) aC) aC)) az)) (d5 (i:=0) (show(["_law_k","_law_pool_here","_law_form_here"]:List ae).Nodup by decide+kernel)) gs (bT qq aw (aj (ab 1) (aj (ab 2) az))))
  (aI (bM 7 mC.bj (hB az))
  (aI (ma iB.never rfl (mL rfl nb.kV (aj (b8 (xY rfl) rfl nb.zr ym (aj aC (aj (b8 dx rfl nb.dr dv (aj (ab 0) az)) az))) az)) (d5 (i:=8) mC.bj rfl (by first|exact Or.inl I|exact Or.inr I))
   (aI (bM 9 mC.bj (bT uT aw (aj (ab 0) (aj (ab 8) az))))
   (aI (cw (iJ (f6 (bT Em aw (aj (ab 5) (aj (ab 3) (aj (ab 7) (aj (bW bY (ab 6) (aO dX (aO hn (ab 9) aC) (b8 dx rfl nb.dr dv (aj (ab 6) az)))) (aj (bW bY (hB (aj aC (aj aC (aj aC (aj aC az))))) (aO dX (ab 9) aC)) az)))))))) (aJ (bt jf)) cx)
   (aI (bM 10 mC.bj (bW bY (ab 6) (aO dX (aO hn (ab 9) aC) (b8 dx rfl nb.dr dv (aj (ab 6) az)))))
   (aI (cw (iJ (f6 (bT l4 aw (aj (jj ET eF aw (ab 5)) (aj (b8 dx rfl nb.dr dv (aj (ab 7) az)) az))))) (aJ (bt jf)) cx)
   (aI (cw (iJ (f6 (bT u1 aw (aj (oF vn eF aw (ab 5) (aj (ab 10) az)) (aj (bT u0 aw (aj (ab 3) (aj (ab 7) (aj (ab 10) az)))) az))))) (aJ (bt jf)) cx)
   (aJ (cw (gK.pt (oL (b9 c6 (aO dX (ab 8) aC) aC) (pS (iJ (f6 (bT l4 aw (aj (oF rE eF aw (ab 5) (aj cY (aj pV az))) (aj (ab 7) az)))))))) (aJ (bt jf)) cx))))))))
  (aI (bM 11 mC.bj (oF rE eF aw (ab 5) (aj cY (aj pV az))))
  (aI (cw (iJ (f6 (bT l4 aw (aj (ab 11) (aj (ab 7) az))))) (aJ (bt jf)) cx)
  (aI (ik (bT rv aw (aj (ab 11) az)))
  (aJ (bt (bT Ep aw (aj (ab 0) (aj (ab 5) (aj (ab 4) (aj (ab 6) (aj (ab 7) az)))))))))))))))))))),?_⟩
 ac_rfl;refine Iu fun KY rZ=>?_;refine fN fun N bP=>⟨_,I,a,t9,I,df,aB,fun p ms aU hm=>bP _ _ ?_⟩;have rH:=cE (o:=cX.lst (ms.map V.int)) aU;have CO:ox p (upd H p (.lst (ms.map V.int))):=⟨ms,aG,hm⟩;generalize upd H p (.lst (ms.map V.int))=H1 at rH CO ⊢;have agx:p∈[p]:=ft.mpr rfl;have Ie:∀H',ez p H1 H'->dY H H':=fun H' G b u e=>G.k _ _ (fe e aU) (rH _ _ e);have Jd:∀H',ez p H1 H'->ow [p] H':=fun H' G x aq=>by rw[ft.mp aq];obtain⟨n,e,_⟩:=G.l;exact⟨_,e⟩
 refine fN fun N bP=>⟨_,I,p,I,CO,fun eE e0 qa=>bP _ _ ?_⟩;have cF:=ez.pop (ns:=e0) CO qa;generalize upd H1 p (.lst (e0.map V.int))=ao at cF ⊢;obtain⟨mf,adE,HH⟩:=iI eE 3 (by decide);have HH:eE%3=((mf:Nat):Int):=HH;refine fN fun N bP=>⟨_,I,_,I,_,_,I,I,(by show(0:Int)<3;decide),p,mf,[p],by rw[<-HH];rfl,adE,cF.l,agx,Jd _ cF,fun v0 bp yD e9 cc=>bP _ _ ?_⟩;have has:∀H',ez p H1 H'->jZ [p] H':=fun H' G x aq=>by obtain⟨l,e⟩:=Jd _ G x aq;exact⟨_,e⟩
 refine fN fun N bP=>?_
 suffices dp:∀(v:V)(bp:al)(g:bH),ez p H1 bp->b5 [p] bp (e4 g) v->fz g->bc g<=4->d3 g<=42->N [J (.ref a),J (.ref p),J (.int eE),J v,ax,ax,ax,ax,ax,ax,ax,ax] bp by
  have sW:=cF.trans e9;have ai:=cc.h;have ar:=cc.s;refine⟨_,I,_,_,I,I,⟨by decide,by decide⟩,_,_,rfl,rfl,(by show(0:Int)<2;decide),rfl,_,rfl,fl (fun c=>?_) (fun c=>?_)⟩
  ·refine⟨_,I,jA,fun T r0=>?_⟩;have X:=Ext.tup (xs:=[V.str "many",v0]) r0;refine dp (.ref T) _ (.one 1 yD) (sW.ext X) ?_ (by rw[fz];exact cc.o) (by rw[bc];lia) (by rw[d3];lia);rw[e4];obtain⟨np,gh,_⟩:=sW.l;exact⟨T,_,I,(fun z=>by rw[ft.mp z,gh]at r0;cases r0),aG,⟨_,_,rfl,⟨rfl,by decide⟩,_,_,rfl,b5.same X.s cc.d,rfl⟩,by show 2<=1000;decide⟩
  .exact dp v0 _ yD sW cc.d cc.o (by lia) (by lia)
 intro v bp g sW qU aP dq g9;refine bP _ _ (rZ _ _ ?_);clear rZ bP cc e9;refine Iu fun KY rZ=>?_;refine fN fun N bP=>⟨_,I,v,g,[p],I,has _ sW,qU,aP,dq,fun bl gJ u4 OP=>bP _ _ ?_⟩;clear bP;have nL:=b5.same u4.s qU;have Ai:=sW.ext u4;have mF:=Ie _ Ai;obtain⟨jS,o2,yx⟩:=iI (eE/57) 2 (by decide);have yx:eE/57%2=((jS:Nat):Int):=yx;have qb:(0:Int)<(if jS=0 then 3 else 19):=by split<;>decide
 obtain⟨sm,alw,acj⟩:∃sm:Nat,sm<=18/\eE/3%(if jS=0 then 3 else 19)=((sm:Nat):Int):=by
  have ai:=hY (eE/3) (Int.ne_of_gt qb);have ar:=ib (eE/3) qb;have bz:(if jS=0 then(3:Int)else 19)<=19:=by split<;>decide
  exact⟨(eE/3%(if jS=0 then 3 else 19)).toNat,by lia,by lia⟩
 refine fN fun N bP=>⟨_,I,_,I,_,_,I,I,⟨by decide,by decide⟩,jA,fun ck iT=>⟨_,rfl,_,_,rfl,rfl,⟨by decide,by decide⟩,_,_,rfl,rfl,(by show(0:Int)<2;decide),?_⟩⟩;dsimp only;rw[yx];refine (xz aG (ac1 o2) ⟨_,_,I,I,qb,?_⟩);dsimp only;rw[acj];refine .inl ⟨_,_,I,I,fun b7 ak wZ sr zw=>?_⟩;refine⟨b7,ak,bl,_,I,aG,by lia,by lia,fun l kv=>⟨rfl,bP _ _ ?_⟩⟩;clear bP;rw[fW];have jN:=Ext.lst (xs:=[V.int 3,V.int 19]) iT;generalize upd gJ ck (.lst [V.int 3,V.int 19])=gZ at jN wZ sr kv ⊢;have eM:l≠b7:=fun z=>by rw[z,aG]at kv;cases kv
 rw[bC eM]at kv;obtain⟨m,hm⟩:∃m:Nat,m=2+sm:=⟨_,rfl⟩;have em:(2:Int)+((sm:Nat):Int)=((m:Nat):Int):=by lia
 rw[em];have lR:upd (upd gZ ak (.own b7)) b7 (.ins ee ak (jU bl ((m:Nat):Int) l)) l=ax:=by rw[bC eM];exact kv
 have mK:=(Ext.made (C:=ee) (fs:=jU bl ((m:Nat):Int) l) wZ sr zw).trans (Ext.lst (xs:=[]) lR);have sb:oz (upd (upd (upd gZ ak (.own b7)) b7 (.ins ee ak (jU bl ((m:Nat):Int) l))) l (.lst [])) b7 ee ak bl ((m:Nat):Int) l []:=⟨by rw[bC (ei eM)];exact aG,aG⟩
 have zx:gZ l=ax:=by
  by_cases z:l=ak
  .rw[z];exact sr
  .rw[bC z]at kv;exact kv
 generalize upd (upd (upd gZ ak (.own b7)) b7 (.ins ee ak (jU bl ((m:Nat):Int) l))) l (.lst [])=dm at mK sb ⊢;have Lc:=jN.trans mK;have EF:=Ai.ext Lc;obtain⟨agf,yz,Py⟩:=EF.l
 have agg:p≠l:=fun z=>by
  obtain⟨P1,ho,_⟩:=Ai.l;have:=jN.s _ _ ho;rw[z,zx]at this;cases this
 have pC:∀x,x∈[p,b7,l]->x∈l::b7::[p]:=fun x aq=>by
  rcases sl aq with rfl|rfl|rfl
  .exact dw _ (dw _ (eA ..))
  .exact dw _ (eA ..)
  .exact eA ..
 have CL:b6 c [p,b7,l] dm g bl:=b6.keep (fun b u _ e=>mK.s b u e) _ (b6.weak pC _ (b6.add zx _ (b6.add wZ _ (b6.keep (fun b u _ e=>jN.s b u e) _ OP))));have O6:b5 [p,b7,l] dm (e4 g) v:=b5.same mK.s (b5.weak pC _ (b5.add zx _ (b5.add wZ _ (b5.same jN.s nL))));have akR:=Ie _ EF;have jt:H p=ax/\H b7=ax/\H l=ax:=⟨aU,(mF.trans jN.s).free wZ,(mF.trans jN.s).free zx⟩;have agh:p≠b7:=fun z=>by have:=sb.1;rw[<-z,yz]at this;cases this
 have adp:jZ [p,b7,l] dm:=fun x aq=>by
  rcases sl aq with rfl|rfl|rfl
  .exact⟨_,yz⟩
  .exact⟨_,sb.1⟩
  .exact⟨_,sb.2⟩
 have OX:ox p dm:=⟨agf,yz,Py⟩;clear OP nL jN mK Lc kv lR zw sr wZ zx Ai sW cF u4 CO mF has Jd qU pC;obtain⟨eI,Ph,Ct⟩:=iI (eE/200) 9 (by decide);have Ct:eE/200%9=((eI:Nat):Int):=Ct;refine fN fun N bP=>⟨_,I,_,_,I,I,⟨by decide,by decide⟩,_,_,rfl,rfl,(by show(0:Int)<9;decide),.inl ⟨_,_,rfl,rfl,1+eE/200%9,rfl,by lia,by lia,fun L gj=>?_⟩⟩;have bX:(1+eE/200%9).toNat=1+eI:=by lia
 rw[bX];have KD:=Ext.lst (xs:=[]) gj;have CM:L≠p:=(fe yz gj).symm;have eR:p∈[p,b7,l]:=eA ..;have alD:pl dm p<=90:=by rw[vT yz,cA];exact Py
 refine NC (1+eI) (fun i =>.int (0+((i:Nat):Int))) (fun i ay ao=>ez p dm ao/\∃d0,d0.length=i/\bx (L::[p,b7,l]) ao d0 ay/\(∀x,x∈d0->bJ cy g x=ah/\(aT bL g x).length<=15000000/\dK x<=6)/\pl ao p<=pl dm p/\((d0.map (aT bL g)).map List.length).sum<=150000*(pl dm p-pl ao p)+12600*i) (fun U=>∃z,U=[z,J (.ref p),J v]) (by lia) ⟨_,I⟩ (fun i H aF=>aF) (fun H=>cp _) (fun i H x H' aF h=>⟨h.1,h.2⟩) ⟨(ez.refl OX).ext KD,[],I,I,(fun x aq=>nomatch aq),by rw[qI KD OX];exact cp _,UF _⟩ ?_ ?_
 ·rintro i aF ay bE ao ⟨z,rfl⟩ ⟨e9,d0,la,eB,f9,o4,we⟩ hS jr R bN;have qT:jZ (L::[p,b7,l]) ao:=(adp.grow e9).add hS;refine⟨_,I,_,I,p,v,g,L::[p,b7,l],I,dw _ eR,e9.l,qT,b5.grow (dw _ eR) e9 (b5.add gj _ O6),aP,by lia,by lia,fun x d bp hh o1 hT qW m2=>?_⟩;have kt:bp L=J (.lst ay):=hh.k _ _ CM hS;have eI:∀b u,b∉L::[p,b7,l]->bp b=J u->upd bp L (.lst (ay++[x])) b=J u:=fun b u nb e=>by rw[bC (fun z=>nb (by rw[z];exact eA ..))];exact e
  have sj:∀b u,b∉L::[p,b7,l]->ao b=J u->bp b=J u:=fun b u nb e=>hh.k b u (fun z=>nb (by rw[z];exact dw _ eR)) e;obtain⟨fE,eK⟩:=m2;refine bN _ _ _ ⟨_,I⟩ kt ⟨(e9.trans hh).set gj kt CM,d0++[d],by rw[dP,la];rfl,bx.snoc (b5.keep eI _ o1) _ (bx.keep eI _ (bx.keep sj _ eB)),fun y aW=>?_,?_,?_⟩
  ·rcases List.mem_append.mp aW with z|z
   .exact f9 y z
   .rw[ft.mp z];exact⟨hT,by lia,by lia⟩
  .rw[vU CM];lia
  ·rw[vU CM,fP,fP,List.sum_append];have aL:(List.map List.length (List.map (aT bL g) [d])).sum=(aT bL g d).length:=by simp
   rw[aL];lia
 rintro ws hL jr Oo ⟨Aj,d0,la,adC,f9,_,q2⟩;have q2:((d0.map (aT bL g)).map List.length).sum<=15000000:=by lia
 refine bP _ _ ?_;clear bP;have fA:Ak g d0:=⟨aP,dq,f9⟩;refine fN fun N bP=>⟨UF _,fun cG rY=>bP _ _ (rZ _ _ ?_)⟩;clear rZ bP;have oI:=Ext.lst (xs:=[]) rY;have K3:=Ie _ (EF.trans Aj)
 have bF:l5 ee c (upd hL cG (.lst [])) b7 ak bl l cG L ((m:Nat):Int) v g [] d0 [] ws:=by
  have pC:∀x,x∈[b7,l,cG]->x∈cG::[p,b7,l]:=fun x aq=>by
   rcases sl aq with rfl|rfl|rfl
   .exact dw _ (dw _ (eA ..))
   .exact dw _ (dw _ (dw _ (eA ..)))
   .exact eA ..
  have PM:∀b u,b∉[p,b7,l]->dm b=J u->hL b=J u:=fun b u nb e=>Aj.k b u (fun z=>nb (by rw[z];exact eR)) e;have n0:=Aj.k _ _ (ei agh) sb.1;have PR:=Aj.k _ _ (ei agg) sb.2;refine⟨⟨oI.s _ _ n0,oI.s _ _ PR⟩,b5.same oI.s (b5.weak pC _ (b5.add rY _ (b5.keep PM _ O6))),b6.keep (fun b u _ e=>oI.s b u e) _ (b6.weak pC _ (b6.add rY _ (b6.keep PM _ CL))),aG,I,oI.s _ _ Oo,fun z=>?_,bx.same oI.s (bx.weak pC _ (bx.add rY _ (bx.weak (fun x aq=>dw _ aq) _ adC))),(fun d h=>nomatch h),.nil,List.nodup_nil,fe PR rY⟩;rcases sl z with z|z|z
  .rw[z,sb.1]at gj;cases gj
  .rw[z,sb.2]at gj;cases gj
  .rw[<-z,Oo]at rY;cases rY
 have E2:=K3.trans oI.s;have afJ:H cG=ax:=K3.free rY;generalize upd hL cG (.lst [])=Am at bF E2 ⊢;refine Iu fun KY rZ=>?_;have PT:ws.length=d0.length:=by lia
 have mu:=x9 _ aP
 have pick:∀e:Int,∃(j:Nat)(u:V),ed ws (e%((ws.length:Nat):Int))=J u/\ws[j]?=J u:=fun e=>by
  obtain⟨j,b0,gx⟩:=iI e ws.length (by lia);have e:=cI b0;exact⟨j,ws[j],by rw[gx];exact cT e,e⟩
 have qb:(0:Int)<((ws.length:Nat):Int):=by lia
 have Ic:∀H',dY H H'->cZ K H' a (t9.map V.int):=fun H' S=>cZ.keep df fun u e=>S _ _ e;have Cp:∀ds:List D,ds.filter (fun d=>kd [] .bf (aT bL g d))=ds:=fun ds=>List.filter_eq_self.mpr fun d _=>Lf _;have tN:∀ds:List D,(∀d,d∈ds->d∈d0)->∀d,d∈ds->bJ cy g d=ah/\(aT bL g d).length<=15000000:=fun ds h d hd=>⟨(fA.t d (h d hd)).1,(fA.t d (h d hd)).2.1⟩
 have yt:∀ds:List D,(∀d,d∈ds->d∈d0)->dK (D.lst ds)<=7:=fun ds h=>by
  rw[dK];have:=G0 ds fun d hd=>(fA.t d (h d hd)).2.2;lia
 have Km:∀{H':al}{l:af},b6 c [b7,l,cG] H' g bl->b6 c [] H' g bl:=fun h=>b6.weak (fun x(aq:x∈([]:List af))=>nomatch aq) _ h;have alH:(if(((t9.map V.int).length:Nat):Int)<40 then(((t9.map V.int).length:Nat):Int)else 40).toNat<=40:=by split<;>lia
 refine fN fun N bP=>⟨_,I,_,_,I,.inl ⟨_,Ic _ E2,I⟩,_,_,I,_,I,by split<;>lia,by split<;>lia,?_⟩;refine qu (fun i U ao=>∃z9 Aa z8 l ds vs,U=[J (.ref a),J (.ref p),J (.int eE),J v,J (.ref bl),J (.ref b7),J (.ref L),J (.ref cG),z9,Aa,z8,ax]/\l5 ee c ao b7 ak bl l cG L ((m:Nat):Int) v g ds d0 vs ws/\ds.length<=i/\dY H ao/\H l=ax) ?_ ?_ ?_
 .exact⟨_,_,_,l,[],[],I,bF,cp _,E2,jt.2.2⟩
 ·rintro i U ao aF ⟨z9,Aa,z8,l,ds,vs,rfl,bF,aV,d7,nl⟩;have aF:i<40:=by lia
  rw[Int.zero_add];refine fN fun N bP=>⟨_,I,_,I,a,t9,i,I,Ic _ d7,aB,bP _ _ ?_⟩;clear bP;generalize t9.getD i 0=ce;obtain⟨De,hx,a1,rk⟩:=pick (ce/4);obtain⟨zi,IA,rQ⟩:=iI ce 4 (by decide);have rQ:ce%4=((zi:Nat):Int):=rQ;obtain⟨m9,PG,Od⟩:=ac2 IA;rw[<-rQ]at Od;refine fN fun N bP=>⟨_,I,_,I,_,I,_,I,_,I,_,_,I,I,⟨by decide,by decide⟩,_,rfl,_,_,rfl,.inl ⟨_,ba bF.e,rfl⟩,_,_,rfl,rfl,qb,xz bF.e a1 ⟨(by show 4<=cg;decide),fun sE ae8=>⟨_,rfl,_,_,rfl,rfl,(by show(0:Int)<4;decide),xz aG Od ?_⟩⟩⟩;have Fd:=Ext.lst (xs:=[V.int 0,V.int 0,V.int 1,V.int 2]) ae8;have EL:=bF.ext Fd;have E3:=d7.trans Fd.s;generalize upd ao sE _=akP at Fd EL E3 ⊢;obtain⟨kE,abP,lU⟩:=bx.at2 d0 EL.x rk;refine⟨b7,ak,bl,l,cG,L,_,v,g,ds,d0,vs,ws,kE,hx,m9,I,PG,EL,fA,by lia,eY abP,lU,fun bp wL tv Kf jK Pr p9 h9=>⟨_,rfl,da (bP _ _ ?_)⟩⟩;clear bP;have af7:H wL=ax:=p9.elim (fun e=>by rw[e];exact nl) fun e=>E3.free e
  have nk:dY H bp:=fun b u e=>h9.k b u (fun z=>by
   rcases sl z with z|z|z
   .exact fe e jt.2.1 z
   .exact fe e nl z
   .exact fe e afJ z) (E3 b u e)
  obtain⟨zg,dW,a2,jY⟩:=pick (ce/40);refine fN fun N bP=>⟨_,I,_,I,_,_,I,I,⟨by decide,by decide⟩,_,rfl,_,_,rfl,.inl ⟨_,ba jK.e,rfl⟩,_,_,rfl,rfl,qb,xz jK.e a2 (bP _ _ ?_)⟩;clear bP;have afq:=cj.len tv (bx.at _ jK.w);refine fN fun N bP=>⟨_,I,b7,ak,_,I,jK.s.1,qi ..,b7,ak,bl,wL,_,_,I,jK.s,(by rw[cA];lia),_,I,_,_,I,.inl ⟨_,ba jK.k,I⟩,_,_,.int ((tv.length:Nat):Int),I,(by rw[cA];rfl),(by rw[afq];rfl),(by rw[dK];lia),⟨_,I,da (bP _ _ ?_)⟩⟩;clear bP;obtain⟨fj,abQ,qc⟩:=bx.at2 d0 jK.x jY;have o4:=eY abQ;obtain⟨f2,dz,iq⟩:=fA.t fj o4;have SM:=jK.PN fA (by lia) o4 (b5.at _ qc);refine fN fun N bP=>⟨_,I,b7,ak,_,I,jK.s.1,qi ..,_,I,b7,ak,bl,wL,_,dW,g,fj,_,I,jK.s,Km jK.f,mu,dq,b5.at _ qc,f2,dz,_,I,_,I,_,I,v,cG,dW,g,tv,Kf,fj,I,SM,_,I,⟨_,I,da (bP _ _ ?_)⟩⟩;clear bP;have done:∀gJ,Ext bp gJ->∃z9 Aa z8 l ds vs,[J (.ref a),J (.ref p),J (.int eE),J v,J (.ref bl),J (.ref b7),J (.ref L),J (.ref cG),J (.int ((i:Nat):Int)),J (.int ce),J dW,ax]=[J (.ref a),J (.ref p),J (.int eE),J v,J (.ref bl),J (.ref b7),J (.ref L),J (.ref cG),z9,Aa,z8,ax]/\l5 ee c gJ b7 ak bl l cG L ((m:Nat):Int) v g ds d0 vs ws/\ds.length<=i+1/\dY H gJ/\H l=ax:=fun gJ kM=>⟨_,_,_,wL,tv,Kf,rfl,jK.ext kM,by lia,nk.trans kM.s,af7⟩;refine⟨_,I,_,_,I,I,(by show(0:Int)<3;decide),I,_,I,fl (fun c=>?_) (fun c=>done _ (Ext.refl _))⟩;refine⟨_,I,b7,ak,_,I,jK.s.1,qi ..,b7,ak,bl,wL,_,g,tv,[],.bf,(by rw[uv];rfl),jK.s,Km jK.f,mu,dq,tN _ jK.i,by lia,.inl rfl,fun Jx aki gJ _ kM aep nL=>?_⟩;rw[Cp]at nL;have nL:=bx.at _ nL;have xB:=jK.ext kM;exact⟨_,I,_,_,.lst tv,I,⟨Jx,aki,I,aep,nL,by rw[cj.len _ nL];lia⟩,⟨cG,Kf,rfl,xB.k,bx.at _ xB.w,by lia⟩,by have:=yt tv jK.i;lia,⟨_,rfl,da (done _ kM)⟩⟩
 rintro U sY ⟨z9,Aa,z8,l,ds,vs,rfl,bF,aV,K4,_⟩;refine bP _ _ ?_;clear bP;have aV:ds.length<=40:=by lia
 refine fN fun N bP=>⟨_,I,b7,ak,_,I,bF.s.1,qi ..,b7,ak,bl,l,_,g,ds,[],.bf,(by rw[uv];rfl),bF.s,Km bF.f,mu,dq,tN _ bF.i,by lia,.inl rfl,fun sF Sy KJ afG xN PB Im=>bP _ _ ?_⟩;clear bP;rw[Cp]at Im;have xA:=bF.ext xN;have O5:=bx.at _ Im;have alR:=cj.len ds O5;have lh:=cj.len ds (bx.at _ bF.w);have akX:=yt ds bF.i;refine fN fun N bP=>⟨_,I,_,I,_,_,.lst ds,I,⟨sF,Sy,I,PB,O5,by lia⟩,⟨cG,vs,rfl,xA.k,bx.at _ xA.w,by lia⟩,by lia,⟨_,rfl,da (bP _ _ ?_)⟩⟩;clear bP
 have kQ:nl (D.lst ds)<=16000000:=by
  have ai:=Ng ds fun d hd=>(fA.t d (bF.i d hd)).1;have ar:=GD List.length _ _ bF.u fun x aq=>by obtain⟨d,hd,rfl⟩:=List.mem_map.mp aq;exact List.mem_map_of_mem (bF.i d hd)
  rw[nl];lia
 refine fN fun N bP=>⟨_,I,cS.of sY,KJ,.lst ds,.ref sF,0,0,I,⟨sF,Sy,I,(fun z=>by obtain⟨o,e⟩:=(show ∃o,sY sF=J o from z);rw[afG]at e;cases e),PB,Im,by lia⟩,.ext (.refl _),by lia,.inr (by lia),fun akO B=>bP _ _ (rZ _ _ ?_)⟩;clear bP rZ;have E9:=gI.old xN B;exact⟨_,I,_,I,_,I,_,I,_,I,a,b7,ak,bl,l,cG,L,t9,m,v,g,ds,d0,vs,ws,I,Ic _ (K4.trans E9.s),aB,bF.ext E9,fA,by lia,by lia,by lia,q2,by lia,by lia,H,.refl (K4.trans E9.s),q _⟩
def sP(x q:ae)(st:bA)(aQ:List ae):Prop:=∀(hr doc pm:av)(an:Option af)(bw ct:av)(us:List av),us.length=aQ.length->bindArgs (od x q (oQ st) (k9 st) (bO st) .none hr doc pm an bw ct) ⟨us,[]⟩=pure (aQ.zip us)
def gE{a:ae}{st:bA}(h:rg (∀(hr doc pm:av)(an:Option af)(bw ct u:av),bindArgs (od x q (oQ st) (k9 st) (bO st) .none hr doc pm an bw ct) ⟨[u],[]⟩=pure [(a,u)]) rsu):sP x q st [a]:=fun _ _ _ _ _ _ us aB=>by
 rcases us with _|⟨_,_|⟨_,_⟩⟩<;>first|exact h .. |cases aB
def dy{a b:ae}{st:bA}(h:rg (∀(hr doc pm:av)(an:Option af)(bw ct u v:av),bindArgs (od x q (oQ st) (k9 st) (bO st) .none hr doc pm an bw ct) ⟨[u,v],[]⟩=pure [(a,u),(b,v)]) rsu):sP x q st [a,b]:=fun _ _ _ _ _ _ us aB=>by
 rcases us with _|⟨_,_|⟨_,_|⟨_,_⟩⟩⟩<;>first|exact h .. |cases aB
def pW{a b c:ae}{st:bA}(h:rg (∀(hr doc pm:av)(an:Option af)(bw ct u v y:av),bindArgs (od x q (oQ st) (k9 st) (bO st) .none hr doc pm an bw ct) ⟨[u,v,y],[]⟩=pure [(a,u),(b,v),(c,y)]) rsu):sP x q st [a,b,c]:=fun _ _ _ _ _ _ us aB=>by
 rcases us with _|⟨_,_|⟨_,_|⟨_,_|⟨_,_⟩⟩⟩⟩<;>first|exact h .. |cases aB
def Oe{a b c d e:ae}{st:bA}(h:rg (∀(hr doc pm:av)(an:Option af)(bw ct u v y z r:av),bindArgs (od x q (oQ st) (k9 st) (bO st) .none hr doc pm an bw ct) ⟨[u,v,y,z,r],[]⟩=pure [(a,u),(b,v),(c,y),(d,z),(e,r)]) rsu):sP x q st [a,b,c,d,e]:=fun _ _ _ _ _ _ us aB=>by
 rcases us with _|⟨_,_|⟨_,_|⟨_,_|⟨_,_|⟨_,_|⟨_,_⟩⟩⟩⟩⟩⟩<;>first|exact h .. |cases aB
structure lD(K:bS)(x:ae)(C:af):Prop where
 a:hf K fp x=J (J (.ref C))
 cl:fT K C
 zq:Ab K C=ah
 zj:qk K (.ref C)=ah
def cpMk{K:bS}{C:af}(a:hf K fp x=J (J (.ref C)))(c4:D7 K C ae.empty=ah)(cn:Kr K C=ah)(sC:PySem.W.plainOver K C=ah)(zC:gB K (.ref C) "__setattr__"=J (J (.builtin "object.__setattr__")))(agv:Ab K C=ah)(agw:qk K (.ref C)=ah):lD K x C:=⟨a,⟨c4,cn,sC,zC⟩,agv,agw⟩
def dO(K:bS)(C:af)(x q:ae)(st:bA):Prop:=∃f fd,dN K x q st f fd/\vo K C x f
def d9(K:bS)(x:ae)(st:bA):Prop:=∃f fd,dN K x x st f fd/\hf K fp x=J (J (.ref f))
def mpMk{K:bS}{C f:af}{st:bA}{hr:av}(a:gB K (.ref C) x=J (J (.ref f)))(i:Ks K (.ref f)=ah)(l:K.lookup f=J ⟨iW,gA,.func (od x q (oQ st) (k9 st) (bO st) .none hr doc pm an bw ct),nZ⟩)(c:D6 K bw q=ah)(k:qk K (.ref f)=ah):dO K C x q st:=⟨f,_,Ls l c k,a,i,k⟩
def fpMk{K:bS}{f:af}{st:bA}{hr:av}(a:hf K fp x=J (J (.ref f)))(l:K.lookup f=J ⟨iW,gA,.func (od x x (oQ st) (k9 st) (bO st) .none hr doc pm an bw ct),nZ⟩)(c:D6 K bw x=ah)(k:qk K (.ref f)=ah):d9 K x st:=⟨f,_,Ls l c k,a⟩
def dO.at{K:bS}{C:af}{st:bA}(p:dO K C x q st)(cl:fT K C)(b:sP x q st aQ):MethAt K C x q st aQ:=by
 obtain⟨f,fd,F,m⟩:=p;exact⟨⟨f,fd,F,F.binds b,m⟩,cl⟩
def d9.at{K:bS}{st:bA}{mg:ae->Option av}(X:K.In h)(G:h.Ns fp mg)(p:d9 K x st)(b:sP x x st aQ):∃f fd,dD K mg x st aQ f fd:=by
 obtain⟨f,fd,F,a⟩:=p;exact⟨f,fd,F,F.binds b,ic X G a⟩
def dO.mk{C:af}{st:bA}{sp:cv}(p:dO K C "__init__" q st)(c:lD K x C)(m:mg x=J (.ref C))(b:sP "__init__" q st aQ)(h:∀f fd,dN K "__init__" q st f fd->dh P w K mg zn dA k f fd aQ sp):j1 P w K mg zn k x C aQ sp:=by
 obtain⟨f,fd,F,fy⟩:=p;exact⟨f,fd,⟨c.zq,fy.at_,fy.fn,c.zj⟩,h f fd F,F.binds b,m⟩
set_option maxHeartbeats 16000000 in
def Xhn{l:PySem.W.OpenLaw}{w:dc}{K:bS}{mg:ae->Option av}(X:K.In h)(G:h.Ns fp mg)(adN:mg "law"=J (.ref fa))
  {kZ qm qn qo ql oi nf pH pG pI oh og ki:af} {aj3:Tok} {aj2:Tok} {aj6:Tok} {aj1:Tok} {aj7:Tok} {aj4:Tok} {aj0:Tok} {ajY:Tok} {aj5:Tok} {aj8:Tok} {ajZ:Tok}
  (uk:lD K "Source" kZ)
  (ui:lD K "Nothing" qm)
  (uo:lD K "Truth" qn)
  (ur:lD K "Whole" qo)
  (uf:lD K "Fraction" ql)
  (um:lD K "Span" oi)
  (sD:lD K "Letters" nf)
  (uh:lD K "Maybe" pH)
  (ug:lD K "Many" pG)
  (uq:lD K "Turned" pI)
  (uj:lD K "Record" oh)
  (ue:lD K "Choice" og)
  (ra:lD K "Shelf" ki)
  (afY:gB K (.ref kZ) "signs"=J ax)
  (afX:gB K (.ref kZ) "place"=J ax)
  (afZ:gB K (.ref kZ) "turned"=J ax)
  (afW:gB K (.ref kZ) "endless"=J ax)
  (af0:gB K (.ref kZ) "wished"=J ax)
  (ahp:dO K kZ "__init__" "Source.__init__" FC)
  (aho:dO K kZ "draw" "Source.draw" AR)
  (ahr:dO K kZ "turn" "Source.turn" AQ)
  (ahs:dO K kZ "wish" "Source.wish" AP)
  (ahq:dO K kZ "refuse" "Source.refuse" LJ)
  (aeQ:gB K (.ref qm) "__init__"=J (J (.builtin "object.__init__")))
  (ag9:dO K qm "fits" "Nothing.fits" AA)
  (ahb:dO K qm "written" "Nothing.written" A7)
  (ag8:dO K qm "draw" "Nothing.draw" AB)
  (aha:dO K qm "row" "Form.row" k6)
  (aeR:gB K (.ref qn) "__init__"=J (J (.builtin "object.__init__")))
  (ahz:dO K qn "fits" "Truth.fits" Bh)
  (ahB:dO K qn "written" "Truth.written" Av)
  (ahy:dO K qn "draw" "Truth.draw" Bi)
  (ahA:dO K qn "row" "Form.row" k6)
  (aeS:gB K (.ref qo) "__init__"=J (J (.builtin "object.__init__")))
  (ahI:dO K qo "fits" "Whole.fits" Bf)
  (ahK:dO K qo "written" "Whole.written" Au)
  (ahH:dO K qo "draw" "Whole.draw" Bg)
  (ahJ:dO K qo "row" "Form.row" k6)
  (aeP:gB K (.ref ql) "__init__"=J (J (.builtin "object.__init__")))
  (agP:dO K ql "fits" "Fraction.fits" Ax)
  (agR:dO K ql "written" "Fraction.written" A5)
  (agO:dO K ql "draw" "Fraction.draw" Ay)
  (agQ:dO K ql "row" "Form.row" k6)
  (af2:gB K (.ref oi) "low"=J ax)
  (af1:gB K (.ref oi) "high"=J ax)
  (ahv:dO K oi "__init__" "Span.__init__" F5)
  (ahu:dO K oi "fits" "Span.fits" Bq)
  (ahx:dO K oi "written" "Span.written" Az)
  (aht:dO K oi "draw" "Span.draw" Br)
  (ahw:dO K oi "row" "Form.row" k6)
  (afO:gB K (.ref nf) "signs"=J ax)
  (agU:dO K nf "__init__" "Letters.__init__" Fs)
  (agT:dO K nf "fits" "Letters.fits" AJ)
  (agX:dO K nf "written" "Letters.written" Wp)
  (agS:dO K nf "draw" "Letters.draw" AK)
  (agV:dO K nf "places" "Letters.places" Ba)
  (agW:dO K nf "row" "Form.row" k6)
  (afQ:gB K (.ref pH) "inner"=J ax)
  (ag5:dO K pH "__init__" "Maybe.__init__" FT)
  (ag4:dO K pH "fits" "Maybe.fits" Bm)
  (ag7:dO K pH "written" "Maybe.written" Aw)
  (ag3:dO K pH "draw" "Maybe.draw" Bn)
  (ag6:dO K pH "row" "Form.row" k6)
  (afP:gB K (.ref pG) "inner"=J ax)
  (ag0:dO K pG "__init__" "Many.__init__" F6)
  (agZ:dO K pG "fits" "Many.fits" Bu)
  (ag2:dO K pG "written" "Many.written" AI)
  (agY:dO K pG "draw" "Many.draw" Bv)
  (ag1:dO K pG "row" "Form.row" k6)
  (af3:gB K (.ref pI) "inner"=J ax)
  (ahE:dO K pI "__init__" "Turned.__init__" FA)
  (ahD:dO K pI "fits" "Turned.fits" AN)
  (ahG:dO K pI "written" "Turned.written" A8)
  (ahC:dO K pI "draw" "Turned.draw" AO)
  (ahF:dO K pI "row" "Form.row" k6)
  (afS:gB K (.ref oh) "names"=J ax)
  (afR:gB K (.ref oh) "forms"=J ax)
  (ahe:dO K oh "__init__" "Record.__init__" FD)
  (ahd:dO K oh "fits" "Record.fits" AU)
  (ahg:dO K oh "written" "Record.written" A9)
  (ahc:dO K oh "draw" "Record.draw" AV)
  (ahf:dO K oh "row" "Form.row" k6)
  (afN:gB K (.ref og) "names"=J ax)
  (afM:gB K (.ref og) "forms"=J ax)
  (agL:dO K og "__init__" "Choice.__init__" FE)
  (agK:dO K og "fits" "Choice.fits" AW)
  (agN:dO K og "written" "Choice.written" Ar)
  (agJ:dO K og "draw" "Choice.draw" Bc)
  (agM:dO K og "row" "Form.row" k6)
  (afT:gB K (.ref ki) "form"=J ax)
  (afU:gB K (.ref ki) "room"=J ax)
  (afV:gB K (.ref ki) "rows"=J ax)
  (ahi:dO K ki "__init__" "Shelf.__init__" FR)
  (ahk:dO K ki "put" "Shelf.put" Bs)
  (ahm:dO K ki "take" "Shelf.take" Bk)
  (ahh:dO K ki "has" "Shelf.has" Bt)
  (ahl:dO K ki "size" "Shelf.size" Bl)
  (ahj:dO K ki "pages" "Shelf.pages" AS)
  (ahn:dO K ki "told" "Shelf.told" Bj)
  (aiF:d9 K "turned_row" FH)
  (ais:d9 K "lower_digits" Fo)
  (ah0:d9 K "is_count" Gl)
  (ahZ:d9 K "has_whole_row" As)
  (ahO:d9 K "count_row" F3)
  (aiH:d9 K "whole_row" FU)
  (ahW:d9 K "fixed_row" F2)
  (ahS:d9 K "draw_lower_digits" EK)
  (ahP:d9 K "draw_count" FQ)
  (ahT:d9 K "draw_whole" FO)
  (ahQ:d9 K "draw_fixed" FP)
  (aiE:d9 K "steps_of" Gd)
  (ahL:d9 K "are_steps" F4)
  (ahX:d9 K "fraction_of" Fz)
  (ahN:d9 K "common_divisor" E0)
  (ah1:d9 K "is_fraction" Fy)
  (ahY:d9 K "has_fraction_row" EM)
  (aiB:d9 K "row_of_steps" Fn)
  (ahR:d9 K "draw_fraction" Fi)
  (ah3:d9 K "is_number" F1)
  (ait:d9 K "made_of" Gx)
  (ah2:d9 K "is_name" Gy)
  (aiv:d9 K "names_of" Gf)
  (aiG:d9 K "value_of" Gb)
  (aix:d9 K "read_all" Ge)
  (aiy:d9 K "read_count" FJ)
  (ahV:d9 K "first_unlike" Fq)
  (aiD:d9 K "shared_signs" Fm)
  (ahU:d9 K "entry_of" Gm)
  (ahM:d9 K "ascend" GQ)
  (aiw:d9 K "page_of" Gw)
  (aiu:d9 K "may_follow" FK)
  (aiz:d9 K "read_entry" FI)
  (aiA:d9 K "read_rows" FV)
  (aiC:d9 K "rows_of" Gv)
  (ah6:d9 K "_law_cell_at" Fx)
  (aij:d9 K "_law_pool" Gh)
  (aif:d9 K "_law_next" Gi)
  (aim:d9 K "_law_signs" FY)
  (aid:d9 K "_law_names" F0)
  (ain:d9 K "_law_simple" FL)
  (ah9:d9 K "_law_form" Bz)
  (aic:d9 K "_law_made" By)
  (aie:d9 K "_law_near" Gj)
  (ail:d9 K "_law_signed" FN)
  (aia:d9 K "_law_fraction" Fp)
  (air:d9 K "_law_value" Bo)
  (aib:d9 K "_law_listed" Bd)
  (aih:d9 K "_law_order" Bp)
  (aik:d9 K "_law_same" Bx)
  (aiq:d9 K "_law_told" Gg)
  (aii:d9 K "_law_place" FZ)
  (aip:d9 K "_law_there" FW)
  (ah7:d9 K "_law_copied" Be)
  (ah5:d9 K "_law_bend" BA)
  (ah8:d9 K "_law_deed" Gk)
  (aio:d9 K "_law_spans" FX)
  (ah4:d9 K "law" Fb)
  (akx:hf K fp "len"=J ax)
  (akB:hf K fp "range"=J ax)
  (akv:hf K fp "int"=J ax)
  (akF:hf K fp "str"=J ax)
  (akt:hf K fp "bool"=J ax)
  (akG:hf K fp "tuple"=J ax)
  (akw:hf K fp "isinstance"=J ax)
  (akA:hf K fp "min"=J ax)
  (akz:hf K fp "max"=J ax)
  (aky:hf K fp "list"=J ax)
  (aks:hf K fp "all"=J ax)
  (akC:hf K fp "reversed"=J ax)
  (aku:hf K fp "enumerate"=J ax)
  (akH:hf K fp "zip"=J ax)
  (akD:hf K fp "set"=J ax)
  (akE:hf K fp "sorted"=J ax)
  (akr:hf K fp "abs"=J ax)
  (acL:hf K fp "MOST_DIGITS"=J (J (.int 255 aj3)))
  (acK:hf K fp "MOST_AHEAD"=J (J (.int 7 aj2)))
  (acO:hf K fp "MOST_SIGNS"=J (J (.int 60 aj6)))
  (acJ:hf K fp "LONGEST_TEXT"=J (J (.int 200 aj1)))
  (acP:hf K fp "MOST_VALUES"=J (J (.int 60 aj7)))
  (acM:hf K fp "MOST_PARTS"=J (J (.int 20 aj4)))
  (acI:hf K fp "LONGEST_NAME"=J (J (.int 12 aj0)))
  (acG:hf K fp "LEAST_ROOM"=J (J (.int 2 ajY)))
  (acN:hf K fp "MOST_ROOM"=J (J (.int 20 aj5)))
  (acQ:hf K fp "SMALL_LETTERS"=J (J (.str "abcdefghijklmnopqrstuvwxyz" aj8)))
  (acH:hf K fp "LETTERS_AND_FIGURES"=J (J (.str "abcdefghijklmnopqrstuvwxyzABCDEFGHIJKLMNOPQRSTUVWXYZ0123456789" ajZ)))
  : ∃fd:jc,(∀(s:aR)(v:av),BindsTo s fd ⟨[v],[]⟩ [("_law_script",v)])/\∀zn:bG,K.In zn->zn.Ns fp mg->dh l.prog w K mg zn dA 17 fa fd ["_law_script"] (Rg K):=by
 obtain⟨_,fd,KI,abx⟩:=ah4;have e:=adN.symm.trans (ic X G abx);cases e;have HF:=KI.ex;have afz:=ic X G uk.a;have wU:=ic X G ui.a;have wV:=ic X G uo.a;have wW:=ic X G ur.a;have wR:=ic X G uf.a;have afA:=ic X G um.a;have afu:=ic X G sD.a;have afw:=ic X G uh.a;have afv:=ic X G ug.a;have afB:=ic X G uq.a;have afx:=ic X G uj.a;have aft:=ic X G ue.a;have afy:=ic X G ra.a;have ajP:MethAt K kZ "draw" "Source.draw" AR ["self"]:=aho.at uk.cl gE;have ajR:MethAt K kZ "turn" "Source.turn" AQ ["self"]:=ahr.at uk.cl gE;have ajS:MethAt K kZ "wish" "Source.wish" AP ["self","sign"]:=ahs.at uk.cl dy;have ajQ:MethAt K kZ "refuse" "Source.refuse" LJ ["self"]:=ahq.at uk.cl gE;have vc:l8 K qm:=⟨ui.zq,aeQ,ui.zj⟩;have vd:l8 K qn:=⟨uo.zq,aeR,uo.zj⟩;have ve:l8 K qo:=⟨ur.zq,aeS,ur.zj⟩;have vb:l8 K ql:=⟨uf.zq,aeP,uf.zj⟩;have ajI:MethAt K nf "places" "Letters.places" Ba ["self","text"]:=agV.at sD.cl dy;have ajL:MethAt K ki "put" "Shelf.put" Bs ["self","value"]:=ahk.at ra.cl dy;have ajN:MethAt K ki "take" "Shelf.take" Bk ["self","value"]:=ahm.at ra.cl dy;have ajJ:MethAt K ki "has" "Shelf.has" Bt ["self","value"]:=ahh.at ra.cl dy;have ajM:MethAt K ki "size" "Shelf.size" Bl ["self"]:=ahl.at ra.cl gE;have ajK:MethAt K ki "pages" "Shelf.pages" AS ["self"]:=ahj.at ra.cl gE;have ajO:MethAt K ki "told" "Shelf.told" Bj ["self","start","end"]:=ahn.at ra.cl pW;obtain⟨_,_,TQ⟩:=aiF.at X G gE;obtain⟨_,_,TB⟩:=ais.at X G dy;obtain⟨_,_,S8⟩:=ah0.at X G gE;obtain⟨_,_,KH⟩:=ahZ.at X G gE;obtain⟨_,_,SX⟩:=ahO.at X G gE;obtain⟨_,_,TS⟩:=aiH.at X G gE;obtain⟨_,_,S5⟩:=ahW.at X G dy;obtain⟨_,_,S1⟩:=ahS.at X G dy;obtain⟨_,_,SY⟩:=ahP.at X G gE;obtain⟨_,_,S2⟩:=ahT.at X G gE;obtain⟨_,_,SZ⟩:=ahQ.at X G dy;obtain⟨_,_,TP⟩:=aiE.at X G gE;obtain⟨_,_,SU⟩:=ahL.at X G gE;obtain⟨_,_,S6⟩:=ahX.at X G gE;obtain⟨_,_,SW⟩:=ahN.at X G dy;obtain⟨_,_,S9⟩:=ah1.at X G gE;obtain⟨_,_,S7⟩:=ahY.at X G gE;obtain⟨_,_,TM⟩:=aiB.at X G gE;obtain⟨_,_,S0⟩:=ahR.at X G gE;obtain⟨_,_,Tb⟩:=ah3.at X G gE;obtain⟨_,_,TC⟩:=ait.at X G dy;obtain⟨_,_,Ta⟩:=ah2.at X G gE;obtain⟨_,_,TG⟩:=aiv.at X G gE;obtain⟨_,_,TR⟩:=aiG.at X G dy;obtain⟨_,_,TI⟩:=aix.at X G dy;obtain⟨_,_,TJ⟩:=aiy.at X G dy;obtain⟨_,_,S4⟩:=ahV.at X G dy;obtain⟨_,_,TO⟩:=aiD.at X G dy;obtain⟨_,_,S3⟩:=ahU.at X G dy;obtain⟨_,_,SV⟩:=ahM.at X G gE;obtain⟨_,_,TH⟩:=aiw.at X G gE;obtain⟨_,_,TF⟩:=aiu.at X G pW;obtain⟨_,_,TK⟩:=aiz.at X G pW;obtain⟨_,_,TL⟩:=aiA.at X G gE;obtain⟨_,_,TN⟩:=aiC.at X G gE;obtain⟨_,_,Td⟩:=ah6.at X G dy;obtain⟨_,_,Tr⟩:=aij.at X G gE;obtain⟨_,_,To⟩:=aif.at X G gE;obtain⟨_,_,Tu⟩:=aim.at X G gE;obtain⟨_,_,Tl⟩:=aid.at X G dy;obtain⟨_,_,Tv⟩:=ain.at X G dy;obtain⟨_,_,Tg⟩:=ah9.at X G dy;obtain⟨_,_,Tj⟩:=aic.at X G gE;obtain⟨_,_,Tn⟩:=aie.at X G gE;obtain⟨_,_,Tt⟩:=ail.at X G gE;obtain⟨_,_,Th⟩:=aia.at X G dy;obtain⟨_,_,TA⟩:=air.at X G dy;obtain⟨_,_,Ti⟩:=aib.at X G pW;obtain⟨_,_,Tp⟩:=aih.at X G pW;obtain⟨_,_,Ts⟩:=aik.at X G dy;obtain⟨_,_,Tz⟩:=aiq.at X G dy;obtain⟨_,_,Tq⟩:=aii.at X G pW;obtain⟨_,_,Tx⟩:=aip.at X G pW;obtain⟨_,_,Te⟩:=ah7.at X G gE;obtain⟨_,_,Tc⟩:=ah5.at X G gE;obtain⟨_,_,Tf⟩:=ah8.at X G Oe;obtain⟨_,_,Tw⟩:=aio.at X G Oe;have nb:dn mg:=⟨kJ X G akx,kJ X G akB,kJ X G akv,kJ X G akF,kJ X G akt,kJ X G akG,kJ X G akw,kJ X G akA,kJ X G akz,kJ X G aky,kJ X G aks,kJ X G akC,kJ X G aku,kJ X G akH,kJ X G akD,kJ X G akE,kJ X G akr⟩;have HV:hi mg "MOST_DIGITS" (.int 255):=⟨_,ic X G acL,⟨_,rfl⟩⟩;have wb:hi mg "MOST_AHEAD" (.int 7):=⟨_,ic X G acK,⟨_,rfl⟩⟩;have HY:hi mg "MOST_SIGNS" (.int 60):=⟨_,ic X G acO,⟨_,rfl⟩⟩;have p3:hi mg "LONGEST_TEXT" (.int 200):=⟨_,ic X G acJ,⟨_,rfl⟩⟩;have p4:hi mg "MOST_VALUES" (.int 60):=⟨_,ic X G acP,⟨_,rfl⟩⟩;have HW:hi mg "MOST_PARTS" (.int 20):=⟨_,ic X G acM,⟨_,rfl⟩⟩;have HU:hi mg "LONGEST_NAME" (.int 12):=⟨_,ic X G acI,⟨_,rfl⟩⟩;have HS:hi mg "LEAST_ROOM" (.int 2):=⟨_,ic X G acG,⟨_,rfl⟩⟩;have HX:hi mg "MOST_ROOM" (.int 20):=⟨_,ic X G acN,⟨_,rfl⟩⟩;have HZ:hi mg "SMALL_LETTERS" (.str kG):=⟨_,ic X G acQ,⟨_,rfl⟩⟩;have HT:hi mg "LETTERS_AND_FIGURES" (.str qx):=⟨_,ic X G acH,⟨_,rfl⟩⟩;refine⟨fd,fun s v=>?_,fun zn _ _=>?_⟩
 ·obtain⟨_,_,_,_,_,_,_,_,_,rfl,_⟩:=HF;exact .of_eq I
 have T:s8 K kZ:=⟨uk.cl,afY,afX,afZ,afW,af0⟩;have ot:=YA (P:=l.prog) (w:=w) (zn:=zn) TQ;have sT:=XT (P:=l.prog) (w:=w) (zn:=zn) nb TB;have om:=Zb S5 sT;have ng:=ZH (P:=l.prog) (w:=w) (zn:=zn) HV S8;have sR:=XA KH ng;have SR:=Xn KH ng;have l3:=Zc wb SX ng sT;have ry:=Y2 TS l3 ot;have rx:=Zx (P:=l.prog) (w:=w) (zn:=zn) TP;have uS:=Zd (P:=l.prog) (w:=w) (zn:=zn) nb SU;have Ej:=Yh nb S6 uS;have Eg:=Xo (P:=l.prog) (w:=w) (zn:=zn) SW;have Ek:=Yg S9 Eg;have xv:=Xf nb S7 Ek rx sR ng;have xw:=XS nb TM ry l3 ot;have hj:=(fc (P:=l.prog) (w:=w) (mg:=mg) (zn:=zn) ajP fun _ _ G=>VR nb T G).1;have l7:=(fc (P:=l.prog) (w:=w) (mg:=mg) (zn:=zn) ajR fun _ _ G=>VN T G).1;have AE:=(fc (P:=l.prog) (w:=w) (mg:=mg) (zn:=zn) ajS fun _ _ G=>VM T G).1;have l6:=(fc (P:=l.prog) (w:=w) (mg:=mg) (zn:=zn) (k:=1) (sp:=uC) ajQ fun _ _ _=>W9).1;have vk:=ahp.mk (P:=l.prog) (w:=w) (zn:=zn) uk afz (pW fun _ _ _ _ _ _ _ _ _=>rfl) fun _ _ G=>Zy T G;have Ag:=Xd nb T.cl S1 hj;have pK:=YL wb T.cl SY hj Ag;have ru:=YJ T.cl S2 hj l7 pK;have oj:=YK nb T.cl SZ hj l6;have xu:=XB nb T.cl S0 hj l7 AE l6 ru pK uS Ej;have nh:=YI (P:=l.prog) (w:=w) (zn:=zn) nb Tb;have oq:=aab (P:=l.prog) (w:=w) (zn:=zn) nb TC;have El:=aac nb HU HZ Ta oq;have u2:=ZB nb HW TG El;have fb:vy K oi:=⟨um.cl,af2,af1⟩;have E6:s6 K nf:=⟨sD.cl,afO⟩;have T8:oB K oh:=⟨uj.cl,afS,afR⟩;have T6:oB K og:=⟨ue.cl,afN,afM⟩;have T7:k2 K pH:=⟨uh.cl,afQ⟩;have T9:k2 K pG:=⟨ug.cl,afP⟩;have g0:k2 K pI:=⟨uq.cl,af3⟩;have vl:=ahv.mk (P:=l.prog) (w:=w) (zn:=zn) um afA (pW fun _ _ _ _ _ _ _ _ _=>rfl) fun _ _ G=>Y3 fb G;have vg:=agU.mk (P:=l.prog) (w:=w) (zn:=zn) sD afu (dy fun _ _ _ _ _ _ _ _=>rfl) fun _ _ G=>ZC nb HY HT E6 G oq;have vj:=ahe.mk (P:=l.prog) (w:=w) (zn:=zn) uj afx (dy fun _ _ _ _ _ _ _ _=>rfl) fun _ _ G=>Zz nb T8 G u2;have vf:=agL.mk (P:=l.prog) (w:=w) (zn:=zn) ue aft (dy fun _ _ _ _ _ _ _ _=>rfl) fun _ _ G=>ZJ nb T6 G u2;have vi:=ag5.mk (P:=l.prog) (w:=w) (zn:=zn) uh afw (dy fun _ _ _ _ _ _ _ _=>rfl) fun _ _ G=>YD T7 G;have vh:=ag0.mk (P:=l.prog) (w:=w) (zn:=zn) ug afv (dy fun _ _ _ _ _ _ _ _=>rfl) fun _ _ G=>Y5 T9 G;have vm:=ahE.mk (P:=l.prog) (w:=w) (zn:=zn) uq afB (dy fun _ _ _ _ _ _ _ _=>rfl) fun _ _ G=>Yd g0 G;obtain⟨c,hc⟩:∃c:ey,c=⟨fun k=>[qm,qn,qo,ql][k],oi,nf,fun k=>[pH,pG,pI][k],fun k=>[oh,og][k]⟩:=⟨_,rfl⟩;have ab4:c.b 0=qm:=by rw[hc];rfl
 have ab7:c.b 1=qn:=by rw[hc];rfl
 have ab9:c.b 2=qo:=by rw[hc];rfl
 have ab0:c.b 3=ql:=by rw[hc];rfl
 have ab6:c.s=oi:=by rw[hc]
 have ab1:c.l=nf:=by rw[hc]
 have ab3:c.o 0=pH:=by rw[hc];rfl
 have ab2:c.o 1=pG:=by rw[hc];rfl
 have ab8:c.o 2=pI:=by rw[hc];rfl
 have ab5:c.t 0=oh:=by rw[hc];rfl
 have abZ:c.t 1=og:=by rw[hc];rfl
 clear hc;subst ab4;subst ab7;subst ab9;subst ab0;subst ab6;subst ab1;subst ab3;subst ab2;subst ab8;subst ab5;subst abZ;have E5:A1 K c:=⟨fb,E6,fun k=>by rcases rS k with rfl|rfl|rfl<;>assumption,fun k=>by rcases tC k with rfl|rfl<;>assumption⟩;have T1:rF K c "fits" Hi Ho ["self","value"]:=tn (p:=fun i=>MethAt K (fX c i) "fits" (Hi i) (Ho i) ["self","value"]) (ag9.at ui.cl dy) (ahz.at uo.cl dy) (ahI.at ur.cl dy) (agP.at uf.cl dy) (ahu.at um.cl dy) (agT.at sD.cl dy) (ag4.at uh.cl dy) (agZ.at ug.cl dy) (ahD.at uq.cl dy) (ahd.at uj.cl dy) (agK.at ue.cl dy);have T3:rF K c "written" GA GL ["self","value"]:=tn (p:=fun i=>MethAt K (fX c i) "written" (GA i) (GL i) ["self","value"]) (ahb.at ui.cl dy) (ahB.at uo.cl dy) (ahK.at ur.cl dy) (agR.at uf.cl dy) (ahx.at um.cl dy) (agX.at sD.cl dy) (ag7.at uh.cl dy) (ag2.at ug.cl dy) (ahG.at uq.cl dy) (ahg.at uj.cl dy) (agN.at ue.cl dy);have TZ:rF K c "draw" Hj Hp ["self","source"]:=tn (p:=fun i=>MethAt K (fX c i) "draw" (Hj i) (Hp i) ["self","source"]) (ag8.at ui.cl dy) (ahy.at uo.cl dy) (ahH.at ur.cl dy) (agO.at uf.cl dy) (aht.at um.cl dy) (agS.at sD.cl dy) (ag3.at uh.cl dy) (agY.at ug.cl dy) (ahC.at uq.cl dy) (ahc.at uj.cl dy) (agJ.at ue.cl dy);have T2:rF K c "row" (fun _=>"Form.row") (fun _=>k6) ["self","value"]:=tn (p:=fun i=>MethAt K (fX c i) "row" ("Form.row") (k6) ["self","value"]) (aha.at ui.cl dy) (ahA.at uo.cl dy) (ahJ.at ur.cl dy) (agQ.at uf.cl dy) (ahw.at um.cl dy) (agW.at sD.cl dy) (ag6.at uh.cl dy) (ag1.at ug.cl dy) (ahF.at uq.cl dy) (ahf.at uj.cl dy) (agM.at ue.cl dy);have xH:=(fc (P:=l.prog) (w:=w) (mg:=mg) (zn:=zn) ajI fun _ _ G=>Xs E6 G).1;have lA:=Uk (P:=l.prog) (w:=w) (zn:=zn) nb E5 T1 p4 p3 nh SR oq xv 4;have lC:=ZT nb E5 T3 xH ry om ot rx xw 4;have l0:=Vg nb E5 TZ T.cl p4 p3 hj l7 l6 oj ru xu 4;have lB:=Wl T2 lA lC;have Ey:=Zw nb T TR l0;have Et:=ZA TI vk Ey;have En:=ZE (P:=l.prog) (w:=w) (zn:=zn) nb Tr;have KA:=Y9 (P:=l.prog) (w:=w) (zn:=zn) nb To;have jw:=aY.less KA fun _ _ _ _ h=>aaZ h;have Eo:=Y8 (P:=l.prog) (w:=w) (zn:=zn) nb Tu;have uX:=Za (P:=l.prog) (w:=w) (zn:=zn) nb Tl;have uZ:=YF Tv jw Eo;have uV:=LQ nb Tg jw uX uZ 3;have qp:=LP nb Tj vc wU vd wV ve wW vb wR vl vg vj vf vi vh vm 4;have Ah:=ZF (P:=l.prog) (w:=w) (zn:=zn) nb Tn;have sS:=YG Tt Ah;have uW:=XU (P:=l.prog) (w:=w) (zn:=zn) nb Th;have qq:=LK nb TA KA sS uW 4;have l4:=L4 (P:=l.prog) (w:=w) (zn:=zn) nb Ts 12;have oo:=FG (P:=l.prog) (w:=w) (zn:=zn) nb Tp Ti 4;have uT:=Yf (P:=l.prog) (w:=w) (zn:=zn) nb Td;have u1:=ZD (P:=l.prog) (w:=w) (zn:=zn) nb Tz;have uY:=Ye nb Tq oo;have u0:=Y6 nb Tx oo uY;have uU:=LR (P:=l.prog) (w:=w) (zn:=zn) nb Te 6;have rv:=L5 (P:=l.prog) (w:=w) (zn:=zn) nb Tc 12;have sU:=YC T TJ vk pK;have Ei:=XV (P:=l.prog) (w:=w) (zn:=zn) nb S4;have u3:=XR TO Ei;have Eh:=ZI nb S3 u3 l3;have Ef:=aaW (P:=l.prog) (w:=w) (zn:=zn) nb SV;have Es:=aaa nb TH Ef Eh l3;have Er:=YE nb TF u3;have Eu:=YB nb TK sU Er;have Ew:=Y4 nb TL sU Eu;have Ex:=Z9 nb TN Ew;have mH:oA K ki:=⟨ra.cl,afT,afU,afV⟩;have EP:=ahi.mk (P:=l.prog) (w:=w) (zn:=zn) ra afy (pW fun _ _ _ _ _ _ _ _ _=>rfl) fun _ _ G=>Z8 HS HX mH G;have ES:=(fc (P:=l.prog) (w:=w) (mg:=mg) (zn:=zn) ajL fun _ _ G=>WD nb mH G lB).1;have EU:=(fc (P:=l.prog) (w:=w) (mg:=mg) (zn:=zn) ajN fun _ _ G=>VP nb mH G lB).1;have vn:=(fc (P:=l.prog) (w:=w) (mg:=mg) (zn:=zn) ajJ fun _ _ G=>WE nb mH G lB).1;have rE:=(fc (P:=l.prog) (w:=w) (mg:=mg) (zn:=zn) ajO fun _ _ G=>VO nb mH G Et).1;have ET:=(fc (P:=l.prog) (w:=w) (mg:=mg) (zn:=zn) ajM fun _ _ G=>VQ nb mH G).1;have ER:=(fc (P:=l.prog) (w:=w) (mg:=mg) (zn:=zn) ajK fun _ _ G=>UI nb mH G Es).1;have Em:=ZG nb Tf mH mH.cl u0 uY uU l4 rv u1 ES EU vn;have Ep:=Y7 nb Tw mH mH.cl uT l4 Ex ER rE lB;exact UJ nb mH mH.cl KI En jw uV qp qq uT EP rE ET vn l4 rv u1 u0 Em Ep
def walk{l:PySem.W.OpenLaw}{q:dI}{d:DefRec}{K:Params->bS}(aV:l.most=J 63)(qV:d.params.defaults=[])
  (Ih:∀(w:dc)(h:bG),rJ w h->(K w.params).In h)
  (F:∀(w:dc)(mg:ae->Option av)(fa:af)(h:bG),(K w.params).In h->h.Ns fp mg->mg d.name=J (.ref fa)->
   ∃fd:jc,(∀(s:aR)(u:av),BindsTo s fd ⟨[u],[]⟩ [("_law_script",u)])/\∀zn:bG,(K w.params).In zn->zn.Ns fp mg->dh l.prog w (K w.params) mg zn dA 17 fa fd ["_law_script"] (Rg (K w.params))) :
  PySem.W.WalkO q loose vD rJ l.row.toRowW d [] (fun f vs=>PySem.call f vs) :=
 c7.Vn (n:=63) (k:=17) (x:="_law_script") (CX:=fun _=>dA) (sp:=fun w=>Rg (K w.params)) aV (by decide) qV ⟨rfl,by decide,by decide⟩ Ih F (fun _ _ a ns aB _ df=>⟨a,ns,rfl,df,aB,fun _=>rfl⟩) fun _ _ _ _ _ z=>z
end
end KR
end
open PySem PySem.W PyProof.Rows
set_option maxRecDepth 100000 in
set_option maxHeartbeats 0 in
theorem PySem.Challenge.cw_keyrise_k71_put_and_take_holds : PySem.Challenge.rw_keyrise_k71_put_and_take.Holds := by
 refine KR.GG.2 ?_
 delta KR.GG
 dsimp only
 k_fill
 refine KR.walk (l:=PySem.Challenge.rw_keyrise_k71_put_and_take) rfl rfl (fun w h Y=>PySem.W.kIn_of Y) ?F
 case F =>
  intro w mg fa h KX G hmg
  refine' KR.Xhn KX G hmg ?a0 ?a1 ?a2 ?a3 ?a4 ?a5 ?a6 ?a7 ?a8 ?a9 ?a10 ?a11 ?a12 ?a13 ?a14 ?a15 ?a16 ?a17 ?a18 ?a19 ?a20 ?a21 ?a22 ?a23 ?a24 ?a25 ?a26 ?a27 ?a28 ?a29 ?a30 ?a31 ?a32 ?a33 ?a34 ?a35 ?a36 ?a37 ?a38 ?a39 ?a40 ?a41 ?a42 ?a43 ?a44 ?a45 ?a46 ?a47 ?a48 ?a49 ?a50 ?a51 ?a52 ?a53 ?a54 ?a55 ?a56 ?a57 ?a58 ?a59 ?a60 ?a61 ?a62 ?a63 ?a64 ?a65 ?a66 ?a67 ?a68 ?a69 ?a70 ?a71 ?a72 ?a73 ?a74 ?a75 ?a76 ?a77 ?a78 ?a79 ?a80 ?a81 ?a82 ?a83 ?a84 ?a85 ?a86 ?a87 ?a88 ?a89 ?a90 ?a91 ?a92 ?a93 ?a94 ?a95 ?a96 ?a97 ?a98 ?a99 ?a100 ?a101 ?a102 ?a103 ?a104 ?a105 ?a106 ?a107 ?a108 ?a109 ?a110 ?a111 ?a112 ?a113 ?a114 ?a115 ?a116 ?a117 ?a118 ?a119 ?a120 ?a121 ?a122 ?a123 ?a124 ?a125 ?a126 ?a127 ?a128 ?a129 ?a130 ?a131 ?a132 ?a133 ?a134 ?a135 ?a136 ?a137 ?a138 ?a139 ?a140 ?a141 ?a142 ?a143 ?a144 ?a145 ?a146 ?a147 ?a148 ?a149 ?a150 ?a151 ?a152 ?a153 ?a154 ?a155 ?a156 ?a157 ?a158 ?a159 ?a160 ?a161 ?a162 ?a163 ?a164 ?a165 ?a166 ?a167 ?a168 ?a169 ?a170 ?a171 ?a172 ?a173 ?a174 ?a175 ?a176 ?a177 ?a178 ?a179 ?a180 ?a181 ?a182 ?a183 ?a184
  (case a0 | a1 | a2 | a3 | a4 | a5 | a6 | a7 | a8 | a9 | a10 | a11 | a12=>apply KR.cpMk<;>k_is)
  (case a13 | a14 | a15 | a16 | a17=>k_is)
  (case a18 | a19 | a20 | a21 | a22=>apply KR.mpMk<;>k_is)
  (case a23=>k_is)
  (case a24 | a25 | a26 | a27=>apply KR.mpMk<;>k_is)
  (case a28=>k_is)
  (case a29 | a30 | a31 | a32=>apply KR.mpMk<;>k_is)
  (case a33=>k_is)
  (case a34 | a35 | a36 | a37=>apply KR.mpMk<;>k_is)
  (case a38=>k_is)
  (case a39 | a40 | a41 | a42=>apply KR.mpMk<;>k_is)
  (case a43 | a44=>k_is)
  (case a45 | a46 | a47 | a48 | a49=>apply KR.mpMk<;>k_is)
  (case a50=>k_is)
  (case a51 | a52 | a53 | a54 | a55 | a56=>apply KR.mpMk<;>k_is)
  (case a57=>k_is)
  (case a58 | a59 | a60 | a61 | a62=>apply KR.mpMk<;>k_is)
  (case a63=>k_is)
  (case a64 | a65 | a66 | a67 | a68=>apply KR.mpMk<;>k_is)
  (case a69=>k_is)
  (case a70 | a71 | a72 | a73 | a74=>apply KR.mpMk<;>k_is)
  (case a75 | a76=>k_is)
  (case a77 | a78 | a79 | a80 | a81=>apply KR.mpMk<;>k_is)
  (case a82 | a83=>k_is)
  (case a84 | a85 | a86 | a87 | a88=>apply KR.mpMk<;>k_is)
  (case a89 | a90 | a91=>k_is)
  (case a92 | a93 | a94 | a95 | a96 | a97 | a98=>apply KR.mpMk<;>k_is)
  (case a99 | a100 | a101 | a102 | a103 | a104 | a105 | a106 | a107 | a108 | a109 | a110 | a111 | a112 | a113 | a114 | a115 | a116 | a117 | a118 | a119 | a120 | a121 | a122 | a123 | a124 | a125 | a126 | a127 | a128 | a129 | a130 | a131 | a132 | a133 | a134 | a135 | a136 | a137 | a138 | a139 | a140 | a141 | a142 | a143 | a144 | a145 | a146 | a147 | a148 | a149 | a150 | a151 | a152 | a153 | a154 | a155 | a156=>apply KR.fpMk<;>k_is)
  (case a157 | a158 | a159 | a160 | a161 | a162 | a163 | a164 | a165 | a166 | a167 | a168 | a169 | a170 | a171 | a172 | a173 | a174 | a175 | a176 | a177 | a178 | a179 | a180 | a181 | a182 | a183 | a184=>k_is)
